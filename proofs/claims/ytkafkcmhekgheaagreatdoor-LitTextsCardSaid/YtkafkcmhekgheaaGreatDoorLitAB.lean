/- Literals: alive. -/
import Derived.Test.YtkafkcmhekgheaaGreatDoorLitAA
import Derived.Lib.SmallJoins
namespace Go.Proofs.YtkafkcmhekgheaaGreatDoor
open Go.RowKit
set_option linter.unusedSimpArgs false
set_option linter.unusedVariables false

/-- What the library's and the program's tables hold. -/
structure Env (w : World) : Prop where
  max : MaxAt w
  tabs : Tabs w
  bases : Q.Bases w
theorem Env.below {w w' : World} (h : Env w) (hb : Below w.heap.size w w') : Env w' := ⟨h.max.below hb, h.tabs.below hb, h.bases.below hb⟩
theorem num_one {w : World} {v : Value} {N : Int} (h : Q.Num w v N) (h0 : 0 < N) (h1 : N < 4294967296) : ∃ b off cap, v = .slice (some ⟨b, off, none⟩) 1 cap ∧ b < w.heap.size ∧ w.cell? ⟨b, off, none⟩ = some (.int .u32 N) := by
  obtain ⟨xs, ⟨ao, cap, hv, hc, hr, hu, -, -⟩, hb, hval⟩ := h
  have hN : NM.U32s [N] := fun x hx => by simp at hx; subst hx; omega
  have c2 : NM.rightB [N] = true := by unfold NM.rightB; simp [NM.lb]; omega
  have e := (NM.rightB_canon hu hb).1.inj (NM.rightB_canon hN c2).1 (by rw [hval]; simp [NM.val])
  subst e
  rcases hr with hr | ⟨b, off, rfl, hlt, hcell⟩
  · cases hr
  · exact ⟨b, off, cap, hv, hlt, by have := hcell 0 (by simp); simpa [NM.lb] using this⟩
theorem parse_lit (s : ByteArray) (N : Int) (w : World) (hB : Q.Bases w) (hs : s.size ≤ 1000) (ht : Q.toldB s 10 = true) (hp : Q.pv s 10 s.size = N) (hN : N < 4294967296) :
    Calls Tryz.prog 36 #[.string s, .int .i64 10] w fun e w' => (∃ v, e = .returned (.tuple #[v, .int .i64 0]) ∧ Q.Num w' v N) ∧ Below w.heap.size w w' := by
  refine (Q.parse_any s 10 w hB (by omega)).mono ?_
  rintro e w' ⟨h, hb⟩
  refine ⟨?_, hb⟩
  have hpw : (4294967296 : Int) ≤ NM.pw 16 := by decide +kernel
  rcases h with ⟨h1, _⟩ | ⟨_, h1, _⟩ | ⟨_, _, h1⟩
  · exact absurd h1 (by decide)
  · rw [ht] at h1; cases h1
  · rw [hp] at h1
    rcases h1 with ⟨_, v, he, hn⟩ | ⟨h2, _⟩
    · exact ⟨v, he, hn⟩
    · omega
def l150 : ByteArray := ⟨#[49, 53, 48]⟩
theorem told150 : Q.toldB l150 10 = true := by decide +kernel
theorem pv150 : Q.pv l150 10 l150.size = 150 := by decide +kernel
theorem plain150 : plainB l150 = true := by decide +kernel
theorem bad150 : badE l150 = 0 := by decide +kernel
set_option maxHeartbeats 4000000 in
set_option maxRecDepth 100000 in
theorem int_150 (w : World) (hE : Env w) :
    Calls Tryz.prog 18 #[.string l150] w fun e w' => (∃ v, e = .returned (.tuple #[v, .int .i64 0]) ∧ Q.Num w' v 150) ∧ Below w.heap.size w w' := by
  have hC := check_err l150 w (by decide)
  rw [bad150] at hC
  have HC := Lib.hid hC
  have HEB := Lib.hid (fun w' (hb : Below w.heap.size w w') => hE.below hb)
  have HD := Lib.hid (fun w (hm : MaxAt w) => digits_any l150 w hm plain150)
  have HB := Lib.hid (fun w (hm : MaxAt w) => bare_any l150 w (by decide) hm (plain_filter plain150))
  have HP := Lib.hid (fun w (hb : Q.Bases w) => parse_lit l150 150 w hb (by decide) told150 pv150 (by decide))
  clear hC hE
  unfold l150 at *
  go_enter Tryz.func18, Tryz.ntmps18
  go_wp2_with fail
  refine HC.out.mono ?_
  rintro x w1 ⟨⟨k, rfl⟩, hb⟩
  have B1 := Lib.hid hb
  clear hb
  go_wp2_with fail
  refine (HD.out _ (HEB.out _ B1.out).max).mono ?_
  rintro x w2 ⟨rfl, hb⟩
  have B2 := Lib.hid (B1.out.trans (hb.mono B1.out.size))
  clear hb
  go_wp2_with fail
  refine (HB.out _ (HEB.out _ B2.out).max).mono ?_
  rintro x w3 ⟨rfl, hb⟩
  have B3 := Lib.hid (B2.out.trans (hb.mono B2.out.size))
  clear hb
  go_wp2_with fail
  refine (HP.out _ (HEB.out _ B3.out).bases).mono ?_
  rintro x w4 ⟨⟨v, rfl, hn⟩, hb⟩
  have B4 := Lib.hid (B3.out.trans (hb.mono B3.out.size))
  have HN := Lib.hid hn
  clear hb hn
  go_wp2_with fail
  go_ret2
  exact ⟨⟨v, rfl, HN.out⟩, B4.out⟩
def l15 : ByteArray := ⟨#[49, 53]⟩
def l10 : ByteArray := ⟨#[49, 48]⟩
theorem told15 : Q.toldB l15 10 = true := by decide +kernel
theorem pv15 : Q.pv l15 10 l15.size = 15 := by decide +kernel
theorem told10 : Q.toldB l10 10 = true := by decide +kernel
theorem pv10 : Q.pv l10 10 l10.size = 10 := by decide +kernel
theorem frac150 : (NM.frac false 150 1).num.natAbs = 150 := by decide +kernel
theorem den150 : (NM.frac false 150 1).den = 1 := by decide +kernel
/-- A fraction that is the number 150. -/
def Is150 (w : World) (v : Value) : Prop := ∃ (sg : Bool) (b off cap : Nat) (dd : Option Addr) (dn dc : Nat), v = .agg #[.bool sg, .slice (some ⟨b, off, none⟩) 1 cap, .slice dd dn dc] ∧ b < w.heap.size ∧ w.cell? ⟨b, off, none⟩ = some (.int .u32 150)
theorem Is150.below {w w' : World} {v : Value} (h : Is150 w v) (hb : Below w.heap.size w w') : Is150 w' v := by
  obtain ⟨sg, b, off, cap, dd, dn, dc, h1, h2, h3⟩ := h
  exact ⟨sg, b, off, cap, dd, dn, dc, h1, Nat.lt_of_lt_of_le h2 hb.size, (hb.cell h2).trans h3⟩
theorem box_ne {w : World} {b0 b off : Nat} {s : Bool} {a1 a2 : Option Addr} {n1 n2 c1 c2 : Nat} {N : Int} {T : TypeId} (h : BlockAt w b0 #[.bool s, .slice a1 n1 c1, .slice a2 n2 c2] T) (hc : w.cell? ⟨b, off, none⟩ = some (.int .u32 N)) : b ≠ b0 := by
  intro e
  subst e
  have hx := (h.cell off).symm.trans hc
  rcases (show off = 0 ∨ off = 1 ∨ off = 2 ∨ 3 ≤ off by omega) with rfl | rfl | rfl | h3
  · cases hx
  · cases hx
  · cases hx
  · rw [Array.getElem?_eq_none (by simpa using h3)] at hx; cases hx
set_option maxHeartbeats 8000000 in
set_option maxRecDepth 100000 in
theorem scaled_150 (w : World) (hE : Env w) :
    Calls Tryz.prog 32 #[.string l15, .int .i64 1] w fun e w' => (∃ v, e = .returned (.tuple #[v, .int .i64 0]) ∧ Is150 w' v) ∧ Below w.heap.size w w' := by
  have hb0 := BlockAt.new w #[.bool false, .slice none 0 0, .slice none 0 0] 49
  have bq0 : Below w.heap.size w (w.alloc (.cells #[.bool false, .slice none 0 0, .slice none 0 0] 49)) := (Below.refl _ _).alloc (Nat.le_refl _) _
  obtain ⟨w1, hw1⟩ : ∃ x, w.alloc (.cells #[.bool false, .slice none 0 0, .slice none 0 0] 49) = x := ⟨_, rfl⟩
  rw [hw1] at hb0 bq0
  have K1 := Lib.hid hb0
  have B1 := Lib.hid bq0
  have HEB := Lib.hid (fun w' (hb : Below w.heap.size w w') => hE.below hb)
  have HP15 := Lib.hid (fun w (hb : Q.Bases w) => parse_lit l15 15 w hb (by decide) told15 pv15 (by decide))
  have HP10 := Lib.hid (fun w (hb : Q.Bases w) => parse_lit l10 10 w hb (by decide) told10 pv10 (by decide))
  have HRE := Lib.hid (fun w => Tryz.strings_Repeat_one ⟨#[48]⟩ w)
  have hmx : ∀ (ts : Array TypeId) (t : TypeId) (W : World), (Builtin.max_ ts t #[.int .i64 1, .int .i64 (-1)]).run Tryz.prog W = .ok (.int .i64 1) W := fun ts t W => by rw [run_max_int2]; rfl
  clear hb0 bq0 hE
  unfold l15 l10 at *
  go_enter Tryz.func32, Tryz.ntmps32
  go_wp2_with fail
  clear hw1
  refine (HP15.out _ (HEB.out _ B1.out).bases).mono ?_
  rintro x w2 ⟨⟨v2, rfl, hn⟩, hb⟩
  have B2 := Lib.hid (B1.out.trans (hb.mono B1.out.size))
  have K2 := Lib.hid (K1.out.below hb)
  have HN2 := Lib.hid hn
  clear hb hn K1
  go_wp2_with fail
  refine (HRE.out _).mono ?_
  rintro x w' ⟨rfl, rfl⟩
  go_wp2_with fail
  refine (HP10.out _ (HEB.out _ B2.out).bases).mono ?_
  rintro x w3 ⟨⟨v3, rfl, hn⟩, hb⟩
  have B3 := Lib.hid (B2.out.trans (hb.mono B2.out.size))
  have K3 := Lib.hid (K2.out.below hb)
  have HN3 := Lib.hid (HN2.out.below hb)
  have HM3 := Lib.hid hn
  clear hb hn K2 HN2
  go_wp2_with fail
  refine (Q.mul_num v2 v3 15 10 _ HN3.out HM3.out).mono ?_
  rintro x w4 ⟨ht, hb⟩
  have hpw : (15 * 10 : Int) < NM.pw 16 := by decide +kernel
  rcases ht with ⟨_, v4, rfl, hn⟩ | ⟨h2, _⟩
  rotate_left
  · omega
  have B4 := Lib.hid (B3.out.trans (hb.mono B3.out.size))
  have K4 := Lib.hid (K3.out.below hb)
  have HN4 := Lib.hid hn
  clear hb hn K3 hpw HN3 HM3
  go_wp2_with fail
  refine (Q.of_num 1 _ (by decide) (by decide)).mono ?_
  rintro x w5 ⟨⟨v5, rfl, hn⟩, hb⟩
  have B5 := Lib.hid (B4.out.trans (hb.mono B4.out.size))
  have K5 := Lib.hid (K4.out.below hb)
  have HN5 := Lib.hid (show Q.Num w5 v4 ((150 : Nat) : Int) from HN4.out.below hb)
  have HM5 := Lib.hid (show Q.Num w5 v5 ((1 : Nat) : Int) from hn)
  clear hb hn K4 HN4
  go_wp2_with fail
  refine (Q.make_num false v4 v5 150 1 _ HN5.out HM5.out (by decide)).mono ?_
  rintro x w6 ⟨⟨r, rfl, hr⟩, hb⟩
  have B6 := Lib.hid (B5.out.trans (hb.mono B5.out.size))
  have K6 := Lib.hid (K5.out.below hb)
  clear hb K5 HN5 HM5
  obtain ⟨n, d, rfl, h1, h2⟩ := hr
  rw [frac150] at h1
  rw [den150] at h2
  obtain ⟨nb, no, nc, rfl, hnb, hnc⟩ := num_one h1 (by decide) (by decide)
  obtain ⟨db, do', dc, rfl, -, -⟩ := num_one h2 (by decide) (by decide)
  generalize decide ((NM.frac false 150 1).num < 0) = sgn at *
  have hne := box_ne K6.out hnc
  have H1 := Lib.hid (show ∀ v0 v1 v2, (((w6.setCell ⟨w.heap.size, 0, none⟩ v0).setCell ⟨w.heap.size, 1, none⟩ v1).setCell ⟨w.heap.size, 2, none⟩ v2).cell? ⟨nb, no, none⟩ = some (.int .u32 150) from fun v0 v1 v2 => by
    rw [World.cell?_setCell_other _ _ _ _ (fun e => hne (by injection e with e; exact e.symm)), World.cell?_setCell_other _ _ _ _ (fun e => hne (by injection e with e; exact e.symm)), World.cell?_setCell_other _ _ _ _ (fun e => hne (by injection e with e; exact e.symm))]
    exact hnc)
  have H2 := Lib.hid hnb
  clear h1 h2 hnc hnb hne
  have f0 := K6.out.free 0
  have f1 := K6.out.free 1
  have f2 := K6.out.free 2
  obtain ⟨e0, e1, e2⟩ := cell3 K6.out
  go_wp2_with fail
  clear e0 e1 e2 f0 f1 f2
  obtain ⟨g0, g1, g2⟩ := set3_cells K6.out (.bool sgn) (.slice (some ⟨nb, no, none⟩) 1 nc) (.slice (some ⟨db, do', none⟩) 1 dc)
  refine bodyPost_ret (v := .tuple #[.agg #[.bool sgn, .slice (some ⟨nb, no, none⟩) 1 nc, .slice (some ⟨db, do', none⟩) 1 dc], .int .i64 0]) (by simp [results, Tryz.results32, go_sem, g0, g1, g2]) rfl ⟨⟨_, rfl, sgn, nb, no, nc, _, _, _, rfl, by simpa using H2.out, H1.out _ _ _⟩, set3_below' B6.out _ _ _ (Nat.le_refl _)⟩
def l1 : ByteArray := ⟨#[49]⟩
def l2 : ByteArray := ⟨#[50]⟩
def l5 : ByteArray := ⟨#[53]⟩
def lF : ByteArray := ⟨#[49, 46, 53, 101, 50]⟩
theorem plain1 : plainB l1 = true := by decide +kernel
theorem plain2 : plainB l2 = true := by decide +kernel
theorem plain5 : plainB l5 = true := by decide +kernel
theorem badF : badE lF = 0 := by decide +kernel
theorem idxF : Lib.indexAny lF.data.toList [101, 69] = 3 := by decide +kernel
theorem asciiF : ∀ b ∈ lF.data.toList, b.toNat < 128 := by decide +kernel
theorem cutF : Lib.cut [49, 46, 53] [46] = ([49], [53], true) := by decide +kernel
theorem atoi2 : Lib.atoi l2.data.toList = some 2 := by decide +kernel
set_option maxHeartbeats 2000000 in
theorem right_any (s : ByteArray) (w : World) (hM : MaxAt w) (hp : plainB s = true) :
    Calls Tryz.prog 51 #[.string s] w fun e w' => e = .returned (.bool true) ∧ Below w.heap.size w w' := by
  have hsz : 0 < s.size := by unfold plainB at hp; rw [Bool.and_eq_true, decide_eq_true_iff] at hp; exact hp.1.1
  have hne := isEmpty_no hsz
  have H := Lib.hid (digits_any s w hM hp)
  clear hM hp hsz
  go_enter Tryz.func51, Tryz.ntmps51
  go_wp2_with fail
  refine H.out.mono ?_
  rintro x w1 ⟨rfl, hb⟩
  have B1 := Lib.hid hb
  clear hb
  go_wp2_with fail
  go_ret
  exact ⟨rfl, B1.out⟩
set_option maxHeartbeats 8000000 in
set_option maxRecDepth 100000 in
theorem split_lit (w : World) (hE : Env w) :
    Calls Tryz.prog 29 #[.string lF] w fun e w' => e = .returned (.tuple #[.agg #[.string l1, .string l5, .string l2, .bool false], .bool true]) ∧ Below w.heap.size w w' := by
  have HEB := Lib.hid (fun w' (hb : Below w.heap.size w w') => hE.below hb)
  have HI0 := fun w => Tryz.strings_IndexAny_short lF ⟨#[101, 69]⟩ w (by decide) (by decide) (fun j b h => asciiF b (List.mem_of_getElem? h))
  rw [show (⟨#[101, 69]⟩ : ByteArray).data.toList = [101, 69] from rfl, idxF] at HI0
  have HI := Lib.hid HI0
  have HM0 := fun w => Tryz.strings_HasPrefix l2 ⟨#[45]⟩ w
  rw [show Lib.hasPrefix l2.data.toList (⟨#[45]⟩ : ByteArray).data.toList = false by decide +kernel] at HM0
  have HM := Lib.hid HM0
  have HPL0 := fun w => Tryz.strings_HasPrefix l2 ⟨#[43]⟩ w
  rw [show Lib.hasPrefix l2.data.toList (⟨#[43]⟩ : ByteArray).data.toList = false by decide +kernel] at HPL0
  have HPL := Lib.hid HPL0
  have HC := Lib.hid (show ∀ w, MaxAt w → Calls Tryz.prog 50 #[.string ⟨#[49, 46, 53]⟩, .string ⟨#[46]⟩] w fun e w' => e = .returned (.tuple #[.string l1, .string l5, .bool true]) ∧ ∃ n, w' = w.drewN n from fun w hm => by
    obtain ⟨m, hm⟩ := hm
    have := Tryz.strings_Cut ⟨#[49, 46, 53]⟩ ⟨#[46]⟩ m w (by decide) hm
    rw [show (⟨#[49, 46, 53]⟩ : ByteArray).data.toList = [49, 46, 53] from rfl, show (⟨#[46]⟩ : ByteArray).data.toList = [46] from rfl, cutF] at this
    exact this)
  have HD := Lib.hid (fun w (hm : MaxAt w) => digits_any l2 w hm plain2)
  have HR1 := Lib.hid (fun w (hm : MaxAt w) => right_any l1 w hm plain1)
  have HR5 := Lib.hid (fun w (hm : MaxAt w) => right_any l5 w hm plain5)
  clear HI0 HM0 HPL0 hE
  unfold l1 l2 l5 lF at *
  have bq0 : Below w.heap.size w (w.alloc (.cells #[.string ⟨#[]⟩, .string ⟨#[]⟩, .string ⟨#[]⟩, .bool false] 65)) := (Below.refl _ _).alloc (Nat.le_refl _) _
  have hb0 := BlockAt.new w #[.string ⟨#[]⟩, .string ⟨#[]⟩, .string ⟨#[]⟩, .bool false] 65
  go_enter Tryz.func29, Tryz.ntmps29
  go_wp2_with fail
  refine (HI.out _).mono ?_
  rintro x w2 ⟨rfl, pos, hw2⟩
  have bi : Below (w.alloc (.cells #[.string ⟨#[]⟩, .string ⟨#[]⟩, .string ⟨#[]⟩, .bool false] 65)).heap.size (w.alloc (.cells #[.string ⟨#[]⟩, .string ⟨#[]⟩, .string ⟨#[]⟩, .bool false] 65)) w2 := by rw [hw2]; exact below_iter _ _ _
  have B2 := Lib.hid (bq0.trans (bi.mono bq0.size))
  have K2 := Lib.hid (hb0.below bi)
  clear bi hw2 bq0 hb0
  go_wp2_with fail
  go_quiet (fail)
  have B3 := Lib.hid (fun n => B2.out.trans ((show Below w2.heap.size w2 (w2.drewN n) from ⟨rfl, rfl, rfl, Nat.le_refl _, fun _ _ => rfl⟩).mono B2.out.size))
  have K3 := Lib.hid (fun n => K2.out.below (show Below w2.heap.size w2 (w2.drewN n) from ⟨rfl, rfl, rfl, Nat.le_refl _, fun _ _ => rfl⟩))
  have b3 := B3.out nq
  have k3 := K3.out nq
  obtain ⟨w3, hw3⟩ : ∃ x, w2.drewN nq = x := ⟨_, rfl⟩
  rw [hw3] at b3 k3 ⊢
  have B4 := Lib.hid b3
  have K4 := Lib.hid k3
  clear b3 k3 hw3 B3 K3 B2 K2
  have hx1 : (⟨#[49, 46, 53, 101, 50]⟩ : ByteArray).extract 4 5 = ⟨#[50]⟩ := by decide +kernel
  have hx2 : (⟨#[49, 46, 53, 101, 50]⟩ : ByteArray).extract 0 3 = ⟨#[49, 46, 53]⟩ := by decide +kernel
  go_wp2_with fail
  refine (HM.out _).mono ?_
  rintro x w' ⟨rfl, rfl⟩
  go_wp2_with fail
  refine (HPL.out _).mono ?_
  rintro x w' ⟨rfl, rfl⟩
  go_wp2_with fail
  have bx : Below w3.heap.size w3 (w3.alloc (.cells #[.string ⟨#[]⟩, .string ⟨#[]⟩, .string ⟨#[50]⟩, .bool false] 65)) := (Below.refl _ _).alloc (Nat.le_refl _) _
  have kx := BlockAt.new w3 #[.string ⟨#[]⟩, .string ⟨#[]⟩, .string ⟨#[50]⟩, .bool false] 65
  have hlt3 : w.heap.size < w3.heap.size := K4.out.lt
  have hne : w.heap.size ≠ w3.heap.size := Nat.ne_of_lt hlt3
  obtain ⟨w4, hw4⟩ : ∃ x, w3.alloc (.cells #[.string ⟨#[]⟩, .string ⟨#[]⟩, .string ⟨#[50]⟩, .bool false] 65) = x := ⟨_, rfl⟩
  rw [hw4] at bx kx ⊢
  have B5 := Lib.hid (B4.out.trans (bx.mono B4.out.size))
  have K5 := Lib.hid (K4.out.below bx)
  have F5 := Lib.hid kx
  clear bx kx hw4 B4 K4
  refine (HC.out _ (HEB.out _ B5.out).max).mono ?_
  rintro x w5 ⟨rfl, n, hw5⟩
  have bn : Below w4.heap.size w4 w5 := by rw [hw5]; exact ⟨rfl, rfl, rfl, Nat.le_refl _, fun _ _ => rfl⟩
  have B6 := Lib.hid (B5.out.trans (bn.mono B5.out.size))
  have K6 := Lib.hid (K5.out.below bn)
  have F6 := Lib.hid (F5.out.below bn)
  clear bn hw5 B5 K5 F5
  have f0 := F6.out.free 0
  have f1 := F6.out.free 1
  have e0 := F6.out.cell 0
  have e1 := F6.out.cell 1
  have e2 := F6.out.cell 2
  simp at e0 e1 e2
  go_wp2_with fail
  clear e0 e1 e2 f0 f1
  have k7 := (F6.out.set 0 (.string ⟨#[49]⟩)).set 1 (.string ⟨#[53]⟩)
  have q7 := (K6.out.other hne 0 (.string ⟨#[49]⟩)).other hne 1 (.string ⟨#[53]⟩)
  have b7 := (B6.out.setCell (Nat.le_of_lt hlt3) (p := ⟨w3.heap.size, 0, none⟩) (.string ⟨#[49]⟩)).setCell (Nat.le_of_lt hlt3) (p := ⟨w3.heap.size, 1, none⟩) (.string ⟨#[53]⟩)
  obtain ⟨w7, hw7⟩ : ∃ x, (w5.setCell ⟨w3.heap.size, 0, none⟩ (.string ⟨#[49]⟩)).setCell ⟨w3.heap.size, 1, none⟩ (.string ⟨#[53]⟩) = x := ⟨_, rfl⟩
  rw [hw7] at k7 q7 b7 ⊢
  have B7 := Lib.hid b7
  have K7 := Lib.hid q7
  have F7 := Lib.hid (show BlockAt w7 w3.heap.size #[.string ⟨#[49]⟩, .string ⟨#[53]⟩, .string ⟨#[50]⟩, .bool false] 65 from k7)
  clear k7 q7 b7 hw7 B6 K6 F6
  refine (HD.out _ (HEB.out _ B7.out).max).mono ?_
  rintro x w8 ⟨rfl, hb⟩
  have B8 := Lib.hid (B7.out.trans (hb.mono B7.out.size))
  have K8 := Lib.hid (K7.out.below hb)
  have F8 := Lib.hid (F7.out.below hb)
  clear hb B7 K7 F7
  have e0 := F8.out.cell 0
  simp at e0
  go_wp2_with fail
  refine (HR1.out _ (HEB.out _ B8.out).max).mono ?_
  rintro x w9 ⟨rfl, hb⟩
  clear e0
  have B9 := Lib.hid (B8.out.trans (hb.mono B8.out.size))
  have K9 := Lib.hid (K8.out.below hb)
  have F9 := Lib.hid (F8.out.below hb)
  clear hb B8 K8 F8
  have e1 := F9.out.cell 1
  simp at e1
  go_wp2_with fail
  refine (HR5.out _ (HEB.out _ B9.out).max).mono ?_
  rintro x wa ⟨rfl, hb⟩
  clear e1
  have BA := Lib.hid (B9.out.trans (hb.mono B9.out.size))
  have KA := Lib.hid (K9.out.below hb)
  have FA := Lib.hid (F9.out.below hb)
  clear hb B9 K9 F9
  have e0 := FA.out.cell 0
  have e1 := FA.out.cell 1
  have e2 := FA.out.cell 2
  have e3 := FA.out.cell 3
  have f0 := KA.out.free 0
  have f1 := KA.out.free 1
  have f2 := KA.out.free 2
  have f3 := KA.out.free 3
  have d0 := KA.out.cell 0
  have d1 := KA.out.cell 1
  have d2 := KA.out.cell 2
  have d3 := KA.out.cell 3
  simp at e0 e1 e2 e3 d0 d1 d2 d3
  have happ : (⟨#[49]⟩ ++ ⟨#[53]⟩ : ByteArray) = ⟨#[49, 53]⟩ := by decide +kernel
  go_wp2_with fail
  have kz := (((KA.out.set 0 (.string ⟨#[49]⟩)).set 1 (.string ⟨#[53]⟩)).set 2 (.string ⟨#[50]⟩)).set 3 (.bool false)
  have g0 := kz.cell 0
  have g1 := kz.cell 1
  have g2 := kz.cell 2
  have g3 := kz.cell 3
  simp only [List.setIfInBounds_toArray, List.set_cons_zero, List.set_cons_succ, List.getElem?_toArray, List.getElem?_cons_zero, List.getElem?_cons_succ] at g0 g1 g2 g3
  refine bodyPost_ret (v := .tuple #[.agg #[.string ⟨#[49]⟩, .string ⟨#[53]⟩, .string ⟨#[50]⟩, .bool false], .bool true]) (by simp [results, Tryz.results29, go_sem, g0, g1, g2, g3]) rfl ⟨rfl, (((BA.out.setCell (Nat.le_refl _) (p := ⟨w.heap.size, 0, none⟩) _).setCell (Nat.le_refl _) (p := ⟨w.heap.size, 1, none⟩) _).setCell (Nat.le_refl _) (p := ⟨w.heap.size, 2, none⟩) _).setCell (Nat.le_refl _) (p := ⟨w.heap.size, 3, none⟩) _⟩
set_option maxHeartbeats 8000000 in
set_option maxRecDepth 100000 in
theorem float_lit (w : World) (hE : Env w) :
    Calls Tryz.prog 17 #[.string lF] w fun e w' => (∃ v, e = .returned (.tuple #[v, .int .i64 0]) ∧ Is150 w' v) ∧ Below w.heap.size w w' := by
  have hC := fun w => check_err lF w (by decide)
  rw [badF] at hC
  have HC := Lib.hid hC
  have HEB := Lib.hid (fun w' (hb : Below w.heap.size w w') => hE.below hb)
  have HS := Lib.hid (fun w (h : Env w) => split_lit w h)
  have HB1 := Lib.hid (fun w (hm : MaxAt w) => bare_any l1 w (by decide) hm (plain_filter plain1))
  have HB2 := Lib.hid (fun w (hm : MaxAt w) => bare_any l2 w (by decide) hm (plain_filter plain2))
  have HB5 := Lib.hid (fun w (hm : MaxAt w) => bare_any l5 w (by decide) hm (plain_filter plain5))
  have HA := Lib.hid (fun w => Tryz.strconv_Atoi l2 2 (by decide) atoi2 w)
  have HSC := Lib.hid (fun w (h : Env w) => scaled_150 w h)
  have hb0 := BlockAt.new w #[.bool false, .slice none 0 0, .slice none 0 0] 49
  have bq0 : Below w.heap.size w (w.alloc (.cells #[.bool false, .slice none 0 0, .slice none 0 0] 49)) := (Below.refl _ _).alloc (Nat.le_refl _) _
  obtain ⟨w1, hw1⟩ : ∃ x, w.alloc (.cells #[.bool false, .slice none 0 0, .slice none 0 0] 49) = x := ⟨_, rfl⟩
  rw [hw1] at hb0 bq0
  have K1 := Lib.hid hb0
  have B1 := Lib.hid bq0
  clear hb0 bq0 hC hE
  unfold l1 l2 l5 lF l15 at *
  go_enter Tryz.func17, Tryz.ntmps17
  go_wp2_with fail
  clear hw1
  refine (HC.out _).mono ?_
  rintro x w2 ⟨⟨k, rfl⟩, hb⟩
  have B2 := Lib.hid (B1.out.trans (hb.mono B1.out.size))
  have K2 := Lib.hid (K1.out.below hb)
  clear hb K1
  go_wp2_with fail
  refine (HS.out _ (HEB.out _ B2.out)).mono ?_
  rintro x w3 ⟨rfl, hb⟩
  have B3 := Lib.hid (B2.out.trans (hb.mono B2.out.size))
  have K3 := Lib.hid (K2.out.below hb)
  clear hb K2
  have bx : Below w3.heap.size w3 (w3.alloc (.cells #[.string ⟨#[49]⟩, .string ⟨#[53]⟩, .string ⟨#[50]⟩, .bool false] 65)) := (Below.refl _ _).alloc (Nat.le_refl _) _
  have kx := BlockAt.new w3 #[.string ⟨#[49]⟩, .string ⟨#[53]⟩, .string ⟨#[50]⟩, .bool false] 65
  obtain ⟨w4, hw4⟩ : ∃ x, w3.alloc (.cells #[.string ⟨#[49]⟩, .string ⟨#[53]⟩, .string ⟨#[50]⟩, .bool false] 65) = x := ⟨_, rfl⟩
  rw [hw4] at bx kx
  have B4 := Lib.hid (B3.out.trans (bx.mono B3.out.size))
  have K4 := Lib.hid (K3.out.below bx)
  have F4 := Lib.hid kx
  have HW4 := Lib.hid hw4
  clear bx kx hw4
  go_wp2_with fail
  rw [HW4.out]
  clear HW4
  refine (HB2.out _ (HEB.out _ B4.out).max).mono ?_
  rintro x w5 ⟨rfl, hb⟩
  have B5 := Lib.hid (B4.out.trans (hb.mono B4.out.size))
  have K5 := Lib.hid (K4.out.below hb)
  have F5 := Lib.hid (F4.out.below hb)
  clear hb B4 K4 F4
  go_wp2_with fail
  refine (HA.out _).mono ?_
  rintro x w6 ⟨rfl, tt, hw6⟩
  have hb : Below w5.heap.size w5 w6 := by rw [hw6]; exact _root_.Go.Joins.below_bytesWorld _ _ _ _ (Nat.le_refl _)
  have B6 := Lib.hid (B5.out.trans (hb.mono B5.out.size))
  have K6 := Lib.hid (K5.out.below hb)
  have F6 := Lib.hid (F5.out.below hb)
  clear hb hw6 B5 K5 F5
  have e3 := F6.out.cell 3
  have e1 := F6.out.cell 1
  simp at e1 e3
  go_wp2_with fail
  refine (HB5.out _ (HEB.out _ B6.out).max).mono ?_
  rintro x w7 ⟨rfl, hb⟩
  clear e1 e3
  have B7 := Lib.hid (B6.out.trans (hb.mono B6.out.size))
  have K7 := Lib.hid (K6.out.below hb)
  have F7 := Lib.hid (F6.out.below hb)
  clear hb B6 K6 F6
  have e0 := F7.out.cell 0
  simp at e0
  go_wp2_with fail
  refine (HB1.out _ (HEB.out _ B7.out).max).mono ?_
  rintro x w8 ⟨rfl, hb⟩
  clear e0
  have B8 := Lib.hid (B7.out.trans (hb.mono B7.out.size))
  have K8 := Lib.hid (K7.out.below hb)
  clear hb B7 K7 F7
  have happ : (⟨#[49]⟩ ++ ⟨#[53]⟩ : ByteArray) = ⟨#[49, 53]⟩ := by decide +kernel
  go_wp2_with fail
  refine (HSC.out _ (HEB.out _ B8.out)).mono ?_
  rintro x w9 ⟨⟨v, rfl, sg, nb, no, nc, dd, dn, dc, rfl, hlt, hcell⟩, hb⟩
  have B9 := Lib.hid (B8.out.trans (hb.mono B8.out.size))
  have K9 := Lib.hid (K8.out.below hb)
  clear hb B8 K8
  have hne := box_ne K9.out hcell
  have H1 := Lib.hid (show ∀ v0 v1 v2, (((w9.setCell ⟨w.heap.size, 0, none⟩ v0).setCell ⟨w.heap.size, 1, none⟩ v1).setCell ⟨w.heap.size, 2, none⟩ v2).cell? ⟨nb, no, none⟩ = some (.int .u32 150) from fun v0 v1 v2 => by
    rw [World.cell?_setCell_other _ _ _ _ (fun e => hne (by injection e with e; exact e.symm)), World.cell?_setCell_other _ _ _ _ (fun e => hne (by injection e with e; exact e.symm)), World.cell?_setCell_other _ _ _ _ (fun e => hne (by injection e with e; exact e.symm))]
    exact hcell)
  have H2 := Lib.hid hlt
  clear hcell hlt hne
  have f0 := K9.out.free 0
  have f1 := K9.out.free 1
  have f2 := K9.out.free 2
  obtain ⟨e0, e1, e2⟩ := cell3 K9.out
  go_wp2_with fail
  clear e0 e1 e2 f0 f1 f2
  obtain ⟨g0, g1, g2⟩ := set3_cells K9.out (.bool sg) (.slice (some ⟨nb, no, none⟩) 1 nc) (.slice dd dn dc)
  refine bodyPost_ret (v := .tuple #[.agg #[.bool sg, .slice (some ⟨nb, no, none⟩) 1 nc, .slice dd dn dc], .int .i64 0]) (by simp [results, Tryz.results17, go_sem, g0, g1, g2]) rfl ⟨⟨_, rfl, sg, nb, no, nc, _, _, _, rfl, by simpa using H2.out, H1.out _ _ _⟩, set3_below' B9.out _ _ _ (Nat.le_refl _)⟩
def lR : ByteArray := ⟨#[39, 92, 120, 52, 49, 39]⟩
theorem runeV_lR : runeV lR = .tuple #[.int .i32 65, .int .i64 0] := by
  have h1 : badE lR = 0 := by decide +kernel
  have h2 : runeT lR = some 65 := by decide +kernel
  unfold runeV
  rw [if_pos h1, h2]
set_option maxHeartbeats 8000000 in
set_option maxRecDepth 100000 in
theorem alive_any (w : World) (hE : Env w) :
    Calls Tryz.prog 7 #[] w fun e w' => e = .returned (.bool true) ∧ Below w.heap.size w w' := by
  have HEB := Lib.hid (fun w' (hb : Below w.heap.size w w') => hE.below hb)
  have HF := Lib.hid (float_lit w hE)
  have hR := fun w (h : Tabs w) => prune_any lR w (by decide) h
  rw [runeV_lR] at hR
  have HR := Lib.hid hR
  have HI := Lib.hid (fun w (h : Env w) => int_150 w h)
  clear hE hR
  unfold lF lR l150 at *
  go_enter Tryz.func7, Tryz.ntmps7
  go_wp2_with fail
  refine HF.out.mono ?_
  rintro x w1 ⟨⟨v, rfl, sg, nb, no, nc, dd, dn, dc, rfl, hlt, hcell⟩, hb⟩
  have B1 := Lib.hid hb
  have bx : Below w1.heap.size w1 (w1.alloc (.cells #[.bool sg, .slice (some ⟨nb, no, none⟩) 1 nc, .slice dd dn dc] 49)) := (Below.refl _ _).alloc (Nat.le_refl _) _
  have kx := BlockAt.new w1 #[.bool sg, .slice (some ⟨nb, no, none⟩) 1 nc, .slice dd dn dc] 49
  have hc2 := (bx.cell (p := ⟨nb, no, none⟩) hlt).trans hcell
  have hl2 := Nat.lt_of_lt_of_le hlt bx.size
  clear hb hcell
  go_wp2_with fail
  obtain ⟨w2, hw2⟩ : ∃ x, w1.alloc (.cells #[.bool sg, .slice (some ⟨nb, no, none⟩) 1 nc, .slice dd dn dc] 49) = x := ⟨_, rfl⟩
  rw [hw2] at bx kx hc2 hl2 ⊢
  have B2 := Lib.hid (B1.out.trans (bx.mono B1.out.size))
  have K2 := Lib.hid kx
  have C2 := Lib.hid hc2
  have L2 := Lib.hid hl2
  clear bx kx hc2 hl2 hw2 hlt
  refine (HR.out _ (HEB.out _ B2.out).tabs).mono ?_
  rintro x w3 ⟨rfl, hb⟩
  have B3 := Lib.hid (B2.out.trans (hb.mono B2.out.size))
  have K3 := Lib.hid (K2.out.below hb)
  have C3 := Lib.hid ((hb.cell (p := ⟨nb, no, none⟩) L2.out).trans C2.out)
  have L3 := Lib.hid (Nat.lt_of_lt_of_le L2.out hb.size)
  clear hb B2 K2 C2 L2
  go_wp2_with fail
  refine (HI.out _ (HEB.out _ B3.out)).mono ?_
  rintro x w4 ⟨⟨v, rfl, hn⟩, hb⟩
  have B4 := Lib.hid (B3.out.trans (hb.mono B3.out.size))
  have K4 := Lib.hid (K3.out.below hb)
  have C4 := Lib.hid ((hb.cell (p := ⟨nb, no, none⟩) L3.out).trans C3.out)
  clear hb B3 K3 C3 L3
  obtain ⟨ib, io, ic, rfl, -, hic⟩ := num_one hn (by decide) (by decide)
  have e1 := K4.out.cell 1
  have hcc := C4.out
  simp at e1
  clear hn
  go_wp2_with fail
  go_ret
  exact ⟨rfl, B4.out⟩
end Go.Proofs.YtkafkcmhekgheaaGreatDoor
