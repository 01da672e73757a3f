/- The reference's Nearest: the search, and what it ends at. -/
import Derived.Test.YtlkadnaoacoicaaRoundNearF
import Derived.Deep.RegionHeld3
import Derived.Deep.DeepCutAuto
namespace Go.Proofs.Ytlkadnaoacoicaa
open Go.RowKit NM

theorem left_drew {B : Nat} {w w' : World} (h : Below B w w') : Below B w.drew w' := ⟨h.os, h.tape, h.output, h.size, h.block⟩
theorem one_new {w w' : World} {cs : Array Value} {t : TypeId} (h : Below (w.alloc (.cells cs t)).heap.size (w.alloc (.cells cs t)) w') : BlockAt w' w.heap.size cs t ∧ Below w.heap.size w w' :=
  ⟨(BlockAt.new w cs t).below h, ((Below.refl w.heap.size w).alloc (Nat.le_refl _) _).trans (h.mono (by simp))⟩
theorem one_new_d {w w' : World} {cs : Array Value} {t : TypeId} (h : Below (w.alloc (.cells cs t)).drew.heap.size (w.alloc (.cells cs t)).drew w') : BlockAt w' w.heap.size cs t ∧ Below w.drew.heap.size w.drew w' := by
  obtain ⟨h1, h2⟩ := one_new (show Below (w.alloc (.cells cs t)).heap.size (w.alloc (.cells cs t)) w' from ⟨h.os, h.tape, h.output, h.size, h.block⟩)
  exact ⟨h1, left_drew h2⟩
theorem dkeep {W : World} {q : Nat} {xs : Array Value} {t : TypeId} {o : Obj} (h : BlockAt W.drew q xs t) (k : Nat) : (W.alloc o).drew.cell? ⟨q, k, none⟩ = xs[k]? := ((show BlockAt W q xs t from h).below ((Below.refl _ _).alloc (Nat.le_refl _) _)).cell k
theorem k512 : (2 : Nat) ^ KN < 2 ^ K1 ∧ (2 : Nat) ^ K0 < 2 ^ K1 := ⟨two_lt (by decide), two_lt (by decide)⟩
/-- The two calls that the walk meets at bits b. -/
theorem near_calls {size : Int} {S H E mant least : Nat} (F : Form3 size S H E mant least) (N D : Nat) (hN : N < 2 ^ KN) (hD : D < 2 ^ KN) {b : Nat} (hb : b ≤ E * H) :
    (∀ w, Calls Try.prog 24 #[.int .u64 (b : Int), .int .i64 size] w fun e w' => e = .returned (.agg #[.string (sN b mant least), .string (sD b mant least)]) ∧ Below w.heap.size w w') ∧
    (∀ w, Calls Try.prog 23 #[.agg #[.string (numStr (N : Int)), .string (numStr (D : Int))], .agg #[.string (sN b mant least), .string (sD b mant least)]] w fun e w' => e = .returned (.int .i64 (sgn ((N * vd b mant least : Nat) : Int) ((vn b mant least * D : Nat) : Int))) ∧ Below w.heap.size w w') ∧
    (∀ w, Calls Try.prog 23 #[.agg #[.string (sN b mant least), .string (sD b mant least)], .agg #[.string (numStr (N : Int)), .string (numStr (D : Int))]] w fun e w' => e = .returned (.int .i64 (sgn ((vn b mant least * D : Nat) : Int) ((N * vd b mant least : Nat) : Int))) ∧ Below w.heap.size w w') := by
  obtain ⟨h1, h2⟩ := v_bounds F hb
  have h3 := Nat.lt_trans h1 k512.2
  have h4 := Nat.lt_trans h2 k512.2
  have h5 := Nat.lt_trans hN k512.1
  have h6 := Nat.lt_trans hD k512.1
  exact ⟨fun w => fr_any F hb w, fun w => cmp_frac h5 h6 h3 h4 w, fun w => cmp_frac h3 h4 h5 h6 w⟩
/-- What is left on both sides, and how it compares. -/
theorem near_less {size : Int} {S H E mant least : Nat} (F : Form3 size S H E mant least) (N D : Nat) (hN : N < 2 ^ KN) (hD : D < 2 ^ KN) {lo : Nat} (hb : lo + 1 ≤ E * H) (h1 : vn lo mant least * D ≤ N * vd lo mant least) (h2 : N * vd (lo + 1) mant least < vn (lo + 1) mant least * D) :
    (∀ w, Calls Try.prog 25 #[.agg #[.string (numStr (N : Int)), .string (numStr (D : Int))], .agg #[.string (sN lo mant least), .string (sD lo mant least)]] w fun e w' => e = .returned (.agg #[.string (numStr ((N * vd lo mant least - vn lo mant least * D : Nat) : Int)), .string (numStr ((D * vd lo mant least : Nat) : Int))]) ∧ Below w.heap.size w w') ∧
    (∀ w, Calls Try.prog 25 #[.agg #[.string (sN (lo + 1) mant least), .string (sD (lo + 1) mant least)], .agg #[.string (numStr (N : Int)), .string (numStr (D : Int))]] w fun e w' => e = .returned (.agg #[.string (numStr ((vn (lo + 1) mant least * D - N * vd (lo + 1) mant least : Nat) : Int)), .string (numStr ((vd (lo + 1) mant least * D : Nat) : Int))]) ∧ Below w.heap.size w w') ∧
    (∀ w, Calls Try.prog 23 #[.agg #[.string (numStr ((N * vd lo mant least - vn lo mant least * D : Nat) : Int)), .string (numStr ((D * vd lo mant least : Nat) : Int))], .agg #[.string (numStr ((vn (lo + 1) mant least * D - N * vd (lo + 1) mant least : Nat) : Int)), .string (numStr ((vd (lo + 1) mant least * D : Nat) : Int))]] w fun e w' => e = .returned (.int .i64 (sgn (((N * vd lo mant least - vn lo mant least * D) * (vd (lo + 1) mant least * D) : Nat) : Int) (((vn (lo + 1) mant least * D - N * vd (lo + 1) mant least) * (D * vd lo mant least) : Nat) : Int))) ∧ Below w.heap.size w w') := by
  obtain ⟨a1, a2⟩ := v_bounds F (b := lo) (by omega)
  obtain ⟨b1, b2⟩ := v_bounds F hb
  have a3 := Nat.lt_trans a1 k512.2
  have a4 := Nat.lt_trans a2 k512.2
  have b3 := Nat.lt_trans b1 k512.2
  have b4 := Nat.lt_trans b2 k512.2
  have h5 := Nat.lt_trans hN k512.1
  have h6 := Nat.lt_trans hD k512.1
  have m1 := mul_less hN a2 (c := K1) (by decide)
  have m2 := mul_less hD a2 (c := K1) (by decide)
  have m3 := mul_less b1 hD (c := K1) (by decide)
  have m4 := mul_less b2 hD (c := K1) (by decide)
  exact ⟨fun w => less_frac h5 h6 a3 a4 h1 w, fun w => less_frac b3 b4 h5 h6 (Nat.le_of_lt h2) w, fun w => cmp_frac (Nat.lt_of_le_of_lt (Nat.sub_le _ _) m1) m2 (Nat.lt_of_le_of_lt (Nat.sub_le _ _) m3) m4 w⟩
/-- The comparison tells which one is nearer. -/
theorem near_sgn {N D mant least lo : Nat} (hD : 0 < D) :
    (sgn (((N * vd lo mant least - vn lo mant least * D) * (vd (lo + 1) mant least * D) : Nat) : Int) (((vn (lo + 1) mant least * D - N * vd (lo + 1) mant least) * (D * vd lo mant least) : Nat) : Int) = 1 ∧ nearer N D mant least lo = 1) ∨
    (sgn (((N * vd lo mant least - vn lo mant least * D) * (vd (lo + 1) mant least * D) : Nat) : Int) (((vn (lo + 1) mant least * D - N * vd (lo + 1) mant least) * (D * vd lo mant least) : Nat) : Int) = 0 ∧ lo % 2 = 1 ∧ nearer N D mant least lo = 1) ∨
    (sgn (((N * vd lo mant least - vn lo mant least * D) * (vd (lo + 1) mant least * D) : Nat) : Int) (((vn (lo + 1) mant least * D - N * vd (lo + 1) mant least) * (D * vd lo mant least) : Nat) : Int) = 0 ∧ lo % 2 = 0 ∧ nearer N D mant least lo = 0) ∨
    (sgn (((N * vd lo mant least - vn lo mant least * D) * (vd (lo + 1) mant least * D) : Nat) : Int) (((vn (lo + 1) mant least * D - N * vd (lo + 1) mant least) * (D * vd lo mant least) : Nat) : Int) = -1 ∧ nearer N D mant least lo = 0) := by
  unfold nearer
  generalize N * vd lo mant least - vn lo mant least * D = X
  generalize vn (lo + 1) mant least * D - N * vd (lo + 1) mant least = Y
  generalize vd lo mant least = y
  generalize vd (lo + 1) mant least = z
  have e1 : X * (z * D) = X * z * D := (Nat.mul_assoc _ _ _).symm
  have e2 : Y * (D * y) = Y * y * D := by rw [Nat.mul_comm D, Nat.mul_assoc]
  rw [e1, e2]
  rcases Nat.lt_trichotomy (Y * y) (X * z) with h | h | h
  · have := Nat.mul_lt_mul_of_pos_right h hD
    left
    exact ⟨sgn_gt (by omega), if_pos (.inl h)⟩
  · rcases Nat.mod_two_eq_zero_or_one lo with hp | hp
    · refine .inr (.inr (.inl ⟨sgn_eq (by rw [h]), hp, if_neg ?_⟩))
      omega
    · exact .inr (.inl ⟨sgn_eq (by rw [h]), hp, if_pos (.inr ⟨h.symm, hp⟩)⟩)
  · have := Nat.mul_lt_mul_of_pos_right h hD
    refine .inr (.inr (.inr ⟨sgn_less (by omega), if_neg ?_⟩))
    omega
theorem list_is48 (n : Nat) : ((numStr (n : Int)).toList == [48]) = decide (n = 0) := by
  by_cases h : n = 0
  · subst h
    decide +kernel
  · rw [list_ne48 (fun hq => h ((str_zero n).1 hq)), decide_eq_false h]
theorem alloc_end {W0 W : World} {q0 q1 : Nat} {cs r o : Array Value} {t t1 t2 : TypeId} (hr : BlockAt W q0 r t1) (ho : BlockAt W q1 o t2) (B : Below W0.heap.size W0 W) :
    BlockAt (W.alloc (.cells cs t)) W.heap.size cs t ∧ BlockAt (W.alloc (.cells cs t)) q0 r t1 ∧ BlockAt (W.alloc (.cells cs t)) q1 o t2 ∧ Below W0.heap.size W0 (W.alloc (.cells cs t)) := by
  have b : Below W.heap.size W (W.alloc (.cells cs t)) := (Below.refl _ _).alloc (Nat.le_refl _) _
  exact ⟨BlockAt.new W cs t, hr.below b, ho.below b, B.trans (b.mono B.size)⟩
theorem set_end {W0 W : World} {p q0 q1 : Nat} {u0 u1 v0 v1 : Value} {r o : Array Value} {t t1 t2 : TypeId} (g : BlockAt W p #[u0, u1] t) (hr : BlockAt W q0 r t1) (ho : BlockAt W q1 o t2) (B : Below W0.heap.size W0 W) (hp : W0.heap.size ≤ p) (n0 : q0 ≠ p) (n1 : q1 ≠ p) :
    BlockAt ((W.setCell ⟨p, 0, none⟩ v0).setCell ⟨p, 1, none⟩ v1) p #[v0, v1] t ∧ BlockAt ((W.setCell ⟨p, 0, none⟩ v0).setCell ⟨p, 1, none⟩ v1) q0 r t1 ∧ BlockAt ((W.setCell ⟨p, 0, none⟩ v0).setCell ⟨p, 1, none⟩ v1) q1 o t2 ∧ Below W0.heap.size W0 ((W.setCell ⟨p, 0, none⟩ v0).setCell ⟨p, 1, none⟩ v1) :=
  ⟨(g.set 0 v0).set 1 v1, (hr.other n0 0 v0).other n0 1 v1, (ho.other n1 0 v0).other n1 1 v1, (B.setCell (p := ⟨p, 0, none⟩) hp v0).setCell (p := ⟨p, 1, none⟩) hp v1⟩
theorem hi_calls {size : Int} {S H E mant least : Nat} (F : Form3 size S H E mant least) (w : World) :
    Calls Try.prog 11 #[.int .i64 size] w fun e w' => e = .returned (.int .u64 (E : Int)) ∧ w = w' := by
  rcases F with ⟨rfl, rfl, rfl, rfl, rfl, rfl⟩ | ⟨rfl, rfl, rfl, rfl, rfl, rfl⟩
  · exact rhigh32 w
  · exact rhigh64 w
theorem ma_calls {size : Int} {S H E mant least : Nat} (F : Form3 size S H E mant least) (w : World) :
    Calls Try.prog 12 #[.int .i64 size] w fun e w' => e = .returned (.int .i64 (mant : Int)) ∧ w = w' := by
  rcases F with ⟨rfl, rfl, rfl, rfl, rfl, rfl⟩ | ⟨rfl, rfl, rfl, rfl, rfl, rfl⟩
  · exact mantissa32 w
  · exact mantissa64 w
theorem po_calls {size : Int} {S H E mant least : Nat} (F : Form3 size S H E mant least) (w : World) :
    Calls Try.prog 22 #[.int .i64 ((mant : Int) - 1)] w fun e w' => e = .returned (.int .u64 (H : Int)) ∧ w = w' := by
  rcases F with ⟨rfl, rfl, rfl, rfl, rfl, rfl⟩ | ⟨rfl, rfl, rfl, rfl, rfl, rfl⟩
  · exact refpow 23 w (by decide)
  · exact refpow 52 w (by decide)
theorem top_facts {size : Int} {S H E mant least : Nat} (F : Form3 size S H E mant least) : (E : Int) * H ≤ 9223372036854775808 ∧ 1 ≤ E * H ∧ mant ≤ 53 ∧ 1 ≤ mant := by
  rcases F with ⟨rfl, rfl, rfl, rfl, rfl, rfl⟩ | ⟨rfl, rfl, rfl, rfl, rfl, rfl⟩ <;> decide
set_option maxHeartbeats 16000000 in
set_option maxRecDepth 100000 in
theorem nearest_top {size : Int} {S H E mant least : Nat} (F : Form3 size S H E mant least) (N D : Nat) (w : World) (hN : N < 2 ^ KN) (hD : D < 2 ^ KN) 
    (htop : vn (E * H) mant least * D ≤ N * vd (E * H) mant least) :
    Calls Try.prog 9 #[.agg #[.string (numStr (N : Int)), .string (numStr (D : Int))], .int .i64 size] w fun e w' => NearPost N D E H mant least e ∧ Below w.heap.size w w' := by
  obtain ⟨hT, hT1, hm53, hm1⟩ := top_facts F
  have HI := Lib.hid (hi_calls F)
  have MA := Lib.hid (ma_calls F)
  have PO := Lib.hid (po_calls F)
  obtain ⟨fr0, cm0, -⟩ := near_calls F N D hN hD (Nat.le_refl (E * H))
  have FR0 := Lib.hid fr0
  have NC := Lib.hid (fun (b : Nat) (hb : b ≤ E * H) => near_calls F N D hN hD hb)
  have CM0 := Lib.hid (fun w => cm0 w)
  obtain ⟨s, hs⟩ : ∃ s, sgn ((N * vd (E * H) mant least : Nat) : Int) ((vn (E * H) mant least * D : Nat) : Int) = s := ⟨_, rfl⟩
  rw [hs] at CM0
  have hs0 : 0 ≤ s := by rw [← hs]; exact sgn_ge (Int.ofNat_le.2 htop)
  clear hs cm0
  clear fr0
  obtain ⟨rn, hrn⟩ : ∃ s, numStr (N : Int) = s := ⟨_, rfl⟩
  obtain ⟨rd, hrd⟩ : ∃ s, numStr (D : Int) = s := ⟨_, rfl⟩
  rw [hrn, hrd] at CM0 NC ⊢
  have Hp := Lib.hid (show NearPost N D E H mant least (.returned (.agg #[.int .u64 ((E * H : Nat) : Int), .bool false])) from .inl ⟨htop, rfl⟩)
  clear htop
  clear hrn hrd
  obtain ⟨tn, htn⟩ : ∃ s, sN (E * H) mant least = s := ⟨_, rfl⟩
  obtain ⟨td, htd⟩ : ∃ s, sD (E * H) mant least = s := ⟨_, rfl⟩
  rw [htn, htd] at CM0 FR0
  clear htn htd
  obtain ⟨T, hTT⟩ : ∃ T : Nat, E * H = T := ⟨_, rfl⟩
  have hEH : (E : Int) * (H : Int) = (T : Int) := by rw [← hTT, Int.natCast_mul]
  rw [hEH] at hT
  rw [hTT] at hT1
  have FR0 := Lib.hid (fun w => hTT ▸ FR0.out w)
  obtain ⟨B, hr, ho⟩ := two_start2 w #[.string rn, .string rd] #[.int .u64 0, .bool false] 38 34
  go_enter Try.func9, Try.ntmps9
  go_wp2_with fail
  generalize (w.alloc (.cells #[.string rn, .string rd] 38)).alloc (.cells #[.int .u64 0, .bool false] 34) = W at *
  refine (HI.out _).mono ?_
  rintro e W0 ⟨rfl, rfl⟩
  go_wp2_with fail
  refine (MA.out _).mono ?_
  rintro e W0 ⟨rfl, rfl⟩
  go_wp2_with fail
  refine (PO.out _).mono ?_
  rintro e W0 ⟨rfl, rfl⟩
  clear HI MA PO
  obtain ⟨q0, e0⟩ : ∃ p, w.heap.size = p := ⟨_, rfl⟩
  obtain ⟨q1, e1⟩ : ∃ p, q0 + 1 = p := ⟨_, rfl⟩
  have l0 : w.heap.size ≤ q0 := by omega
  have l1 : w.heap.size ≤ q1 := by omega
  have n01 : q0 ≠ q1 := by omega
  have n10 : q1 ≠ q0 := by omega
  have B := Lib.hid B
  simp only [e0, e1] at hr ho ⊢
  have B := B.out
  clear e0 e1
  obtain ⟨c0, c1⟩ := block2 hr
  rw [hTT] at Hp
  go_wp2_with fail
  have D := (Below.refl W.heap.size W).drew
  have hr := hr.below D
  have ho := ho.below D
  have B := B.drew
  clear D c0 c1
  obtain ⟨c0, c1⟩ := block2 hr
  have tok1 : True := trivial
  go_region_held3 (fun w' => w'.cell? ⟨q0, 0, none⟩ = some (.string rn) ∧ w'.cell? ⟨q0, 1, none⟩ = some (.string rd))
    (first | go_keep | (exact ⟨c0, c1⟩) | (exact ⟨hr.cell 0, hr.cell 1⟩))
    (first | (go_at_call 24; have _t := tok1; clear _t tok1; have tok2 : True := trivial; refine (FR0.out _).mono ?_; rintro e W11 ⟨rfl, bq⟩; have hr := hr.below bq; have ho := ho.below bq; have B := B.trans (bq.mono B.size); clear bq) | (go_at_call 23; have _t := tok2; refine (CM0.out _).mono ?_; rintro e W12 ⟨rfl, bq⟩; have hr := hr.below bq; have ho := ho.below bq; have B := B.trans (bq.mono B.size); clear bq))
  all_goals
    have f0 := ho.free 0
    have f1 := ho.free 1
    obtain ⟨g0, g1⟩ := block2 ho
    go_wp2_with fail
    refine bodyPost_ret (v := .agg #[.int .u64 ((T : Nat) : Int), .bool false]) (by simp [results, Try.results9, go_sem, g0, g1]) rfl ⟨Hp.out, ?_⟩
    exact (B.setCell (p := ⟨q1, 0, none⟩) l1 _).setCell (p := ⟨q1, 1, none⟩) l1 _
theorem v_zero (mant least : Nat) : vn 0 mant least = 0 := by
  unfold vn
  have : fman 0 mant = 0 := by unfold fman; simp
  rw [this, Nat.zero_mul]
set_option maxHeartbeats 16000000 in
set_option maxRecDepth 100000 in
theorem nearest_in {size : Int} {S H E mant least : Nat} (F : Form3 size S H E mant least) (N D : Nat) (w : World) (hN : N < 2 ^ KN) (hD : D < 2 ^ KN)  (hD0 : 0 < D)
    (htop : N * vd (E * H) mant least < vn (E * H) mant least * D) :
    Calls Try.prog 9 #[.agg #[.string (numStr (N : Int)), .string (numStr (D : Int))], .int .i64 size] w fun e w' => NearPost N D E H mant least e ∧ Below w.heap.size w w' := by
  obtain ⟨hT, hT1, hm53, hm1⟩ := top_facts F
  have HI := Lib.hid (hi_calls F)
  have MA := Lib.hid (ma_calls F)
  have PO := Lib.hid (po_calls F)
  obtain ⟨fr0, cm0, -⟩ := near_calls F N D hN hD (Nat.le_refl (E * H))
  have FR0 := Lib.hid fr0
  have NC := Lib.hid (fun (b : Nat) (hb : b ≤ E * H) => near_calls F N D hN hD hb)
  have CM0 := Lib.hid (fun w => cm0 w)
  rw [sgn_less (Int.ofNat_lt.2 htop)] at CM0
  clear cm0
  have NL := Lib.hid (fun (lo : Nat) (hb : lo + 1 ≤ E * H) (h1 : vn lo mant least * D ≤ N * vd lo mant least) (h2 : N * vd (lo + 1) mant least < vn (lo + 1) mant least * D) => near_less F N D hN hD hb h1 h2)
  clear fr0
  obtain ⟨rn, hrn⟩ : ∃ s, numStr (N : Int) = s := ⟨_, rfl⟩
  obtain ⟨rd, hrd⟩ : ∃ s, numStr (D : Int) = s := ⟨_, rfl⟩
  rw [hrn, hrd] at CM0 NC NL ⊢
  have Htop := Lib.hid htop
  clear htop
  clear hrn hrd
  obtain ⟨tn, htn⟩ : ∃ s, sN (E * H) mant least = s := ⟨_, rfl⟩
  obtain ⟨td, htd⟩ : ∃ s, sD (E * H) mant least = s := ⟨_, rfl⟩
  rw [htn, htd] at CM0 FR0
  clear htn htd
  obtain ⟨T, hTT⟩ : ∃ T : Nat, E * H = T := ⟨_, rfl⟩
  have hEH : (E : Int) * (H : Int) = (T : Int) := by rw [← hTT, Int.natCast_mul]
  rw [hEH] at hT
  rw [hTT] at hT1
  have FR0 := Lib.hid (fun w => hTT ▸ FR0.out w)
  obtain ⟨B, hr, ho⟩ := two_start2 w #[.string rn, .string rd] #[.int .u64 0, .bool false] 38 34
  go_enter Try.func9, Try.ntmps9
  go_wp2_with fail
  generalize (w.alloc (.cells #[.string rn, .string rd] 38)).alloc (.cells #[.int .u64 0, .bool false] 34) = W at *
  refine (HI.out _).mono ?_
  rintro e W0 ⟨rfl, rfl⟩
  go_wp2_with fail
  refine (MA.out _).mono ?_
  rintro e W0 ⟨rfl, rfl⟩
  go_wp2_with fail
  refine (PO.out _).mono ?_
  rintro e W0 ⟨rfl, rfl⟩
  clear HI MA PO
  obtain ⟨q0, e0⟩ : ∃ p, w.heap.size = p := ⟨_, rfl⟩
  obtain ⟨q1, e1⟩ : ∃ p, q0 + 1 = p := ⟨_, rfl⟩
  have l0 : w.heap.size ≤ q0 := by omega
  have l1 : w.heap.size ≤ q1 := by omega
  have n01 : q0 ≠ q1 := by omega
  have n10 : q1 ≠ q0 := by omega
  have B := Lib.hid B
  simp only [e0, e1] at hr ho ⊢
  have B := B.out
  clear e0 e1
  obtain ⟨c0, c1⟩ := block2 hr
  rw [hTT] at Htop
  go_wp2_with fail
  have D := (Below.refl W.heap.size W).drew
  have hr := hr.below D
  have ho := ho.below D
  have B := B.drew
  clear D c0 c1
  obtain ⟨c0, c1⟩ := block2 hr
  have tok1 : True := trivial
  go_region_held3 (fun w' => w'.cell? ⟨q0, 0, none⟩ = some (.string rn) ∧ w'.cell? ⟨q0, 1, none⟩ = some (.string rd))
    (first | go_keep | (exact ⟨c0, c1⟩) | (exact ⟨hr.cell 0, hr.cell 1⟩))
    (first | (go_at_call 24; have _t := tok1; clear _t tok1; have tok2 : True := trivial; refine (FR0.out _).mono ?_; rintro e W11 ⟨rfl, bq⟩; have hr := hr.below bq; have ho := ho.below bq; have B := B.trans (bq.mono B.size); clear bq) | (go_at_call 23; have _t := tok2; refine (CM0.out _).mono ?_; rintro e W12 ⟨rfl, bq⟩; have hr := hr.below bq; have ho := ho.below bq; have B := B.trans (bq.mono B.size); clear bq))
  all_goals
    clear FR0 CM0
    go_wp2_with fail
    go_loopw [5, 6] (fun a b wr => ∃ lo hi : Nat, a = .int .u64 lo ∧ b = .int .u64 hi ∧ lo < hi ∧ hi ≤ T ∧ Hid (vn lo mant least * D ≤ N * vd lo mant least) ∧ Hid (N * vd hi mant least < vn hi mant least * D) ∧ Hid (BlockAt wr q0 #[.string rn, .string rd] 38) ∧ Hid (BlockAt wr q1 #[.int .u64 0, .bool false] 34) ∧ Hid (Below w.heap.size w wr)) (fun a b _ => (intOf b).toNat - (intOf a).toNat)
    case atStart => exact ⟨0, T, rfl, rfl, by omega, Nat.le_refl _, Lib.hid (by rw [v_zero, Nat.zero_mul]; exact Nat.zero_le _), Htop, Lib.hid hr, Lib.hid ho, Lib.hid B⟩
    case round =>
      clear hr ho B c0 c1
      obtain ⟨lo, hi, rfl, rfl, hlt, hle, Hlo, Hhi, Hr, Ho, HB⟩ := hrel
      have hr := Hr.out
      have ho := Ho.out
      have B := HB.out
      clear Hr Ho HB
      obtain ⟨c0, c1⟩ := block2 hr
      by_cases hgap : lo + 1 < hi
      · obtain ⟨m, hm⟩ : ∃ m : Nat, (lo : Int) + ((hi : Int) - lo) / 2 = m := ⟨lo + (hi - lo) / 2, by omega⟩
        have m1 : lo < m := by omega
        have m2 : m < hi := by omega
        have hgap2 : (1 : Int) < (hi : Int) - lo := by omega
        have htd : ((hi : Int) - lo).tdiv 2 = ((hi : Int) - lo) / 2 := Int.tdiv_eq_ediv_of_nonneg (by omega)
        obtain ⟨fr1, -, cm1⟩ := NC.out m (by omega)
        have FR1 := Lib.hid fr1
        have CM1 := Lib.hid cm1
        clear fr1 cm1
        go_wp2_with fail
        by_cases hc : vn m mant least * D ≤ N * vd m mant least
        · obtain ⟨s, hs⟩ : ∃ s, sgn ((vn m mant least * D : Nat) : Int) ((N * vd m mant least : Nat) : Int) = s := ⟨_, rfl⟩
          rw [hs] at CM1
          have hs0 : s ≤ 0 := by rw [← hs]; unfold sgn; split <;> (try split) <;> omega
          have Hc := Lib.hid hc
          clear hs hc
          have D := (Below.refl wr.heap.size wr).drew
          have hr := hr.below D
          have ho := ho.below D
          have B := B.drew
          clear D c0 c1
          obtain ⟨c0, c1⟩ := block2 hr
          have tok1 : True := trivial
          go_region_held3 (fun w' => w'.cell? ⟨q0, 0, none⟩ = some (.string rn) ∧ w'.cell? ⟨q0, 1, none⟩ = some (.string rd))
            (first | go_keep | (exact ⟨c0, c1⟩) | (exact ⟨hr.cell 0, hr.cell 1⟩))
            (first | (go_at_call 24; have _t := tok1; clear _t tok1; have tok2 : True := trivial; refine (FR1.out _).mono ?_; rintro e W11 ⟨rfl, bq⟩; have hr := hr.below bq; have ho := ho.below bq; have B := B.trans (bq.mono B.size); clear bq) | (go_at_call 23; have _t := tok2; refine (CM1.out _).mono ?_; rintro e W12 ⟨rfl, bq⟩; have hr := hr.below bq; have ho := ho.below bq; have B := B.trans (bq.mono B.size); clear bq))
          all_goals
            go_wp2_with fail
            go_roundw
            case rel => exact ⟨m, hi, by first | rfl | go_num, by first | rfl | go_num, by omega, by omega, Hc, Hhi, Lib.hid hr, Lib.hid ho, Lib.hid B⟩
            case measure => simp [intOf]; omega
        · rw [sgn_gt (Int.ofNat_lt.2 (by omega))] at CM1
          have Hc := Lib.hid (show N * vd m mant least < vn m mant least * D by omega)
          clear hc
          have D := (Below.refl wr.heap.size wr).drew
          have hr := hr.below D
          have ho := ho.below D
          have B := B.drew
          clear D c0 c1
          obtain ⟨c0, c1⟩ := block2 hr
          have tok1 : True := trivial
          go_region_held3 (fun w' => w'.cell? ⟨q0, 0, none⟩ = some (.string rn) ∧ w'.cell? ⟨q0, 1, none⟩ = some (.string rd))
            (first | go_keep | (exact ⟨c0, c1⟩) | (exact ⟨hr.cell 0, hr.cell 1⟩))
            (first | (go_at_call 24; have _t := tok1; clear _t tok1; have tok2 : True := trivial; refine (FR1.out _).mono ?_; rintro e W11 ⟨rfl, bq⟩; have hr := hr.below bq; have ho := ho.below bq; have B := B.trans (bq.mono B.size); clear bq) | (go_at_call 23; have _t := tok2; refine (CM1.out _).mono ?_; rintro e W12 ⟨rfl, bq⟩; have hr := hr.below bq; have ho := ho.below bq; have B := B.trans (bq.mono B.size); clear bq))
          all_goals
            go_wp2_with fail
            go_roundw
            case rel => exact ⟨lo, m, by first | rfl | go_num, by first | rfl | go_num, by omega, by omega, Hlo, Hc, Lib.hid hr, Lib.hid ho, Lib.hid B⟩
            case measure => simp [intOf]; omega
      · obtain rfl : hi = lo + 1 := by omega
        have vb1 := NC.out lo (by omega)
        have vb2 := NC.out (lo + 1) (by omega)
        have FRl := Lib.hid vb1.1
        have FRh := Lib.hid vb2.1
        rw [show (((lo + 1 : Nat)) : Int) = (lo : Int) + 1 by omega] at FRh
        clear vb1 vb2
        obtain ⟨LS1, LS2, C3⟩ := NL.out lo (by omega) Hlo.out Hhi.out
        have hends : NearEnds N D mant least lo := ⟨Hlo.out, Hhi.out⟩
        have hns := near_sgn (N := N) (D := D) (mant := mant) (least := least) (lo := lo) hD0
        have hx0 := list_is48 (N * vd lo mant least - vn lo mant least * D)
        obtain ⟨ex, hex⟩ : ∃ ex, decide (N * vd lo mant least - vn lo mant least * D = 0) = ex := ⟨_, rfl⟩
        have Hpost : ∀ e, ((nearer N D mant least lo = 1 ∧ e = .returned (.agg #[.int .u64 ((lo + 1 : Nat) : Int), .bool false])) ∨ (nearer N D mant least lo = 0 ∧ e = .returned (.agg #[.int .u64 (lo : Int), .bool ex]))) → NearPost N D E H mant least e := fun e he => .inr ⟨lo, by omega, hends, by rw [hex]; exact he⟩
        have Hpost := Lib.hid Hpost
        rw [hex] at hx0
        generalize sgn (((N * vd lo mant least - vn lo mant least * D) * (vd (lo + 1) mant least * D) : Nat) : Int) (((vn (lo + 1) mant least * D - N * vd (lo + 1) mant least) * (D * vd lo mant least) : Nat) : Int) = sg at *
        generalize numStr ((N * vd lo mant least - vn lo mant least * D : Nat) : Int) = dn at *
        generalize numStr ((D * vd lo mant least : Nat) : Int) = dd at *
        generalize numStr ((vn (lo + 1) mant least * D - N * vd (lo + 1) mant least : Nat) : Int) = un at *
        generalize numStr ((vd (lo + 1) mant least * D : Nat) : Int) = ud at *
        have LS1 := Lib.hid LS1
        have LS2 := Lib.hid LS2
        have C3 := Lib.hid C3
        have Hns := Lib.hid hns
        have Hx0 := Lib.hid hx0
        clear hns hx0 hends hex Hlo Hhi
        go_wp2_with fail
        go_cut [8] (fun va wx => ∃ p, va = .pointer (some ⟨p, 0, none⟩) ∧ Hid (BlockAt wx p #[.string dn, .string dd] 38) ∧ Hid (BlockAt wx q0 #[.string rn, .string rd] 38) ∧ Hid (BlockAt wx q1 #[.int .u64 0, .bool false] 34) ∧ Hid (Below w.heap.size w wx))
        case first =>
          have D := (Below.refl wr.heap.size wr).drew
          have hr := hr.below D
          have ho := ho.below D
          have B := B.drew
          clear D c0 c1
          obtain ⟨c0, c1⟩ := block2 hr
          have tok1 : True := trivial
          go_region_held3 (fun w' => w'.cell? ⟨q0, 0, none⟩ = some (.string rn) ∧ w'.cell? ⟨q0, 1, none⟩ = some (.string rd))
            (first | (exact ⟨c0, c1⟩) | (exact ⟨hr.cell 0, hr.cell 1⟩) | (exact ⟨dkeep hr 0, dkeep hr 1⟩) | (exact ⟨(hr.below ((Below.refl _ _).alloc (Nat.le_refl _) _)).cell 0, (hr.below ((Below.refl _ _).alloc (Nat.le_refl _) _)).cell 1⟩) | (exact ⟨((hr.other gn0 0 _).other gn0 1 _).cell 0, ((hr.other gn0 0 _).other gn0 1 _).cell 1⟩) | go_keep | ((repeat' apply And.intro) <;> go_keep))
            (first | (go_at_call 24; have _t := tok1; clear _t tok1; have tok2 : True := trivial; refine (FRl.out _).mono ?_; rintro e W11 ⟨rfl, bq⟩; (first | (have hr := hr.below bq; have ho := ho.below bq; have B := B.trans (bq.mono B.size); clear bq) | (obtain ⟨ga, bq⟩ := one_new_d bq; have gan0 := Nat.ne_of_lt hr.lt; have gan1 := Nat.ne_of_lt ho.lt; have gn0 := gan0; have gap := B.size; have hr := hr.below bq; have ho := ho.below bq; have B := B.trans (bq.mono B.size); clear bq; have ga0 := ga.free 0; have ga1 := ga.free 1; obtain ⟨ga2, ga3⟩ := block2 ga; have gal := ga.lt))) | (go_at_call 25; have _t := tok2; refine (LS1.out _).mono ?_; rintro e W12 ⟨rfl, bq⟩; (first | (have ga := ga.below bq; clear ga0 ga1 ga2 ga3 gal; have hr := hr.below bq; have ho := ho.below bq; have B := B.trans (bq.mono B.size); clear bq; have ga0 := ga.free 0; have ga1 := ga.free 1; obtain ⟨ga2, ga3⟩ := block2 ga; have gal := ga.lt) | (have hr := hr.below bq; have ho := ho.below bq; have B := B.trans (bq.mono B.size); clear bq) | (obtain ⟨ga, bq⟩ := one_new bq; have gan0 := Nat.ne_of_lt hr.lt; have gan1 := Nat.ne_of_lt ho.lt; have gn0 := gan0; have gap := B.size; have hr := hr.below bq; have ho := ho.below bq; have B := B.trans (bq.mono B.size); clear bq; have ga0 := ga.free 0; have ga1 := ga.free 1; obtain ⟨ga2, ga3⟩ := block2 ga; have gal := ga.lt))))
          all_goals
            go_wp2_with fail
            go_meet
            first
              | (obtain ⟨y1, y2, y3, y4⟩ := alloc_end (cs := #[.string dn, .string dd]) (t := 38) hr ho B; with_reducible exact ⟨_, rfl, Lib.hid y1, Lib.hid y2, Lib.hid y3, Lib.hid y4⟩)
              | (obtain ⟨y1, y2, y3, y4⟩ := set_end (v0 := .string dn) (v1 := .string dd) ga hr ho B gap gan0 gan1; with_reducible exact ⟨_, rfl, Lib.hid y1, Lib.hid y2, Lib.hid y3, Lib.hid y4⟩)
        case rest =>
          rename_i wc
          obtain ⟨pd, rfl, Hd1, Hr1, Ho1, HB1⟩ := hcut
          clear hr ho B c0 c1 LS1 FRl
          have hd := Hd1.out
          have hr := Hr1.out
          have ho := Ho1.out
          have B := HB1.out
          clear Hd1 Hr1 Ho1 HB1
          obtain ⟨c0, c1⟩ := block2 hr
          go_wp2_with fail
          go_cut [9] (fun va wx => ∃ p, va = .pointer (some ⟨p, 0, none⟩) ∧ Hid (BlockAt wx p #[.string un, .string ud] 38) ∧ Hid (BlockAt wx pd #[.string dn, .string dd] 38) ∧ Hid (BlockAt wx q1 #[.int .u64 0, .bool false] 34) ∧ Hid (Below w.heap.size w wx))
          case first =>
            have D := (Below.refl wc.heap.size wc).drew
            have hr := hr.below D
            have hd := hd.below D
            have ho := ho.below D
            have B := B.drew
            clear D c0 c1
            obtain ⟨c0, c1⟩ := block2 hr
            have tok1 : True := trivial
            go_region_held3 (fun w' => w'.cell? ⟨q0, 0, none⟩ = some (.string rn) ∧ w'.cell? ⟨q0, 1, none⟩ = some (.string rd))
              (first | (exact ⟨c0, c1⟩) | (exact ⟨hr.cell 0, hr.cell 1⟩) | (exact ⟨dkeep hr 0, dkeep hr 1⟩) | (exact ⟨(hr.below ((Below.refl _ _).alloc (Nat.le_refl _) _)).cell 0, (hr.below ((Below.refl _ _).alloc (Nat.le_refl _) _)).cell 1⟩) | (exact ⟨((hr.other gn0 0 _).other gn0 1 _).cell 0, ((hr.other gn0 0 _).other gn0 1 _).cell 1⟩) | go_keep | ((repeat' apply And.intro) <;> go_keep))
              (first | (go_at_call 24; have _t := tok1; clear _t tok1; have tok2 : True := trivial; refine (FRh.out _).mono ?_; rintro e W11 ⟨rfl, bq⟩; (first | (have hr := hr.below bq; have ho := ho.below bq; have hd := hd.below bq; have B := B.trans (bq.mono B.size); clear bq) | (obtain ⟨gb, bq⟩ := one_new_d bq; have gbn0 := Nat.ne_of_lt hr.lt; have gbn1 := Nat.ne_of_lt ho.lt; have gbn2 := Nat.ne_of_lt hd.lt; have gn0 := gbn0; have gbp := B.size; have hr := hr.below bq; have ho := ho.below bq; have hd := hd.below bq; have B := B.trans (bq.mono B.size); clear bq; have gb0 := gb.free 0; have gb1 := gb.free 1; obtain ⟨gb2, gb3⟩ := block2 gb; have gbl := gb.lt))) | (go_at_call 25; have _t := tok2; refine (LS2.out _).mono ?_; rintro e W12 ⟨rfl, bq⟩; (first | (have gb := gb.below bq; clear gb0 gb1 gb2 gb3 gbl; have hr := hr.below bq; have ho := ho.below bq; have hd := hd.below bq; have B := B.trans (bq.mono B.size); clear bq; have gb0 := gb.free 0; have gb1 := gb.free 1; obtain ⟨gb2, gb3⟩ := block2 gb; have gbl := gb.lt) | (have hr := hr.below bq; have ho := ho.below bq; have hd := hd.below bq; have B := B.trans (bq.mono B.size); clear bq) | (obtain ⟨gb, bq⟩ := one_new bq; have gbn0 := Nat.ne_of_lt hr.lt; have gbn1 := Nat.ne_of_lt ho.lt; have gbn2 := Nat.ne_of_lt hd.lt; have gn0 := gbn0; have gbp := B.size; have hr := hr.below bq; have ho := ho.below bq; have hd := hd.below bq; have B := B.trans (bq.mono B.size); clear bq; have gb0 := gb.free 0; have gb1 := gb.free 1; obtain ⟨gb2, gb3⟩ := block2 gb; have gbl := gb.lt))))
            all_goals
              go_wp2_with fail
              go_meet
              first
                | (obtain ⟨y1, y2, y3, y4⟩ := alloc_end (cs := #[.string un, .string ud]) (t := 38) hd ho B; with_reducible exact ⟨_, rfl, Lib.hid y1, Lib.hid y2, Lib.hid y3, Lib.hid y4⟩)
                | (obtain ⟨y1, y2, y3, y4⟩ := set_end (v0 := .string un) (v1 := .string ud) gb hd ho B gbp gbn2 gbn1; with_reducible exact ⟨_, rfl, Lib.hid y1, Lib.hid y2, Lib.hid y3, Lib.hid y4⟩)
          case rest =>
            rename_i wc2
            obtain ⟨pu, rfl, Hu1, Hd1, Ho1, HB1⟩ := hcut
            clear hr ho B c0 c1 LS2 FRh hd
            have hu := Hu1.out
            have hd := Hd1.out
            have ho := Ho1.out
            have B := HB1.out
            clear Hu1 Hd1 Ho1 HB1
            obtain ⟨c0, c1⟩ := block2 hd
            obtain ⟨c2, c3⟩ := block2 hu
            have dl := hd.lt
            have ul := hu.lt
            rcases Hns.out with ⟨rfl, hn⟩ | ⟨rfl, hp, hn⟩ | ⟨rfl, hp, hn⟩ | ⟨rfl, hn⟩
            · have hn := Lib.hid hn
              clear Hns
              go_wp2_with fail
              refine (C3.out _).mono ?_
              rintro e W13 ⟨rfl, bq⟩
              have ho := ho.below bq
              have hd := hd.below bq
              have B := B.trans (bq.mono B.size)
              clear bq C3 c0 c1 c2 c3 dl ul
              obtain ⟨c0, c1⟩ := block2 hd
              have dl := hd.lt
              have hx0 := Hx0.out
              have f0 := ho.free 0
              have f1 := ho.free 1
              obtain ⟨g0, g1⟩ := block2 ho
              go_wp2_with fail
              refine bodyPost_ret (v := .agg #[.int .u64 ((lo : Int) + 1), .bool false]) (by simp [results, Try.results9, go_sem, g0, g1]) rfl ⟨Hpost.out _ (.inl ⟨hn.out, rfl⟩), ?_⟩
              exact (B.setCell (p := ⟨q1, 0, none⟩) l1 _).setCell (p := ⟨q1, 1, none⟩) l1 _
            · have hn := Lib.hid hn
              clear Hns
              have hp1 : (lo : Int) % 2 = 1 := by omega
              have hp2 : (lo : Int).tmod 2 = 1 := by rw [Int.tmod_eq_emod_of_nonneg (by omega)]; exact hp1
              go_wp2_with fail
              refine (C3.out _).mono ?_
              rintro e W13 ⟨rfl, bq⟩
              have ho := ho.below bq
              have hd := hd.below bq
              have B := B.trans (bq.mono B.size)
              clear bq C3 c0 c1 c2 c3 dl ul
              obtain ⟨c0, c1⟩ := block2 hd
              have dl := hd.lt
              have hx0 := Hx0.out
              have f0 := ho.free 0
              have f1 := ho.free 1
              obtain ⟨g0, g1⟩ := block2 ho
              go_wp2_with fail
              refine bodyPost_ret (v := .agg #[.int .u64 ((lo : Int) + 1), .bool false]) (by simp [results, Try.results9, go_sem, g0, g1]) rfl ⟨Hpost.out _ (.inl ⟨hn.out, rfl⟩), ?_⟩
              exact (B.setCell (p := ⟨q1, 0, none⟩) l1 _).setCell (p := ⟨q1, 1, none⟩) l1 _
            · have hn := Lib.hid hn
              clear Hns
              have hp1 : (lo : Int) % 2 = 0 := by omega
              have hp2 : (lo : Int).tmod 2 = 0 := by rw [Int.tmod_eq_emod_of_nonneg (by omega)]; exact hp1
              go_wp2_with fail
              refine (C3.out _).mono ?_
              rintro e W13 ⟨rfl, bq⟩
              have ho := ho.below bq
              have hd := hd.below bq
              have B := B.trans (bq.mono B.size)
              clear bq C3 c0 c1 c2 c3 dl ul
              obtain ⟨c0, c1⟩ := block2 hd
              have dl := hd.lt
              have hx0 := Hx0.out
              have f0 := ho.free 0
              have f1 := ho.free 1
              obtain ⟨g0, g1⟩ := block2 ho
              go_wp2_with fail
              refine bodyPost_ret (v := .agg #[.int .u64 ((lo : Int)), .bool ex]) (by simp [results, Try.results9, go_sem, g0, g1]) rfl ⟨Hpost.out _ (.inr ⟨hn.out, rfl⟩), ?_⟩
              exact (B.setCell (p := ⟨q1, 0, none⟩) l1 _).setCell (p := ⟨q1, 1, none⟩) l1 _
            · have hn := Lib.hid hn
              clear Hns
              go_wp2_with fail
              refine (C3.out _).mono ?_
              rintro e W13 ⟨rfl, bq⟩
              have ho := ho.below bq
              have hd := hd.below bq
              have B := B.trans (bq.mono B.size)
              clear bq C3 c0 c1 c2 c3 dl ul
              obtain ⟨c0, c1⟩ := block2 hd
              have dl := hd.lt
              have hx0 := Hx0.out
              have f0 := ho.free 0
              have f1 := ho.free 1
              obtain ⟨g0, g1⟩ := block2 ho
              go_wp2_with fail
              refine bodyPost_ret (v := .agg #[.int .u64 ((lo : Int)), .bool ex]) (by simp [results, Try.results9, go_sem, g0, g1]) rfl ⟨Hpost.out _ (.inr ⟨hn.out, rfl⟩), ?_⟩
              exact (B.setCell (p := ⟨q1, 0, none⟩) l1 _).setCell (p := ⟨q1, 1, none⟩) l1 _
/-- Nearest, of any fraction. -/
theorem nearest_any {size : Int} {S H E mant least : Nat} (F : Form3 size S H E mant least) (N D : Nat) (w : World) (hN : N < 2 ^ KN) (hD : D < 2 ^ KN) (hD0 : 0 < D) :
    Calls Try.prog 9 #[.agg #[.string (numStr (N : Int)), .string (numStr (D : Int))], .int .i64 size] w fun e w' => NearPost N D E H mant least e ∧ Below w.heap.size w w' := by
  rcases Nat.lt_or_ge (N * vd (E * H) mant least) (vn (E * H) mant least * D) with h | h
  · exact nearest_in F N D w hN hD hD0 h
  · exact nearest_top F N D w hN hD h
end Go.Proofs.Ytlkadnaoacoicaa
