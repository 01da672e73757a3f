import Derived.Test.YtkmnfkhchcoamaaGreatDoorTypPF
import Derived.Test.YtkmnfkhchcoamaaGreatDoorTypPC
import Derived.Test.YtkmnfkhchcoamaaGreatDoorRegT
import Derived.ArgAppend
/- The program's Add. -/
namespace Go.Proofs.YtkmnfkhchcoamaaGreatDoor
open Go.RowKit
set_option linter.unusedSimpArgs false
set_option linter.unusedVariables false

theorem wp_run_append {P : Program} {o : Oper} {a : Act} {w w' : World} {K : Act → World → Prop} {Q : Exit → Act → World → Prop} (s x : Operand) (t : TypeId)
    (ho : o.op = .call { callee := .builtin .append, args := #[s, x], argTypes := #[t, t] }) (vs vx v' : Value) (hs : a.eval s = vs) (hx : a.eval x = vx) (hr : (Builtin.append_ #[t, t] o.type #[vs, vx]).run P w = .ok v' w') (h : K (a.put o.dst v') w') : o.wp P a w K Q := by
  unfold Oper.wp execOp
  simp only [ho, resolve, invoke, builtin, Sem.run_bind, Sem.run_pure, Result.andThen_ok, List.map_toArray, List.map_cons, List.map_nil, hs, hx, hr]
  exact h
/-- What the program's Add gives. -/
def paddT (l : List Ty) (t : Ty) : List Ty × Int × Int := if rightT l = true then addT l t else ([], 0, 1)
theorem padd_wrong {l : List Ty} {t : Ty} (h : rightT l = false) : paddT l t = ([], 0, 1) := by unfold paddT; rw [h]; rfl
theorem padd_there {l : List Ty} {t : Ty} (h : rightT l = true) (hp : 0 ≤ atT l t) : paddT l t = (l, atT l t, 0) := by unfold paddT addT; rw [if_pos h, if_pos hp]
theorem padd_bad {l : List Ty} {t : Ty} (h : rightT l = true) (hp : atT l t < 0) (hm : madeB l t = false) : paddT l t = ([], 0, 1) := by unfold paddT addT; rw [if_pos h, if_neg (by omega), if_pos hm]
theorem padd_many {l : List Ty} {t : Ty} (h : rightT l = true) (hp : atT l t < 0) (hm : madeB l t = true) (hn : l.length = 400) : paddT l t = ([], 0, 7) := by unfold paddT addT; rw [if_pos h, if_neg (by omega), if_neg (by rw [hm]; decide), if_pos hn]
theorem padd_new {l : List Ty} {t : Ty} (h : rightT l = true) (hp : atT l t < 0) (hm : madeB l t = true) (hn : ¬ l.length = 400) : paddT l t = (l ++ [t], (l.length : Int), 0) := by unfold paddT addT; rw [if_pos h, if_neg (by omega), if_neg (by rw [hm]; decide), if_neg hn]
def PAddR (w : World) (R : List Ty × Int × Int) (e : Ending) (w' : World) : Prop := ∃ ao cap, e = .returned (.tuple #[.slice ao R.1.length cap, .int .i64 R.2.1, .int .i64 R.2.2]) ∧ ARow w' ao R.1 ∧ R.1.length ≤ cap ∧ Below w.heap.size w w'
theorem padd_none {w w' : World} {R : List Ty × Int × Int} {e : Int} (h : R = ([], 0, e)) (hb : Below w.heap.size w w') : PAddR w R (.returned (.tuple #[.slice none 0 0, .int .i64 0, .int .i64 e])) w' := by
  subst h
  exact ⟨none, 0, rfl, .inl rfl, Nat.le_refl _, hb⟩
set_option maxHeartbeats 16000000 in
set_option maxRecDepth 100000 in
theorem padd_any (l : List Ty) (ao : Option Addr) (ac : Nat) (t : Ty) (wo ko : Option Addr) (wc kc : Nat) (w : World) (hl : ARow w ao l) (ll : l.length ≤ 1000) (hac : l.length ≤ ac) (hE : Env w) (ht : TyC w wo ko t) (hsm : TySm t) (hwc : t.words.length ≤ wc) (hkc : t.kids.length ≤ kc) :
    Calls Tryz.prog 34 #[.slice ao l.length ac, tyV t wo wc ko kc] w (PAddR w (paddT l t)) := by
  obtain ⟨R, hR⟩ : ∃ R, paddT l t = R := ⟨_, rfl⟩
  rw [hR]
  have HR := Lib.hid hR
  obtain ⟨w1, h1⟩ : ∃ w1, w.alloc (.cells #[.int .i64 t.kind, .string t.name, .int .i64 t.n, .slice wo t.words.length wc, .slice ko t.kids.length kc] 38) = w1 := ⟨_, rfl⟩
  obtain ⟨k1, q1, z1⟩ := box_new h1
  have BW := Lib.hid q1
  have K1 := Lib.hid k1
  have HA := Lib.hid (hl.below q1)
  have HA0 := Lib.hid hl
  have HT := Lib.hid (ht.below q1)
  have HE := Lib.hid (hE.below q1)
  have HIDX0 := index_any l ao ac w1 HA.out ll hac HE.out
  have HFND0 := fun (hr : rightT l = true) (mb : Nat) W (h : Below w1.heap.size w1 W) (hm : KMap W mb (pairs l l.length)) => find_any l ao ac mb t wo ko wc kc W (HA.out.below h) hr hac (HE.out.below h) hm (HT.out.below h) hsm hwc hkc
  have HMD0 := fun W (h : Below w1.heap.size w1 W) => pmade_any l ao ac t wo ko wc kc W (HA.out.below h) (HT.out.below h) ll hwc (HE.out.below h).max
  obtain ⟨n, hn⟩ : ∃ n, l.length = n := ⟨_, rfl⟩
  have HN := Lib.hid hn
  unfold tyV at HFND0 HMD0 ⊢
  rw [hn] at HIDX0 HFND0 HMD0 ll hac ⊢
  obtain ⟨rt, hrt⟩ : ∃ rt, rightT l = rt := ⟨_, rfl⟩
  obtain ⟨pl, hpl⟩ : ∃ p, atT l t = p := ⟨_, rfl⟩
  obtain ⟨md, hmd⟩ : ∃ m, madeB l t = m := ⟨_, rfl⟩
  have HRT := Lib.hid hrt
  have HPL := Lib.hid hpl
  have HMDB := Lib.hid hmd
  rw [hpl] at HFND0
  rw [hmd] at HMD0
  have HIDX := Lib.hid HIDX0
  have HFND := Lib.hid HFND0
  have HMD := Lib.hid HMD0
  have HWK := Lib.hid (And.intro hwc hkc)
  obtain ⟨c0, c1, c2, c3, c4⟩ := cell5 k1
  have Z1 := Lib.hid z1
  clear hR hn hl hE ht hwc hkc k1 q1 z1 HIDX0 HFND0 HMD0 hrt hpl hmd
  go_enter Tryz.func34, Tryz.ntmps34
  go_wp2_with fail
  refine HIDX.out.mono ?_
  rintro e w2 ⟨mo, rfl, b2, hm2⟩
  rw [HRT.out] at hm2 ⊢
  have B2 := Lib.hid b2
  have BE2 := Lib.hid (BW.out.trans (b2.mono BW.out.size))
  clear b2 c0 c1 c2 c3 c4 h1
  cases rt
  · have Hp := Lib.hid (show R = ([], 0, 1) by rw [← HR.out]; exact padd_wrong HRT.out)
    clear hm2
    go_wp2_with fail
    go_ret3
    exact padd_none Hp.out BE2.out
  obtain ⟨mb, rfl, hmb, hkm⟩ := hm2 rfl
  have HKM := Lib.hid hkm
  clear hm2 hkm hmb
  obtain ⟨c0, c1, c2, c3, c4⟩ := cell5 (K1.out.below B2.out)
  go_wp2_with fail
  refine (HFND.out HRT.out mb w2 B2.out (by rw [HN.out] at HKM; exact HKM.out)).mono ?_
  rintro e w3 ⟨rfl, b3⟩
  have B3 := Lib.hid (B2.out.trans (b3.mono B2.out.size))
  have BE3 := Lib.hid (BE2.out.trans (b3.mono BE2.out.size))
  clear b3 c0 c1 c2 c3 c4
  by_cases hpos : 0 ≤ pl
  · have Hp := Lib.hid (show R = (l, pl, 0) by rw [← HR.out, padd_there HRT.out (by rw [HPL.out]; exact hpos), HPL.out])
    rw [if_pos hpos, decide_eq_true hpos]
    go_wp2_with fail
    go_ret3
    rw [Hp.out]
    exact ⟨ao, ac, by (rw [show (l, pl, (0 : Int)).1.length = n from HN.out]; rfl), HA.out.below B3.out, by rw [show (l, pl, (0 : Int)).1.length = n from HN.out]; exact hac, BE3.out⟩
  have hneg : pl < 0 := by omega
  rw [if_neg hpos, decide_eq_false hpos]
  obtain ⟨c0, c1, c2, c3, c4⟩ := cell5 (K1.out.below B3.out)
  go_wp2_with fail
  refine (HMD.out w3 B3.out).mono ?_
  rintro e w4 ⟨rfl, b4⟩
  have B4 := Lib.hid (B3.out.trans (b4.mono B3.out.size))
  have BE4 := Lib.hid (BE3.out.trans (b4.mono BE3.out.size))
  clear b4 c0 c1 c2 c3 c4
  cases md
  · have Hp := Lib.hid (show R = ([], 0, 1) by rw [← HR.out]; exact padd_bad HRT.out (by rw [HPL.out]; exact hneg) HMDB.out)
    go_wp2_with fail
    go_ret3
    exact padd_none Hp.out BE4.out
  by_cases h400 : n = 400
  · have Hp := Lib.hid (show R = ([], 0, 7) by rw [← HR.out]; exact padd_many HRT.out (by rw [HPL.out]; exact hneg) HMDB.out (by rw [HN.out]; exact h400))
    have hq : ((n : Int) == 400) = true := by rw [beq_iff_eq]; omega
    clear h400
    go_wp2_with fail
    go_ret3
    exact padd_none Hp.out BE4.out
  have Hp := Lib.hid (show R = (l ++ [t], (n : Int), 0) by rw [← HR.out, padd_new HRT.out (by rw [HPL.out]; exact hneg) HMDB.out (by rw [HN.out]; exact h400), HN.out])
  have hq : ((n : Int) == 400) = false := by rw [beq_eq_false_iff_ne]; omega
  have hl1 : t.words.length ≤ 1000 := by have := HT.out.ok.wl; omega
  have hl2 : t.kids.length ≤ 1000 := by have := HT.out.ok.kl; omega
  have HCW := Lib.hid (fun W (h : Below w1.heap.size w1 W) => clone_str wo wc t.words W (HT.out.below h).words hl1)
  have HCK := Lib.hid (fun W (h : Below w1.heap.size w1 W) => clone_int ko kc t.kids W (HT.out.below h).kids hl2)
  obtain ⟨c0, c1, c2, c3, c4⟩ := cell5 (K1.out.below B4.out)
  clear hl1 hl2
  go_wp2_with fail
  refine GoG.start [(7, ⟨w.heap.size, 3, none⟩, .slice wo t.words.length wc), (9, ⟨w.heap.size, 4, none⟩, .slice ko t.kids.length kc)] (by kernel_rfl) ?_ ?_
  · exact (Keeps.cons (by first | assumption | simp [*]) (Keeps.cons (by first | assumption | simp [*]) (Keeps.nil)))
  refine GoG.take (i := 0) (v := ?_) [] rfl (by kernel_rfl) (by kernel_rfl) (by kernel_rfl) (by kernel_rfl) (by kernel_rfl) (by kernel_rfl) (fun _ _ _ h => h) (yields_free (by rfl) (fun w => ?_)) ?_
  rotate_left
  · go_simp; try (with_reducible rfl)
  try simp only [Act.put, List.getElem_toArray, List.getElem_cons_succ, List.getElem_cons_zero, List.setIfInBounds_toArray, List.set_cons_zero, List.set_cons_succ]
  refine GoG.take (i := 1) (v := ?_) [7] rfl (by kernel_rfl) (by kernel_rfl) (by kernel_rfl) (by kernel_rfl) (by kernel_rfl) (by kernel_rfl) (fun _ _ _ h => h) (.inl ⟨by rfl, fun wz hS => ?_⟩) ?_
  rotate_left
  · have g0 : wz.cell? ⟨w.heap.size, 3, none⟩ = some (.slice wo t.words.length wc) := hS (7, ⟨w.heap.size, 3, none⟩, .slice wo t.words.length wc) (by simp) (by simp)
    clear hS
    go_simp; try (with_reducible rfl)
  try simp only [Act.put, List.getElem_toArray, List.getElem_cons_succ, List.getElem_cons_zero, List.setIfInBounds_toArray, List.set_cons_zero, List.set_cons_succ]
  refine GoG.take (i := 3) (v := ?_) [] rfl (by kernel_rfl) (by kernel_rfl) (by kernel_rfl) (by kernel_rfl) (by kernel_rfl) (by kernel_rfl) (fun _ _ _ h => h) (yields_free (by rfl) (fun w => ?_)) ?_
  rotate_left
  · go_simp; try (with_reducible rfl)
  try simp only [Act.put, List.getElem_toArray, List.getElem_cons_succ, List.getElem_cons_zero, List.setIfInBounds_toArray, List.set_cons_zero, List.set_cons_succ]
  refine GoG.take (i := 4) (v := ?_) [9] rfl (by kernel_rfl) (by kernel_rfl) (by kernel_rfl) (by kernel_rfl) (by kernel_rfl) (by kernel_rfl) (fun _ _ _ h => h) (.inl ⟨by rfl, fun wz hS => ?_⟩) ?_
  rotate_left
  · have g0 : wz.cell? ⟨w.heap.size, 4, none⟩ = some (.slice ko t.kids.length kc) := hS (9, ⟨w.heap.size, 4, none⟩, .slice ko t.kids.length kc) (by simp) (by simp)
    clear hS
    go_simp; try (with_reducible rfl)
  try simp only [Act.put, List.getElem_toArray, List.getElem_cons_succ, List.getElem_cons_zero, List.setIfInBounds_toArray, List.set_cons_zero, List.set_cons_succ]
  have BD := Lib.hid (show Below w1.heap.size w1 w4.drew from B4.out.drew)
  clear c0 c1 c2 c3 c4
  refine GoG.one (i := 2) rfl (by kernel_rfl) (fun K hK => ?_)
  go_simp
  refine (HCW.out _ BD.out).mono ?_
  rintro e w5 ⟨wo2, wc2, rfl, hw2, hwl2, hwn2, b5⟩
  have B5 := Lib.hid (BD.out.trans (b5.mono BD.out.size))
  have HW2 := Lib.hid (And.intro hw2 (And.intro hwl2 (show ∀ a, wo2 = some a → a.block ≠ w.heap.size from fun a h => by have h1 := hwn2 a h; have h2 := BD.out.size; have h3 := Z1.out; omega)))
  clear hw2 hwl2 hwn2 b5
  obtain ⟨-, -, -, c3, c4⟩ := cell5 (K1.out.below B5.out)
  refine hK.out _ _ (Keeps.cons (by first | assumption | simp [*]) (Keeps.cons (by first | assumption | simp [*]) (Keeps.nil))) ?_
  clear hK K c3 c4
  try simp only [Act.put, List.getElem_toArray, List.getElem_cons_succ, List.getElem_cons_zero, List.setIfInBounds_toArray, List.set_cons_zero, List.set_cons_succ]
  refine GoG.take (i := 6) (v := ?_) [] rfl (by kernel_rfl) (by kernel_rfl) (by kernel_rfl) (by kernel_rfl) (by kernel_rfl) (by kernel_rfl) (fun _ _ _ h => h) (yields_free (by rfl) (fun w => ?_)) ?_
  rotate_left
  · go_simp; try (with_reducible rfl)
  try simp only [Act.put, List.getElem_toArray, List.getElem_cons_succ, List.getElem_cons_zero, List.setIfInBounds_toArray, List.set_cons_zero, List.set_cons_succ]
  refine GoG.one (i := 5) rfl (by kernel_rfl) (fun K hK => ?_)
  go_simp
  refine (HCK.out _ B5.out).mono ?_
  rintro e w6 ⟨ko2, kc2, rfl, hk2, hkl2, hkn2, b6⟩
  have B6 := Lib.hid (B5.out.trans (b6.mono B5.out.size))
  have HK2 := Lib.hid (And.intro hk2 (And.intro hkl2 (show ∀ a, ko2 = some a → a.block ≠ w.heap.size from fun a h => by have h1 := hkn2 a h; have h2 := B5.out.size; have h3 := Z1.out; omega)))
  have HW3 := Lib.hid (And.intro (HW2.out.1.below b6) HW2.out.2)
  clear hk2 hkl2 hkn2 b6 HW2
  obtain ⟨-, -, -, c3, c4⟩ := cell5 (K1.out.below B6.out)
  refine hK.out _ _ (Keeps.cons (by first | assumption | simp [*]) (Keeps.cons (by first | assumption | simp [*]) (Keeps.nil))) ?_
  clear hK K c3 c4
  try simp only [Act.put, List.getElem_toArray, List.getElem_cons_succ, List.getElem_cons_zero, List.setIfInBounds_toArray, List.set_cons_zero, List.set_cons_succ]
  obtain ⟨s1, hs1⟩ : ∃ s, w6.setCell ⟨w.heap.size, 3, none⟩ (.slice wo2 t.words.length wc2) = s := ⟨_, rfl⟩
  have KA := Lib.hid (show BlockAt s1 w.heap.size #[.int .i64 t.kind, .string t.name, .int .i64 t.n, .slice wo2 t.words.length wc2, .slice ko t.kids.length kc] 38 from by rw [← hs1]; exact (K1.out.below B6.out).set 3 _)
  obtain ⟨-, -, -, c3, c4⟩ := cell5 (K1.out.below B6.out)
  have fr3 := (K1.out.below B6.out).free 3
  refine GoG.one (i := 7) rfl (by kernel_rfl) (fun K hK => ?_)
  go_simp
  clear c3 c4 fr3
  obtain ⟨-, -, -, -, c4⟩ := cell5 KA.out
  refine hK.out _ _ (Keeps.up (by rfl) (Keeps.cons (by first | assumption | simp [*]) (Keeps.nil))) ?_
  clear hK K c4
  try simp only [Act.put, List.getElem_toArray, List.getElem_cons_succ, List.getElem_cons_zero, List.setIfInBounds_toArray, List.set_cons_zero, List.set_cons_succ]
  refine GoG.take (i := 8) (v := ?_) [] rfl (by kernel_rfl) (by kernel_rfl) (by kernel_rfl) (by kernel_rfl) (by kernel_rfl) (by kernel_rfl) (fun _ _ _ h => h) (yields_free (by rfl) (fun w => ?_)) ?_
  rotate_left
  · go_simp; try (with_reducible rfl)
  try simp only [Act.put, List.getElem_toArray, List.getElem_cons_succ, List.getElem_cons_zero, List.setIfInBounds_toArray, List.set_cons_zero, List.set_cons_succ]
  obtain ⟨s2, hs2⟩ : ∃ s, s1.setCell ⟨w.heap.size, 4, none⟩ (.slice ko2 t.kids.length kc2) = s := ⟨_, rfl⟩
  have KB := Lib.hid (show BlockAt s2 w.heap.size #[.int .i64 t.kind, .string t.name, .int .i64 t.n, .slice wo2 t.words.length wc2, .slice ko2 t.kids.length kc2] 38 from by rw [← hs2]; exact KA.out.set 4 _)
  obtain ⟨-, -, -, -, c4⟩ := cell5 KA.out
  have fr4 := KA.out.free 4
  refine GoG.one (i := 9) rfl (by kernel_rfl) (fun K hK => ?_)
  go_simp
  clear c4 fr4
  refine hK.out _ _ (Keeps.up (by rfl) (Keeps.up (by rfl) (Keeps.nil))) ?_
  clear hK K
  try simp only [Act.put, List.getElem_toArray, List.getElem_cons_succ, List.getElem_cons_zero, List.setIfInBounds_toArray, List.set_cons_zero, List.set_cons_succ]
  refine GoG.done (by kernel_rfl) ?_ _
  have BS0 := (BW.out.trans (B6.out.mono BW.out.size))
  have BS := Lib.hid (show Below w.heap.size w s2 from by rw [← hs2, ← hs1]; exact (BS0.setCell (Nat.le_refl _) _).setCell (Nat.le_refl _) _)
  have RW := Lib.hid (show SRow s2 wo2 t.words from by rw [← hs2, ← hs1]; exact row_setstr (row_setstr HW3.out.1 HW3.out.2.2) HW3.out.2.2)
  have RK := Lib.hid (show IRow s2 ko2 t.kids from by rw [← hs2, ← hs1]; exact row_setint (row_setint HK2.out.1 HK2.out.2.2) HK2.out.2.2)
  clear BS0 hs1 hs2
  obtain ⟨lb, lo, rfl, hlb, hlc⟩ := HA0.out.cells (by have := (right_step HRT.out).1.1; omega)
  obtain ⟨zs, y1, y2, y3, y4⟩ := arow_zs hlc l.length (Nat.le_refl _)
  rw [List.take_length] at y1
  rw [HN.out] at y2
  have Y := Lib.hid (And.intro hlb (And.intro y1 (And.intro y2 (And.intro y3 y4))))
  have hn1 : ¬ n = 0 := by have := (right_step HRT.out).1.1; have := HN.out; omega
  have HCL := Lib.hid (fun W => clip_any lb lo n ac W (by omega) hac)
  obtain ⟨e0, e1, e2, e3, e4⟩ := cell5 KB.out
  clear hlb hlc y1 y2 y3 y4
  go_wp2_with fail
  obtain ⟨s3, hs3⟩ : ∃ s, (s2.alloc (.cells #[.int .i64 t.kind, .string t.name, .int .i64 t.n, .slice wo2 t.words.length wc2, .slice ko2 t.kids.length kc2] 38)).drew = s := ⟨_, rfl⟩
  have hs3' : s2.drew.alloc (.cells #[.int .i64 t.kind, .string t.name, .int .i64 t.n, .slice wo2 t.words.length wc2, .slice ko2 t.kids.length kc2] 38) = s3 := hs3
  have B3s := Lib.hid (show Below s2.heap.size s2 s3 from by rw [← hs3]; exact ((Below.refl _ _).alloc (Nat.le_refl _) _).drew)
  have KS3 := Lib.hid (show BlockAt s3 s2.heap.size #[.int .i64 t.kind, .string t.name, .int .i64 t.n, .slice wo2 t.words.length wc2, .slice ko2 t.kids.length kc2] 38 from by rw [← hs3]; exact BlockAt.new s2 _ _)
  have BS3 := Lib.hid (BS.out.trans (B3s.out.mono BS.out.size))
  obtain ⟨i0, hi, hz0, hz1, hz2⟩ := info_parts info_ty
  obtain ⟨v7, w7, hap, hown7, hgrow7⟩ := run_append_arg_grows (P := Tryz.prog) s3 22 22 38 i0 (.agg #[.int .i64 0, .string ⟨#[]⟩, .int .i64 0, .slice none 0 0, .slice none 0 0]) 5 80 Tryz.underlying22 hi hz0 hz1 hz2 rfl (by decide)
    ⟨lb, lo, none⟩ n n (tzC zs) (by rw [tzC_len, Y.out.2.2.1]) (fun j u hu => by rw [addr_add]; exact (BS3.out.cell Y.out.1).trans (Y.out.2.2.2.2 j u hu)) ⟨s2.heap.size, 0, none⟩ 1 1 (tzC1 ⟨t, wo2, wc2, ko2, kc2⟩) rfl
    (fun j u hu => by
      rw [addr_add, Nat.zero_add, KS3.out.cell j]
      simpa [tzC1] using hu) (by omega) (by unfold maxLen; omega) (by omega)
  have B7 := Lib.hid (show Below s3.heap.size s3 w7 from (Below.refl _ _).grown hgrow7 (Nat.le_refl _) (fun j hj => by cases hj))
  have B7w := Lib.hid (BS3.out.trans (B7.out.mono BS3.out.size))
  have O7 : OwnZ w7 s3.heap.size v7 (zs ++ [⟨t, wo2, wc2, ko2, kc2⟩]) := own_more (by rw [Y.out.2.2.1]) hown7
  obtain ⟨ao7, cap7, rfl, r1, r2⟩ := own_arow O7 (fun z hz => by
    rcases List.mem_append.1 hz with hz | hz
    · exact (Y.out.2.2.2.1 z hz).below B7w.out
    · rw [List.mem_singleton.1 hz]
      exact ⟨HW3.out.2.1, HK2.out.2.1, ⟨(RW.out.below B3s.out).below B7.out, (RK.out.below B3s.out).below B7.out, HT.out.ok⟩⟩)
  have hmap : (zs ++ [(⟨t, wo2, wc2, ko2, kc2⟩ : Tz)]).map (·.t) = l ++ [t] := by rw [List.map_append, Y.out.2.1]; rfl
  rw [hmap] at r1 r2 hap
  have hlen : (l ++ [t]).length = n + 1 := by rw [List.length_append, HN.out]; rfl
  rw [hlen] at r2 hap
  have R7 := Lib.hid (And.intro r1 (And.intro r2 hlen))
  clear hown7 hgrow7 O7 r1 r2 hmap hlen
  refine GoG.start [(9, ⟨w.heap.size, 0, none⟩, .int .i64 t.kind), (9, ⟨w.heap.size, 1, none⟩, .string t.name), (9, ⟨w.heap.size, 2, none⟩, .int .i64 t.n), (9, ⟨w.heap.size, 3, none⟩, .slice wo2 t.words.length wc2), (9, ⟨w.heap.size, 4, none⟩, .slice ko2 t.kids.length kc2)] (by kernel_rfl) ?_ ?_
  · exact (Keeps.cons (by first | assumption | simp [*]) (Keeps.cons (by first | assumption | simp [*]) (Keeps.cons (by first | assumption | simp [*]) (Keeps.cons (by first | assumption | simp [*]) (Keeps.cons (by first | assumption | simp [*]) (Keeps.nil))))))
  refine GoG.take (i := 0) (v := ?_) [] rfl (by kernel_rfl) (by kernel_rfl) (by kernel_rfl) (by kernel_rfl) (by kernel_rfl) (by kernel_rfl) (fun _ _ _ h => h) (yields_free (by rfl) (fun w => ?_)) ?_
  rotate_left
  · go_simp; try (with_reducible rfl)
  try simp only [Act.put, List.getElem_toArray, List.getElem_cons_succ, List.getElem_cons_zero, List.setIfInBounds_toArray, List.set_cons_zero, List.set_cons_succ]
  refine GoG.take (i := 2) (v := ?_) [9] rfl (by kernel_rfl) (by kernel_rfl) (by kernel_rfl) (by kernel_rfl) (by kernel_rfl) (by kernel_rfl) (fun _ _ _ h => h) (.inl ⟨by rfl, fun wz hS => ?_⟩) ?_
  rotate_left
  · have g0 : wz.cell? ⟨w.heap.size, 0, none⟩ = some (.int .i64 t.kind) := hS (9, ⟨w.heap.size, 0, none⟩, .int .i64 t.kind) (by simp) (by simp)
    have g1 : wz.cell? ⟨w.heap.size, 1, none⟩ = some (.string t.name) := hS (9, ⟨w.heap.size, 1, none⟩, .string t.name) (by simp) (by simp)
    have g2 : wz.cell? ⟨w.heap.size, 2, none⟩ = some (.int .i64 t.n) := hS (9, ⟨w.heap.size, 2, none⟩, .int .i64 t.n) (by simp) (by simp)
    have g3 : wz.cell? ⟨w.heap.size, 3, none⟩ = some (.slice wo2 t.words.length wc2) := hS (9, ⟨w.heap.size, 3, none⟩, .slice wo2 t.words.length wc2) (by simp) (by simp)
    have g4 : wz.cell? ⟨w.heap.size, 4, none⟩ = some (.slice ko2 t.kids.length kc2) := hS (9, ⟨w.heap.size, 4, none⟩, .slice ko2 t.kids.length kc2) (by simp) (by simp)
    clear hS
    go_simp; try (with_reducible rfl)
  try simp only [Act.put, List.getElem_toArray, List.getElem_cons_succ, List.getElem_cons_zero, List.setIfInBounds_toArray, List.set_cons_zero, List.set_cons_succ]
  refine GoG.take (i := 5) (v := ?_) [] rfl (by kernel_rfl) (by kernel_rfl) (by kernel_rfl) (by kernel_rfl) (by kernel_rfl) (by kernel_rfl) (fun _ _ _ h => h) (yields_free (by rfl) (fun w => ?_)) ?_
  rotate_left
  · go_simp; try (with_reducible rfl)
  try simp only [Act.put, List.getElem_toArray, List.getElem_cons_succ, List.getElem_cons_zero, List.setIfInBounds_toArray, List.set_cons_zero, List.set_cons_succ]
  refine GoG.take (i := 6) (v := ?_) [] rfl (by kernel_rfl) (by kernel_rfl) (by kernel_rfl) (by kernel_rfl) (by kernel_rfl) (by kernel_rfl) (fun _ _ _ h => h) (yields_free (by rfl) (fun w => ?_)) ?_
  rotate_left
  · go_simp; try (with_reducible rfl)
  try simp only [Act.put, List.getElem_toArray, List.getElem_cons_succ, List.getElem_cons_zero, List.setIfInBounds_toArray, List.set_cons_zero, List.set_cons_succ]
  have KK3 := Lib.hid (show s3.cell? ⟨w.heap.size, 0, none⟩ = some (.int .i64 t.kind) ∧ s3.cell? ⟨w.heap.size, 1, none⟩ = some (.string t.name) ∧ s3.cell? ⟨w.heap.size, 2, none⟩ = some (.int .i64 t.n) ∧ s3.cell? ⟨w.heap.size, 3, none⟩ = some (.slice wo2 t.words.length wc2) ∧ s3.cell? ⟨w.heap.size, 4, none⟩ = some (.slice ko2 t.kids.length kc2) from cell5 (KB.out.below B3s.out))
  have KK7 := Lib.hid (show w7.cell? ⟨w.heap.size, 0, none⟩ = some (.int .i64 t.kind) ∧ w7.cell? ⟨w.heap.size, 1, none⟩ = some (.string t.name) ∧ w7.cell? ⟨w.heap.size, 2, none⟩ = some (.int .i64 t.n) ∧ w7.cell? ⟨w.heap.size, 3, none⟩ = some (.slice wo2 t.words.length wc2) ∧ w7.cell? ⟨w.heap.size, 4, none⟩ = some (.slice ko2 t.kids.length kc2) from cell5 ((KB.out.below B3s.out).below B7.out))
  refine GoG.two (i := 1) (j := 3) rfl rfl (by kernel_rfl) (fun K hK => ?_) (fun K hK => ?_)
  · go_simp
    refine (HCL.out _).mono ?_
    rintro e w' ⟨rfl, rfl⟩
    refine hK.out _ _ (Keeps.cons (by first | assumption | simp [*]) (Keeps.cons (by first | assumption | simp [*]) (Keeps.cons (by first | assumption | simp [*]) (Keeps.cons (by first | assumption | simp [*]) (Keeps.cons (by first | assumption | simp [*]) (Keeps.nil)))))) ?_
    clear hK K
    try simp only [Act.put, List.getElem_toArray, List.getElem_cons_succ, List.getElem_cons_zero, List.setIfInBounds_toArray, List.set_cons_zero, List.set_cons_succ]
    refine GoG.one (i := 3) rfl (by kernel_rfl) (fun K hK => ?_)
    go_simp
    refine hK.out _ _ (Keeps.cons KK3.out.1 (Keeps.cons KK3.out.2.1 (Keeps.cons KK3.out.2.2.1 (Keeps.cons KK3.out.2.2.2.1 (Keeps.cons KK3.out.2.2.2.2 Keeps.nil))))) ?_
    clear hK K
    try simp only [Act.put, List.getElem_toArray, List.getElem_cons_succ, List.getElem_cons_zero, List.setIfInBounds_toArray, List.set_cons_zero, List.set_cons_succ]
    refine GoG.one (i := 4) rfl (by kernel_rfl) (fun K hK => ?_)
    rw [if_pos (by rfl)]
    refine wp_run_append _ _ _ rfl _ _ _ rfl rfl hap ?_
    refine hK.out _ _ (Keeps.cons KK7.out.1 (Keeps.cons KK7.out.2.1 (Keeps.cons KK7.out.2.2.1 (Keeps.cons KK7.out.2.2.2.1 (Keeps.cons KK7.out.2.2.2.2 Keeps.nil))))) ?_
    clear hK K
    try simp only [Act.put, List.getElem_toArray, List.getElem_cons_succ, List.getElem_cons_zero, List.setIfInBounds_toArray, List.set_cons_zero, List.set_cons_succ]
    refine GoG.take (i := 7) (v := ?_) [] rfl (by kernel_rfl) (by kernel_rfl) (by kernel_rfl) (by kernel_rfl) (by kernel_rfl) (by kernel_rfl) (fun _ _ _ h => h) (yields_free (by rfl) (fun w => ?_)) ?_
    rotate_left
    · go_simp; try (with_reducible rfl)
    try simp only [Act.put, List.getElem_toArray, List.getElem_cons_succ, List.getElem_cons_zero, List.setIfInBounds_toArray, List.set_cons_zero, List.set_cons_succ]
    refine GoG.take (i := 8) (v := ?_) [] rfl (by kernel_rfl) (by kernel_rfl) (by kernel_rfl) (by kernel_rfl) (by kernel_rfl) (by kernel_rfl) (fun _ _ _ h => h) (yields_free (by rfl) (fun w => ?_)) ?_
    rotate_left
    · go_simp; try (with_reducible rfl)
    try simp only [Act.put, List.getElem_toArray, List.getElem_cons_succ, List.getElem_cons_zero, List.setIfInBounds_toArray, List.set_cons_zero, List.set_cons_succ]
    refine GoG.one (i := 9) rfl (by kernel_rfl) (fun K hK => ?_)
    go_simp
    refine hK.out _ _ (Keeps.up (by rfl) (Keeps.up (by rfl) (Keeps.up (by rfl) (Keeps.up (by rfl) (Keeps.up (by rfl) (Keeps.nil)))))) ?_
    clear hK K
    try simp only [Act.put, List.getElem_toArray, List.getElem_cons_succ, List.getElem_cons_zero, List.setIfInBounds_toArray, List.set_cons_zero, List.set_cons_succ]
    refine GoG.done (by kernel_rfl) ?_ _
    clear e0 e1 e2 e3 e4 hap hs3 hs3'
    go_wp2_with fail
    go_ret3
    rw [Hp.out]
    exact ⟨ao7, cap7, by (rw [show (l ++ [t], (n : Int), (0 : Int)).1.length = n + 1 from R7.out.2.2]; rfl), R7.out.1, by rw [show (l ++ [t], (n : Int), (0 : Int)).1.length = n + 1 from R7.out.2.2]; exact R7.out.2.1, B7w.out⟩
  · go_simp
    refine hK.out _ _ (Keeps.cons KK3.out.1 (Keeps.cons KK3.out.2.1 (Keeps.cons KK3.out.2.2.1 (Keeps.cons KK3.out.2.2.2.1 (Keeps.cons KK3.out.2.2.2.2 Keeps.nil))))) ?_
    clear hK K
    try simp only [Act.put, List.getElem_toArray, List.getElem_cons_succ, List.getElem_cons_zero, List.setIfInBounds_toArray, List.set_cons_zero, List.set_cons_succ]
    refine GoG.one (i := 1) rfl (by kernel_rfl) (fun K hK => ?_)
    go_simp
    refine (HCL.out _).mono ?_
    rintro e w' ⟨rfl, rfl⟩
    refine hK.out _ _ (Keeps.cons KK3.out.1 (Keeps.cons KK3.out.2.1 (Keeps.cons KK3.out.2.2.1 (Keeps.cons KK3.out.2.2.2.1 (Keeps.cons KK3.out.2.2.2.2 Keeps.nil))))) ?_
    clear hK K
    try simp only [Act.put, List.getElem_toArray, List.getElem_cons_succ, List.getElem_cons_zero, List.setIfInBounds_toArray, List.set_cons_zero, List.set_cons_succ]
    refine GoG.one (i := 4) rfl (by kernel_rfl) (fun K hK => ?_)
    rw [if_pos (by rfl)]
    refine wp_run_append _ _ _ rfl _ _ _ rfl rfl hap ?_
    refine hK.out _ _ (Keeps.cons KK7.out.1 (Keeps.cons KK7.out.2.1 (Keeps.cons KK7.out.2.2.1 (Keeps.cons KK7.out.2.2.2.1 (Keeps.cons KK7.out.2.2.2.2 Keeps.nil))))) ?_
    clear hK K
    try simp only [Act.put, List.getElem_toArray, List.getElem_cons_succ, List.getElem_cons_zero, List.setIfInBounds_toArray, List.set_cons_zero, List.set_cons_succ]
    refine GoG.take (i := 7) (v := ?_) [] rfl (by kernel_rfl) (by kernel_rfl) (by kernel_rfl) (by kernel_rfl) (by kernel_rfl) (by kernel_rfl) (fun _ _ _ h => h) (yields_free (by rfl) (fun w => ?_)) ?_
    rotate_left
    · go_simp; try (with_reducible rfl)
    try simp only [Act.put, List.getElem_toArray, List.getElem_cons_succ, List.getElem_cons_zero, List.setIfInBounds_toArray, List.set_cons_zero, List.set_cons_succ]
    refine GoG.take (i := 8) (v := ?_) [] rfl (by kernel_rfl) (by kernel_rfl) (by kernel_rfl) (by kernel_rfl) (by kernel_rfl) (by kernel_rfl) (fun _ _ _ h => h) (yields_free (by rfl) (fun w => ?_)) ?_
    rotate_left
    · go_simp; try (with_reducible rfl)
    try simp only [Act.put, List.getElem_toArray, List.getElem_cons_succ, List.getElem_cons_zero, List.setIfInBounds_toArray, List.set_cons_zero, List.set_cons_succ]
    refine GoG.one (i := 9) rfl (by kernel_rfl) (fun K hK => ?_)
    go_simp
    refine hK.out _ _ (Keeps.up (by rfl) (Keeps.up (by rfl) (Keeps.up (by rfl) (Keeps.up (by rfl) (Keeps.up (by rfl) (Keeps.nil)))))) ?_
    clear hK K
    try simp only [Act.put, List.getElem_toArray, List.getElem_cons_succ, List.getElem_cons_zero, List.setIfInBounds_toArray, List.set_cons_zero, List.set_cons_succ]
    refine GoG.done (by kernel_rfl) ?_ _
    clear e0 e1 e2 e3 e4 hap hs3 hs3'
    go_wp2_with fail
    go_ret3
    rw [Hp.out]
    exact ⟨ao7, cap7, by (rw [show (l ++ [t], (n : Int), (0 : Int)).1.length = n + 1 from R7.out.2.2]; rfl), R7.out.1, by rw [show (l ++ [t], (n : Int), (0 : Int)).1.length = n + 1 from R7.out.2.2]; exact R7.out.2.1, B7w.out⟩
end Go.Proofs.YtkmnfkhchcoamaaGreatDoor

