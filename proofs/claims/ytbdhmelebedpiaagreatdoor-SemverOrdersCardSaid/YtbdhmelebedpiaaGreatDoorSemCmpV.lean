/- Cmp. -/
import Derived.Test.YtbdhmelebedpiaaGreatDoorSemCmp
namespace Go.Proofs.YtbdhmelebedpiaaGreatDoor
open Go.RowKit
set_option linter.unusedSimpArgs false

theorem cell5 {w : World} {b : Nat} {a0 a1 a2 a3 a4 : Value} {T : TypeId} (h : BlockAt w b #[a0, a1, a2, a3, a4] T) :
    w.cell? ⟨b, 0, none⟩ = some a0 ∧ w.cell? ⟨b, 1, none⟩ = some a1 ∧ w.cell? ⟨b, 2, none⟩ = some a2 ∧ w.cell? ⟨b, 3, none⟩ = some a3 ∧ w.cell? ⟨b, 4, none⟩ = some a4 :=
  ⟨h.cell 0, h.cell 1, h.cell 2, h.cell 3, h.cell 4⟩
theorem box_new {w w1 : World} {xs : Array Value} {T : TypeId} (h : w.alloc (.cells xs T) = w1) : BlockAt w1 w.heap.size xs T ∧ Below w.heap.size w w1 ∧ w1.heap.size = w.heap.size + 1 := by
  subst h
  exact ⟨BlockAt.new _ _ _, (Below.refl _ _).alloc (Nat.le_refl _) _, by simp⟩
set_option maxHeartbeats 4000000 in
set_option maxRecDepth 100000 in
theorem cmp_bad (A B : Vr) (ao bo co do_ : Option Addr) (ac bc cc dc : Nat) (w : World) (hA : VerC w ao bo A) (hB : VerC w co do_ B) (hE : Errs w) (hbad : (rightB A && rightB B) = false) :
    Calls Tryz.prog 6 #[verV A ao ac bo bc, verV B co cc do_ dc] w fun e w' => e = .returned (.tuple #[.int .i64 0, .int .i64 1]) ∧ Below w.heap.size w w' := by
  obtain ⟨wa, ha⟩ : ∃ wa, w.alloc (.cells #[.int .i64 A.ma, .int .i64 A.mi, .int .i64 A.pa, .slice ao A.pre.length ac, .slice bo A.build.length bc] 24) = wa := ⟨_, rfl⟩
  obtain ⟨wb, hb⟩ : ∃ wb, wa.alloc (.cells #[.int .i64 B.ma, .int .i64 B.mi, .int .i64 B.pa, .slice co B.pre.length cc, .slice do_ B.build.length dc] 24) = wb := ⟨_, rfl⟩
  obtain ⟨k1, q1, -⟩ := box_new ha
  obtain ⟨k2, q2, -⟩ := box_new hb
  have BW := Lib.hid (q1.trans (q2.mono q1.size))
  have K2 := Lib.hid k2
  have HR := Lib.hid (right_any A ao bo ac bc wb (hA.below BW.out) (hE.below BW.out))
  have HB := fun w1 (h : Below wb.heap.size wb w1) => Lib.hid (right_any B co do_ cc dc w1 (hB.below (BW.out.trans (h.mono BW.out.size))) (hE.below (BW.out.trans (h.mono BW.out.size))))
  obtain ⟨c0, c1, c2, c3, c4⟩ := cell5 (k1.below q2)
  unfold verV at *
  clear hA hB hE k1 k2 q1 q2
  cases h1 : rightB A <;> rw [h1] at HR hbad <;> clear h1
  · clear hbad
    go_enter Tryz.func6, Tryz.ntmps6
    go_wp2_with fail
    refine HR.out.mono ?_
    rintro e w1 ⟨rfl, b1⟩
    have B1 := Lib.hid (BW.out.trans (b1.mono BW.out.size))
    clear b1 c0 c1 c2 c3 c4 ha hb
    go_wp2_with fail
    go_ret2
    exact ⟨rfl, B1.out⟩
  · rw [Bool.true_and] at hbad
    rw [hbad] at HB
    clear hbad
    go_enter Tryz.func6, Tryz.ntmps6
    go_wp2_with fail
    refine HR.out.mono ?_
    rintro e w1 ⟨rfl, b1⟩
    have B1 := Lib.hid (BW.out.trans (b1.mono BW.out.size))
    have HB' := HB _ b1
    have K3 := Lib.hid (K2.out.below b1)
    obtain ⟨d0, d1, d2, d3, d4⟩ := cell5 K3.out
    clear b1 HB c0 c1 c2 c3 c4 ha hb
    go_wp2_with fail
    refine HB'.out.mono ?_
    rintro e w2 ⟨rfl, b2⟩
    have B2 := Lib.hid (B1.out.trans (b2.mono B1.out.size))
    clear b2 d0 d1 d2 d3 d4
    go_wp2_with fail
    go_ret2
    exact ⟨rfl, B2.out⟩
theorem ret_tup2 {a b : Int} (h : a = b) : Ending.returned (.tuple #[.int .i64 a, .int .i64 0]) = .returned (.tuple #[.int .i64 b, .int .i64 0]) := by rw [h]
theorem len_none {l : List ByteArray} (h : l.length = 0) : l = [] := List.eq_nil_of_length_eq_zero h
set_option maxHeartbeats 16000000 in
set_option maxRecDepth 100000 in
theorem cmp_good (A B : Vr) (ao bo co do_ : Option Addr) (ac bc cc dc : Nat) (w : World) (hA : VerC w ao bo A) (hB : VerC w co do_ B) (hE : Errs w) (r1 : rightB A = true) (r2 : rightB B = true) :
    Calls Tryz.prog 6 #[verV A ao ac bo bc, verV B co cc do_ dc] w fun e w' => e = .returned (.tuple #[.int .i64 (cmpV A B), .int .i64 0]) ∧ Below w.heap.size w w' := by
  obtain ⟨wa, ha⟩ : ∃ wa, w.alloc (.cells #[.int .i64 A.ma, .int .i64 A.mi, .int .i64 A.pa, .slice ao A.pre.length ac, .slice bo A.build.length bc] 24) = wa := ⟨_, rfl⟩
  obtain ⟨wb, hb⟩ : ∃ wb, wa.alloc (.cells #[.int .i64 B.ma, .int .i64 B.mi, .int .i64 B.pa, .slice co B.pre.length cc, .slice do_ B.build.length dc] 24) = wb := ⟨_, rfl⟩
  obtain ⟨k1, q1, -⟩ := box_new ha
  obtain ⟨k2, q2, -⟩ := box_new hb
  have BW := Lib.hid (q1.trans (q2.mono q1.size))
  have K1 := Lib.hid (k1.below q2)
  have K2 := Lib.hid k2
  have HR := Lib.hid (right_any A ao bo ac bc wb (hA.below BW.out) (hE.below BW.out))
  have HB := fun w1 (h : Below wb.heap.size wb w1) => Lib.hid (right_any B co do_ cc dc w1 (hB.below (BW.out.trans (h.mono BW.out.size))) (hE.below (BW.out.trans (h.mono BW.out.size))))
  obtain ⟨c0, c1, c2, c3, c4⟩ := cell5 K1.out
  rw [r1] at HR
  rw [r2] at HB
  have HE := Lib.hid hE
  have HA' := Lib.hid hA
  have HB' := Lib.hid hB
  unfold verV at *
  clear hA hB hE k1 k2 q1 q2 r1 r2
  go_enter Tryz.func6, Tryz.ntmps6
  go_wp2_with fail
  refine HR.out.mono ?_
  rintro e w1 ⟨rfl, b1⟩
  have B1 := Lib.hid (BW.out.trans (b1.mono BW.out.size))
  have HB2 := HB _ b1
  have K3 := Lib.hid (K2.out.below b1)
  have K4 := Lib.hid (K1.out.below b1)
  obtain ⟨d0, d1, d2, d3, d4⟩ := cell5 K3.out
  clear b1 HB c0 c1 c2 c3 c4 ha hb K1 K2
  go_wp2_with fail
  refine HB2.out.mono ?_
  rintro e w2 ⟨rfl, b2⟩
  have B2 := Lib.hid (B1.out.trans (b2.mono B1.out.size))
  have K5 := Lib.hid (K4.out.below b2)
  have K6 := Lib.hid (K3.out.below b2)
  clear b2 d0 d1 d2 d3 d4 K3 K4 HR HB2 BW B1
  obtain ⟨c0, c1, c2, c3, c4⟩ := cell5 K5.out
  obtain ⟨d0, d1, d2, d3, d4⟩ := cell5 K6.out
  go_wp2_with fail
  refine GoG.start [(17, ⟨w.heap.size, 0, none⟩, .int .i64 A.ma), (17, ⟨wa.heap.size, 0, none⟩, .int .i64 B.ma), (17, ⟨w.heap.size, 1, none⟩, .int .i64 A.mi), (17, ⟨wa.heap.size, 1, none⟩, .int .i64 B.mi), (17, ⟨w.heap.size, 2, none⟩, .int .i64 A.pa), (17, ⟨wa.heap.size, 2, none⟩, .int .i64 B.pa)] (by kernel_rfl) ?_ ?_
  · exact Keeps.cons (by first | assumption | simp [*]) (Keeps.cons (by first | assumption | simp [*]) (Keeps.cons (by first | assumption | simp [*]) (Keeps.cons (by first | assumption | simp [*]) (Keeps.cons (by first | assumption | simp [*]) (Keeps.cons (by first | assumption | simp [*]) (Keeps.nil))))))
  refine GoG.take (i := 0) (v := ?_) [] rfl (by kernel_rfl) (by kernel_rfl) (by kernel_rfl) (by kernel_rfl) (by kernel_rfl) (by kernel_rfl) (fun _ _ _ h => h) (yields_free (by rfl) (fun w => ?_)) ?_
  rotate_left
  · go_simp; try (with_reducible rfl)
  try simp only [Act.put, List.setIfInBounds_toArray, List.set_cons_zero, List.set_cons_succ]
  refine GoG.take (i := 1) (v := ?_) [4, 9, 14, 15, 16, 17] rfl (by kernel_rfl) (by kernel_rfl) (by kernel_rfl) (by kernel_rfl) (by kernel_rfl) (by kernel_rfl) (fun _ _ _ h => h) (yields_load 17 ⟨w.heap.size, 0, none⟩ (.int .i64 A.ma) (by simp) (by decide) (by rfl) (fun w hw => ?_)) ?_
  rotate_left
  · go_simp; try (with_reducible rfl)
  try simp only [Act.put, List.setIfInBounds_toArray, List.set_cons_zero, List.set_cons_succ]
  refine GoG.take (i := 2) (v := ?_) [] rfl (by kernel_rfl) (by kernel_rfl) (by kernel_rfl) (by kernel_rfl) (by kernel_rfl) (by kernel_rfl) (fun _ _ _ h => h) (yields_free (by rfl) (fun w => ?_)) ?_
  rotate_left
  · go_simp; try (with_reducible rfl)
  try simp only [Act.put, List.setIfInBounds_toArray, List.set_cons_zero, List.set_cons_succ]
  refine GoG.take (i := 3) (v := ?_) [4, 9, 14, 15, 16, 17] rfl (by kernel_rfl) (by kernel_rfl) (by kernel_rfl) (by kernel_rfl) (by kernel_rfl) (by kernel_rfl) (fun _ _ _ h => h) (yields_load 17 ⟨wa.heap.size, 0, none⟩ (.int .i64 B.ma) (by simp) (by decide) (by rfl) (fun w hw => ?_)) ?_
  rotate_left
  · go_simp; try (with_reducible rfl)
  try simp only [Act.put, List.setIfInBounds_toArray, List.set_cons_zero, List.set_cons_succ]
  refine GoG.take (i := 5) (v := ?_) [] rfl (by kernel_rfl) (by kernel_rfl) (by kernel_rfl) (by kernel_rfl) (by kernel_rfl) (by kernel_rfl) (fun _ _ _ h => h) (yields_free (by rfl) (fun w => ?_)) ?_
  rotate_left
  · go_simp; try (with_reducible rfl)
  try simp only [Act.put, List.setIfInBounds_toArray, List.set_cons_zero, List.set_cons_succ]
  refine GoG.take (i := 6) (v := ?_) [9, 14, 15, 16, 17] rfl (by kernel_rfl) (by kernel_rfl) (by kernel_rfl) (by kernel_rfl) (by kernel_rfl) (by kernel_rfl) (fun _ _ _ h => h) (yields_load 17 ⟨w.heap.size, 1, none⟩ (.int .i64 A.mi) (by simp) (by decide) (by rfl) (fun w hw => ?_)) ?_
  rotate_left
  · go_simp; try (with_reducible rfl)
  try simp only [Act.put, List.setIfInBounds_toArray, List.set_cons_zero, List.set_cons_succ]
  refine GoG.take (i := 7) (v := ?_) [] rfl (by kernel_rfl) (by kernel_rfl) (by kernel_rfl) (by kernel_rfl) (by kernel_rfl) (by kernel_rfl) (fun _ _ _ h => h) (yields_free (by rfl) (fun w => ?_)) ?_
  rotate_left
  · go_simp; try (with_reducible rfl)
  try simp only [Act.put, List.setIfInBounds_toArray, List.set_cons_zero, List.set_cons_succ]
  refine GoG.take (i := 8) (v := ?_) [9, 14, 15, 16, 17] rfl (by kernel_rfl) (by kernel_rfl) (by kernel_rfl) (by kernel_rfl) (by kernel_rfl) (by kernel_rfl) (fun _ _ _ h => h) (yields_load 17 ⟨wa.heap.size, 1, none⟩ (.int .i64 B.mi) (by simp) (by decide) (by rfl) (fun w hw => ?_)) ?_
  rotate_left
  · go_simp; try (with_reducible rfl)
  try simp only [Act.put, List.setIfInBounds_toArray, List.set_cons_zero, List.set_cons_succ]
  refine GoG.take (i := 10) (v := ?_) [] rfl (by kernel_rfl) (by kernel_rfl) (by kernel_rfl) (by kernel_rfl) (by kernel_rfl) (by kernel_rfl) (fun _ _ _ h => h) (yields_free (by rfl) (fun w => ?_)) ?_
  rotate_left
  · go_simp; try (with_reducible rfl)
  try simp only [Act.put, List.setIfInBounds_toArray, List.set_cons_zero, List.set_cons_succ]
  refine GoG.take (i := 11) (v := ?_) [14, 15, 16, 17] rfl (by kernel_rfl) (by kernel_rfl) (by kernel_rfl) (by kernel_rfl) (by kernel_rfl) (by kernel_rfl) (fun _ _ _ h => h) (yields_load 17 ⟨w.heap.size, 2, none⟩ (.int .i64 A.pa) (by simp) (by decide) (by rfl) (fun w hw => ?_)) ?_
  rotate_left
  · go_simp; try (with_reducible rfl)
  try simp only [Act.put, List.setIfInBounds_toArray, List.set_cons_zero, List.set_cons_succ]
  refine GoG.take (i := 12) (v := ?_) [] rfl (by kernel_rfl) (by kernel_rfl) (by kernel_rfl) (by kernel_rfl) (by kernel_rfl) (by kernel_rfl) (fun _ _ _ h => h) (yields_free (by rfl) (fun w => ?_)) ?_
  rotate_left
  · go_simp; try (with_reducible rfl)
  try simp only [Act.put, List.setIfInBounds_toArray, List.set_cons_zero, List.set_cons_succ]
  refine GoG.take (i := 13) (v := ?_) [14, 15, 16, 17] rfl (by kernel_rfl) (by kernel_rfl) (by kernel_rfl) (by kernel_rfl) (by kernel_rfl) (by kernel_rfl) (fun _ _ _ h => h) (yields_load 17 ⟨wa.heap.size, 2, none⟩ (.int .i64 B.pa) (by simp) (by decide) (by rfl) (fun w hw => ?_)) ?_
  rotate_left
  · go_simp; try (with_reducible rfl)
  try simp only [Act.put, List.setIfInBounds_toArray, List.set_cons_zero, List.set_cons_succ]
  refine GoG.one (i := 4) rfl (by kernel_rfl) (fun K hK => ?_)
  go_simp
  refine (cmpInt_any _ _ _).mono ?_
  rintro e w' ⟨rfl, rfl⟩
  refine hK.out _ _ (Keeps.cons (by first | assumption | simp [*]) (Keeps.cons (by first | assumption | simp [*]) (Keeps.cons (by first | assumption | simp [*]) (Keeps.cons (by first | assumption | simp [*]) (Keeps.cons (by first | assumption | simp [*]) (Keeps.cons (by first | assumption | simp [*]) Keeps.nil)))))) ?_
  clear hK K
  refine GoG.one (i := 9) rfl (by kernel_rfl) (fun K hK => ?_)
  go_simp
  refine (cmpInt_any _ _ _).mono ?_
  rintro e w' ⟨rfl, rfl⟩
  refine hK.out _ _ (Keeps.cons (by first | assumption | simp [*]) (Keeps.cons (by first | assumption | simp [*]) (Keeps.cons (by first | assumption | simp [*]) (Keeps.cons (by first | assumption | simp [*]) (Keeps.cons (by first | assumption | simp [*]) (Keeps.cons (by first | assumption | simp [*]) Keeps.nil)))))) ?_
  clear hK K
  refine GoG.one (i := 14) rfl (by kernel_rfl) (fun K hK => ?_)
  go_simp
  refine (cmpInt_any _ _ _).mono ?_
  rintro e w' ⟨rfl, rfl⟩
  refine hK.out _ _ (Keeps.cons (by first | assumption | simp [*]) (Keeps.cons (by first | assumption | simp [*]) (Keeps.cons (by first | assumption | simp [*]) (Keeps.cons (by first | assumption | simp [*]) (Keeps.cons (by first | assumption | simp [*]) (Keeps.cons (by first | assumption | simp [*]) Keeps.nil)))))) ?_
  clear hK K
  obtain ⟨x, hx⟩ : ∃ x, sgn A.ma B.ma = x := ⟨_, rfl⟩
  obtain ⟨y, hy⟩ : ∃ y, sgn A.mi B.mi = y := ⟨_, rfl⟩
  obtain ⟨z, hz⟩ : ∃ z, sgn A.pa B.pa = z := ⟨_, rfl⟩
  have HX := Lib.hid hx
  have HY := Lib.hid hy
  have HZ := Lib.hid hz
  rw [hx, hy, hz]
  clear hx hy hz
  obtain ⟨w3, hw3⟩ : ∃ w3, w2.drew.alloc (.cells #[.int .i64 x, .int .i64 y, .int .i64 z] 3) = w3 := ⟨_, rfl⟩
  obtain ⟨k3, q3, -⟩ := box_new hw3
  have b3 : Below w2.heap.size w2 w3 := ((Below.refl _ _).drew).trans q3
  have HO := Lib.hid (or_any x y z w2.heap.size 3 w3 (k3.cell 0) (k3.cell 1) (k3.cell 2))
  have K7 := Lib.hid (K5.out.below b3)
  have K8 := Lib.hid (K6.out.below b3)
  have B3 := Lib.hid (B2.out.trans (b3.mono B2.out.size))
  clear k3 q3 b3
  refine GoG.one (i := 15) rfl (by kernel_rfl) (fun K hK => ?_)
  go_simp
  clear c0 c1 c2 c3 c4 d0 d1 d2 d3 d4 hw3 K5 K6 B2
  obtain ⟨c0, c1, c2, c3, c4⟩ := cell5 K7.out
  obtain ⟨d0, d1, d2, d3, d4⟩ := cell5 K8.out
  refine hK.out _ _ (Keeps.cons (by first | assumption | simp [*]) (Keeps.cons (by first | assumption | simp [*]) (Keeps.cons (by first | assumption | simp [*]) (Keeps.cons (by first | assumption | simp [*]) (Keeps.cons (by first | assumption | simp [*]) (Keeps.cons (by first | assumption | simp [*]) Keeps.nil)))))) ?_
  clear hK K
  refine GoG.one (i := 16) rfl (by kernel_rfl) (fun K hK => ?_)
  go_simp
  refine HO.out.mono ?_
  rintro e w' ⟨rfl, rfl⟩
  refine hK.out _ _ (Keeps.cons (by first | assumption | simp [*]) (Keeps.cons (by first | assumption | simp [*]) (Keeps.cons (by first | assumption | simp [*]) (Keeps.cons (by first | assumption | simp [*]) (Keeps.cons (by first | assumption | simp [*]) (Keeps.cons (by first | assumption | simp [*]) Keeps.nil)))))) ?_
  clear hK K HO
  refine GoG.one (i := 17) rfl (by kernel_rfl) (fun K hK => ?_)
  go_simp
  refine hK.out _ _ (Keeps.up (by rfl) (Keeps.up (by rfl) (Keeps.up (by rfl) (Keeps.up (by rfl) (Keeps.up (by rfl) (Keeps.up (by rfl) Keeps.nil)))))) ?_
  clear hK K
  refine GoG.done (by kernel_rfl) ?_ _
  obtain ⟨N, hN⟩ : ∃ N, orI x (orI y z) = N := ⟨_, rfl⟩
  have HN := Lib.hid (show cmpN A B = N by unfold cmpN; rw [HX.out, HY.out, HZ.out, hN])
  rw [hN]
  clear hN HX HY HZ K7 K8
  by_cases h0 : N = 0
  · subst h0
    by_cases hl : A.pre.length = 0 ∨ B.pre.length = 0
    · have Hres := Lib.hid (show cmpV A B = sgn B.pre.length A.pre.length by
        unfold cmpV; rw [if_pos HN.out, if_pos (hl.elim (fun h => .inl (len_none h)) (fun h => .inr (len_none h)))])
      by_cases h1 : A.pre.length = 0
      · have e1 : ((A.pre.length : Int) == 0) = true := by rw [beq_iff_eq]; omega
        clear h1 hl
        go_wp2_with fail
        refine (cmpInt_any _ _ _).mono ?_
        rintro e w' ⟨rfl, rfl⟩
        go_wp2_with fail
        go_ret2
        exact ⟨ret_tup2 Hres.out.symm, B3.out⟩
      · have e1 : ((A.pre.length : Int) == 0) = false := by rw [beq_eq_false_iff_ne]; omega
        have e2 : ((B.pre.length : Int) == 0) = true := by rw [beq_iff_eq]; omega
        clear h1 hl
        go_wp2_with fail
        refine (cmpInt_any _ _ _).mono ?_
        rintro e w' ⟨rfl, rfl⟩
        go_wp2_with fail
        go_ret2
        exact ⟨ret_tup2 Hres.out.symm, B3.out⟩
    · have Hres := Lib.hid (show cmpV A B = cmpL A.pre B.pre by
        unfold cmpV; rw [if_pos HN.out, if_neg (fun h => hl (h.elim (fun h => .inl (by rw [h]; rfl)) (fun h => .inr (by rw [h]; rfl))))])
      have e1 : ((A.pre.length : Int) == 0) = false := by rw [beq_eq_false_iff_ne]; omega
      have e2 : ((B.pre.length : Int) == 0) = false := by rw [beq_eq_false_iff_ne]; omega
      have HC := Lib.hid (compareFunc_any ao co ac cc A.pre B.pre w3 (HA'.out.pre.below B3.out) (HB'.out.pre.below B3.out) HA'.out.ps HB'.out.ps HA'.out.pl HB'.out.pl (HE.out.below B3.out))
      clear hl
      go_wp2_with fail
      refine HC.out.mono ?_
      rintro e w4 ⟨rfl, b4⟩
      have B4 := Lib.hid (B3.out.trans (b4.mono B3.out.size))
      clear b4
      go_wp2_with fail
      go_ret2
      exact ⟨ret_tup2 Hres.out.symm, B4.out⟩
  · have hne : (N != 0) = true := by rw [bne_iff_ne]; exact h0
    have Hres := Lib.hid (show cmpV A B = N by unfold cmpV; rw [if_neg (by rw [HN.out]; exact h0), HN.out])
    clear h0
    go_wp2_with fail
    go_ret2
    exact ⟨ret_tup2 Hres.out.symm, B3.out⟩
end Go.Proofs.YtbdhmelebedpiaaGreatDoor
