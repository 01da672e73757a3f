/- The reference's order, word, Cmp. -/
import Derived.Test.YtbdhmelebedpiaaGreatDoorSemLaws
namespace Go.Proofs.YtbdhmelebedpiaaGreatDoor
open Go.RowKit
set_option linter.unusedSimpArgs false
set_option linter.unusedVariables false

def wordR (a b : ByteArray) : Int := if numB a = true then (if numB b = true then cmpT a b else -1) else if numB b = true then 1 else cmpS a b
theorem ok_num {s : ByteArray} (h : okPre s = true) (hn : numB s = true) : isnumB s = true ∧ (numRes s).2 = true := by
  unfold okPre preB at h
  rw [hn] at h
  simp at h
  exact ⟨h.1.2, h.2⟩
theorem num_val {s : ByteArray} (h : isnumB s = true) (h2 : (numRes s).2 = true) : (numRes s).1 = ((valL 0 s.toList : Nat) : Int) := by
  obtain ⟨a, b⟩ := numRes_val h
  rw [h2] at a
  exact b (by cases hh : greatB s <;> rw [hh] at a <;> first | rfl | cases a)
theorem wordR_eq {a b : ByteArray} (ha : okPre a = true) (hb : okPre b = true) : wordR a b = cmpWord a b := by
  unfold wordR cmpWord
  by_cases h1 : numB a = true
  · rw [if_pos h1, if_pos h1]
    by_cases h2 : numB b = true
    · rw [if_pos h2, if_pos h2]
      obtain ⟨a1, a2⟩ := ok_num ha h1
      obtain ⟨b1, b2⟩ := ok_num hb h2
      rw [cmpT_val (lead_of a1) (lead_of b1), num_val a1 a2, num_val b1 b2]
      unfold sgn
      simp only [Int.ofNat_lt]
    · rw [if_neg h2, if_neg h2]
  · rw [if_neg h1, if_neg h1]
set_option maxHeartbeats 1000000 in
theorem order_any (a b : Int) (w : World) :
    Calls Tryz.prog 37 #[.int .i64 a, .int .i64 b] w fun e w' => e = .returned (.int .i64 (sgn a b)) ∧ w = w' := by
  rcases Int.lt_trichotomy a b with h | h | h
  · have Hn := Lib.hid (sgn_neg h)
    go_enter Tryz.func37, Tryz.ntmps37
    go_wp2_with fail
    go_ret
    exact ⟨ret_int Hn.out.symm, rfl⟩
  · have Hn := Lib.hid (sgn_zero h)
    subst h
    go_enter Tryz.func37, Tryz.ntmps37
    go_wp2_with fail
    go_ret
    exact ⟨ret_int Hn.out.symm, rfl⟩
  · have Hn := Lib.hid (sgn_pos h)
    have h2 : decide (a < b) = false := decide_eq_false (by omega)
    have h3 : ¬ a < b := by omega
    go_enter Tryz.func37, Tryz.ntmps37
    go_wp2_with fail
    go_ret
    exact ⟨ret_int Hn.out.symm, rfl⟩
set_option maxHeartbeats 4000000 in
theorem word_any (a b : ByteArray) (w : World) (ha : a.size ≤ 1000) (hb : b.size ≤ 1000) :
    Calls Tryz.prog 38 #[.string a, .string b] w fun e w' => e = .returned (.int .i64 (wordR a b)) ∧ w = w' := by
  have NA := Lib.hid (refNumeric_any a w (by omega))
  have NB := Lib.hid (refNumeric_any b w (by omega))
  have HC := Lib.hid (cmp01_any a b w (by omega) (by omega))
  unfold wordR
  cases h1 : numB a <;> rw [h1] at NA <;> clear h1
  · cases h2 : numB b <;> rw [h2] at NB <;> clear h2
    · simp only [Bool.false_eq_true, if_false]
      have tail : ∀ x y : Bool, True := fun _ _ => trivial
      clear tail
      cases h : Op.bytesLess a.toList b.toList
      · cases h2 : Op.bytesLess b.toList a.toList
        · have Hn := Lib.hid (show cmpS a b = 0 by unfold cmpS; rw [h, h2]; rfl)
          have he : (a.toList == b.toList) = true := by rw [less_tri _ _ h h2, beq_self_eq_true]
          go_enter Tryz.func38, Tryz.ntmps38
          go_wp2_with fail
          refine NA.out.mono ?_
          rintro e w' ⟨rfl, rfl⟩
          go_wp2_with fail
          refine NA.out.mono ?_
          rintro e w' ⟨rfl, rfl⟩
          go_wp2_with fail
          refine NB.out.mono ?_
          rintro e w' ⟨rfl, rfl⟩
          go_wp2_with fail
          go_ret
          exact ⟨ret_int Hn.out.symm, rfl⟩
        · have Hn := Lib.hid (show cmpS a b = 1 by unfold cmpS; rw [h, h2]; rfl)
          have he : (a.toList == b.toList) = false := by
            rw [beq_eq_false_iff_ne]
            intro e
            rw [e, less_irr] at h2
            cases h2
          go_enter Tryz.func38, Tryz.ntmps38
          go_wp2_with fail
          refine NA.out.mono ?_
          rintro e w' ⟨rfl, rfl⟩
          go_wp2_with fail
          refine NA.out.mono ?_
          rintro e w' ⟨rfl, rfl⟩
          go_wp2_with fail
          refine NB.out.mono ?_
          rintro e w' ⟨rfl, rfl⟩
          go_wp2_with fail
          go_ret
          exact ⟨ret_int Hn.out.symm, rfl⟩
      · have Hn := Lib.hid (show cmpS a b = -1 by unfold cmpS; rw [h]; rfl)
        go_enter Tryz.func38, Tryz.ntmps38
        go_wp2_with fail
        refine NA.out.mono ?_
        rintro e w' ⟨rfl, rfl⟩
        go_wp2_with fail
        refine NA.out.mono ?_
        rintro e w' ⟨rfl, rfl⟩
        go_wp2_with fail
        refine NB.out.mono ?_
        rintro e w' ⟨rfl, rfl⟩
        go_wp2_with fail
        go_ret
        exact ⟨ret_int Hn.out.symm, rfl⟩
    · simp only [Bool.false_eq_true, if_false, if_true]
      go_enter Tryz.func38, Tryz.ntmps38
      go_wp2_with fail
      refine NA.out.mono ?_
      rintro e w' ⟨rfl, rfl⟩
      go_wp2_with fail
      refine NA.out.mono ?_
      rintro e w' ⟨rfl, rfl⟩
      go_wp2_with fail
      refine NB.out.mono ?_
      rintro e w' ⟨rfl, rfl⟩
      go_wp2_with fail
      go_ret
      exact ⟨rfl, rfl⟩
  · cases h2 : numB b <;> rw [h2] at NB <;> clear h2
    · simp only [Bool.false_eq_true, if_false, if_true]
      go_enter Tryz.func38, Tryz.ntmps38
      go_wp2_with fail
      refine NA.out.mono ?_
      rintro e w' ⟨rfl, rfl⟩
      go_wp2_with fail
      refine NB.out.mono ?_
      rintro e w' ⟨rfl, rfl⟩
      go_wp2_with fail
      refine NA.out.mono ?_
      rintro e w' ⟨rfl, rfl⟩
      go_wp2_with fail
      go_ret
      exact ⟨rfl, rfl⟩
    · simp only [if_true]
      generalize cmpT a b = c at *
      go_enter Tryz.func38, Tryz.ntmps38
      go_wp2_with fail
      refine NA.out.mono ?_
      rintro e w' ⟨rfl, rfl⟩
      go_wp2_with fail
      refine NB.out.mono ?_
      rintro e w' ⟨rfl, rfl⟩
      go_wp2_with fail
      refine HC.out.mono ?_
      rintro e w' ⟨rfl, rfl⟩
      go_wp2_with fail
      go_ret
      exact ⟨rfl, rfl⟩
set_option maxHeartbeats 16000000 in
set_option maxRecDepth 100000 in
theorem refcmp_any (A B : Vr) (ao bo co do_ : Option Addr) (ac bc cc dc : Nat) (w : World) (hA : VerC w ao bo A) (hB : VerC w co do_ B) (okA : ∀ s ∈ A.pre, okPre s = true) (okB : ∀ s ∈ B.pre, okPre s = true) :
    Calls Tryz.prog 13 #[verV A ao ac bo bc, verV B co cc do_ dc] w fun e w' => e = .returned (.int .i64 (cmpV A B)) ∧ Below w.heap.size w w' := by
  obtain ⟨wa, ha⟩ : ∃ wa, w.alloc (.cells #[.int .i64 A.ma, .int .i64 A.mi, .int .i64 A.pa, .slice ao A.pre.length ac, .slice bo A.build.length bc] 24) = wa := ⟨_, rfl⟩
  obtain ⟨wb, hb⟩ : ∃ wb, wa.alloc (.cells #[.int .i64 B.ma, .int .i64 B.mi, .int .i64 B.pa, .slice co B.pre.length cc, .slice do_ B.build.length dc] 24) = wb := ⟨_, rfl⟩
  obtain ⟨k1, q1, -⟩ := box_new ha
  obtain ⟨k2, q2, -⟩ := box_new hb
  have BW := Lib.hid (q1.trans (q2.mono q1.size))
  have K5 := Lib.hid (k1.below q2)
  have K6 := Lib.hid k2
  have HA' := Lib.hid hA
  have HB' := Lib.hid hB
  have OA := Lib.hid okA
  have OB := Lib.hid okB
  have hla := hA.pl
  have hlb := hB.pl
  obtain ⟨c0, c1, c2, c3, c4⟩ := cell5 K5.out
  obtain ⟨d0, d1, d2, d3, d4⟩ := cell5 K6.out
  unfold verV at *
  clear hA hB k1 k2 q1 q2 okA okB
  go_enter Tryz.func13, Tryz.ntmps13
  go_wp2_with fail
  clear ha hb
  refine GoG.start [(16, ⟨w.heap.size, 0, none⟩, .int .i64 A.ma), (16, ⟨wa.heap.size, 0, none⟩, .int .i64 B.ma), (16, ⟨w.heap.size, 1, none⟩, .int .i64 A.mi), (16, ⟨wa.heap.size, 1, none⟩, .int .i64 B.mi), (16, ⟨w.heap.size, 2, none⟩, .int .i64 A.pa), (16, ⟨wa.heap.size, 2, none⟩, .int .i64 B.pa)] (by kernel_rfl) ?_ ?_
  · exact Keeps.cons (by first | assumption | simp [*]) (Keeps.cons (by first | assumption | simp [*]) (Keeps.cons (by first | assumption | simp [*]) (Keeps.cons (by first | assumption | simp [*]) (Keeps.cons (by first | assumption | simp [*]) (Keeps.cons (by first | assumption | simp [*]) (Keeps.nil))))))
  refine GoG.take (i := 17) (v := ?_) [] rfl (by kernel_rfl) (by kernel_rfl) (by kernel_rfl) (by kernel_rfl) (by kernel_rfl) (by kernel_rfl) (fun _ _ _ h => h) (yields_free (by rfl) (fun w => ?_)) ?_
  rotate_left
  · go_simp; try (with_reducible rfl)
  try simp only [Act.put, List.setIfInBounds_toArray, List.set_cons_zero, List.set_cons_succ]
  refine GoG.take (i := 0) (v := ?_) [] rfl (by kernel_rfl) (by kernel_rfl) (by kernel_rfl) (by kernel_rfl) (by kernel_rfl) (by kernel_rfl) (fun _ _ _ h => h) (yields_free (by rfl) (fun w => ?_)) ?_
  rotate_left
  · go_simp; try (with_reducible rfl)
  try simp only [Act.put, List.setIfInBounds_toArray, List.set_cons_zero, List.set_cons_succ]
  refine GoG.take (i := 1) (v := ?_) [4, 9, 14, 15, 16] rfl (by kernel_rfl) (by kernel_rfl) (by kernel_rfl) (by kernel_rfl) (by kernel_rfl) (by kernel_rfl) (fun _ _ _ h => h) (yields_load 16 ⟨w.heap.size, 0, none⟩ (.int .i64 A.ma) (by simp) (by decide) (by rfl) (fun w hw => ?_)) ?_
  rotate_left
  · go_simp; try (with_reducible rfl)
  try simp only [Act.put, List.setIfInBounds_toArray, List.set_cons_zero, List.set_cons_succ]
  refine GoG.take (i := 2) (v := ?_) [] rfl (by kernel_rfl) (by kernel_rfl) (by kernel_rfl) (by kernel_rfl) (by kernel_rfl) (by kernel_rfl) (fun _ _ _ h => h) (yields_free (by rfl) (fun w => ?_)) ?_
  rotate_left
  · go_simp; try (with_reducible rfl)
  try simp only [Act.put, List.setIfInBounds_toArray, List.set_cons_zero, List.set_cons_succ]
  refine GoG.take (i := 3) (v := ?_) [4, 9, 14, 15, 16] rfl (by kernel_rfl) (by kernel_rfl) (by kernel_rfl) (by kernel_rfl) (by kernel_rfl) (by kernel_rfl) (fun _ _ _ h => h) (yields_load 16 ⟨wa.heap.size, 0, none⟩ (.int .i64 B.ma) (by simp) (by decide) (by rfl) (fun w hw => ?_)) ?_
  rotate_left
  · go_simp; try (with_reducible rfl)
  try simp only [Act.put, List.setIfInBounds_toArray, List.set_cons_zero, List.set_cons_succ]
  refine GoG.take (i := 5) (v := ?_) [] rfl (by kernel_rfl) (by kernel_rfl) (by kernel_rfl) (by kernel_rfl) (by kernel_rfl) (by kernel_rfl) (fun _ _ _ h => h) (yields_free (by rfl) (fun w => ?_)) ?_
  rotate_left
  · go_simp; try (with_reducible rfl)
  try simp only [Act.put, List.setIfInBounds_toArray, List.set_cons_zero, List.set_cons_succ]
  refine GoG.take (i := 6) (v := ?_) [9, 14, 15, 16] rfl (by kernel_rfl) (by kernel_rfl) (by kernel_rfl) (by kernel_rfl) (by kernel_rfl) (by kernel_rfl) (fun _ _ _ h => h) (yields_load 16 ⟨w.heap.size, 1, none⟩ (.int .i64 A.mi) (by simp) (by decide) (by rfl) (fun w hw => ?_)) ?_
  rotate_left
  · go_simp; try (with_reducible rfl)
  try simp only [Act.put, List.setIfInBounds_toArray, List.set_cons_zero, List.set_cons_succ]
  refine GoG.take (i := 7) (v := ?_) [] rfl (by kernel_rfl) (by kernel_rfl) (by kernel_rfl) (by kernel_rfl) (by kernel_rfl) (by kernel_rfl) (fun _ _ _ h => h) (yields_free (by rfl) (fun w => ?_)) ?_
  rotate_left
  · go_simp; try (with_reducible rfl)
  try simp only [Act.put, List.setIfInBounds_toArray, List.set_cons_zero, List.set_cons_succ]
  refine GoG.take (i := 8) (v := ?_) [9, 14, 15, 16] rfl (by kernel_rfl) (by kernel_rfl) (by kernel_rfl) (by kernel_rfl) (by kernel_rfl) (by kernel_rfl) (fun _ _ _ h => h) (yields_load 16 ⟨wa.heap.size, 1, none⟩ (.int .i64 B.mi) (by simp) (by decide) (by rfl) (fun w hw => ?_)) ?_
  rotate_left
  · go_simp; try (with_reducible rfl)
  try simp only [Act.put, List.setIfInBounds_toArray, List.set_cons_zero, List.set_cons_succ]
  refine GoG.take (i := 10) (v := ?_) [] rfl (by kernel_rfl) (by kernel_rfl) (by kernel_rfl) (by kernel_rfl) (by kernel_rfl) (by kernel_rfl) (fun _ _ _ h => h) (yields_free (by rfl) (fun w => ?_)) ?_
  rotate_left
  · go_simp; try (with_reducible rfl)
  try simp only [Act.put, List.setIfInBounds_toArray, List.set_cons_zero, List.set_cons_succ]
  refine GoG.take (i := 11) (v := ?_) [14, 15, 16] rfl (by kernel_rfl) (by kernel_rfl) (by kernel_rfl) (by kernel_rfl) (by kernel_rfl) (by kernel_rfl) (fun _ _ _ h => h) (yields_load 16 ⟨w.heap.size, 2, none⟩ (.int .i64 A.pa) (by simp) (by decide) (by rfl) (fun w hw => ?_)) ?_
  rotate_left
  · go_simp; try (with_reducible rfl)
  try simp only [Act.put, List.setIfInBounds_toArray, List.set_cons_zero, List.set_cons_succ]
  refine GoG.take (i := 12) (v := ?_) [] rfl (by kernel_rfl) (by kernel_rfl) (by kernel_rfl) (by kernel_rfl) (by kernel_rfl) (by kernel_rfl) (fun _ _ _ h => h) (yields_free (by rfl) (fun w => ?_)) ?_
  rotate_left
  · go_simp; try (with_reducible rfl)
  try simp only [Act.put, List.setIfInBounds_toArray, List.set_cons_zero, List.set_cons_succ]
  refine GoG.take (i := 13) (v := ?_) [14, 15, 16] rfl (by kernel_rfl) (by kernel_rfl) (by kernel_rfl) (by kernel_rfl) (by kernel_rfl) (by kernel_rfl) (fun _ _ _ h => h) (yields_load 16 ⟨wa.heap.size, 2, none⟩ (.int .i64 B.pa) (by simp) (by decide) (by rfl) (fun w hw => ?_)) ?_
  rotate_left
  · go_simp; try (with_reducible rfl)
  try simp only [Act.put, List.setIfInBounds_toArray, List.set_cons_zero, List.set_cons_succ]
  refine GoG.one (i := 4) rfl (by kernel_rfl) (fun K hK => ?_)
  go_simp
  refine (order_any _ _ _).mono ?_
  rintro e w' ⟨rfl, rfl⟩
  refine hK.out _ _ (Keeps.cons (by first | assumption | simp [*]) (Keeps.cons (by first | assumption | simp [*]) (Keeps.cons (by first | assumption | simp [*]) (Keeps.cons (by first | assumption | simp [*]) (Keeps.cons (by first | assumption | simp [*]) (Keeps.cons (by first | assumption | simp [*]) Keeps.nil)))))) ?_
  clear hK K
  refine GoG.one (i := 9) rfl (by kernel_rfl) (fun K hK => ?_)
  go_simp
  refine (order_any _ _ _).mono ?_
  rintro e w' ⟨rfl, rfl⟩
  refine hK.out _ _ (Keeps.cons (by first | assumption | simp [*]) (Keeps.cons (by first | assumption | simp [*]) (Keeps.cons (by first | assumption | simp [*]) (Keeps.cons (by first | assumption | simp [*]) (Keeps.cons (by first | assumption | simp [*]) (Keeps.cons (by first | assumption | simp [*]) Keeps.nil)))))) ?_
  clear hK K
  refine GoG.one (i := 14) rfl (by kernel_rfl) (fun K hK => ?_)
  go_simp
  refine (order_any _ _ _).mono ?_
  rintro e w' ⟨rfl, rfl⟩
  refine hK.out _ _ (Keeps.cons (by first | assumption | simp [*]) (Keeps.cons (by first | assumption | simp [*]) (Keeps.cons (by first | assumption | simp [*]) (Keeps.cons (by first | assumption | simp [*]) (Keeps.cons (by first | assumption | simp [*]) (Keeps.cons (by first | assumption | simp [*]) Keeps.nil)))))) ?_
  clear hK K
  obtain ⟨x, hx⟩ : ∃ x, sgn A.ma B.ma = x := ⟨_, rfl⟩
  obtain ⟨y, hy⟩ : ∃ y, sgn A.mi B.mi = y := ⟨_, rfl⟩
  obtain ⟨z, hz⟩ : ∃ z, sgn A.pa B.pa = z := ⟨_, rfl⟩
  have HX := Lib.hid hx
  have HY := Lib.hid hy
  have HZ := Lib.hid hz
  rw [hx, hy, hz]
  clear hx hy hz
  obtain ⟨w3, hw3⟩ : ∃ w3, wb.drew.alloc (.cells #[.int .i64 x, .int .i64 y, .int .i64 z] 3) = w3 := ⟨_, rfl⟩
  obtain ⟨k3, q3, -⟩ := box_new hw3
  have b3 : Below wb.heap.size wb w3 := ((Below.refl _ _).drew).trans q3
  have K7 := Lib.hid (K5.out.below b3)
  have K8 := Lib.hid (K6.out.below b3)
  have B3 := Lib.hid (BW.out.trans (b3.mono BW.out.size))
  have KO := Lib.hid (show BlockAt w3 wb.heap.size _ _ from k3)
  clear k3 q3 b3
  refine GoG.one (i := 15) rfl (by kernel_rfl) (fun K hK => ?_)
  go_simp
  clear c0 c1 c2 c3 c4 d0 d1 d2 d3 d4 hw3 K5 K6 BW
  obtain ⟨c0, c1, c2, c3, c4⟩ := cell5 K7.out
  obtain ⟨d0, d1, d2, d3, d4⟩ := cell5 K8.out
  refine hK.out _ _ (Keeps.cons (by first | assumption | simp [*]) (Keeps.cons (by first | assumption | simp [*]) (Keeps.cons (by first | assumption | simp [*]) (Keeps.cons (by first | assumption | simp [*]) (Keeps.cons (by first | assumption | simp [*]) (Keeps.cons (by first | assumption | simp [*]) Keeps.nil)))))) ?_
  clear hK K
  refine GoG.one (i := 16) rfl (by kernel_rfl) (fun K hK => ?_)
  go_simp
  refine hK.out _ _ (Keeps.up (by rfl) (Keeps.up (by rfl) (Keeps.up (by rfl) (Keeps.up (by rfl) (Keeps.up (by rfl) (Keeps.up (by rfl) Keeps.nil)))))) ?_
  clear hK K
  refine GoG.done (by kernel_rfl) ?_ _
  have o0 := KO.out.cell 0
  have o1 := KO.out.cell 1
  have o2 := KO.out.cell 2
  simp at o0 o1 o2
  have HNN := Lib.hid (show cmpN A B = orI x (orI y z) by unfold cmpN; rw [HX.out, HY.out, HZ.out])
  clear HX HY HZ
  go_wp2_with fail
  go_loopw [26] (fun i wr => ∃ k : Nat, k ≤ 3 ∧ i = .int .i64 k ∧ OrUp x y z k ∧ wr = w3) (fun i _ => 3 - (intOf i).toNat)
  case atStart => exact ⟨0, by omega, rfl, ⟨by omega, by omega, by omega⟩, by first | rfl | trivial⟩
  case round =>
    obtain ⟨k, hk, rfl, Hok, rfl⟩ := hrel
    have hways : k = 0 ∨ k = 1 ∨ k = 2 ∨ k = 3 := by omega
    rcases hways with rfl | rfl | rfl | rfl
    · skip
      by_cases h : x = 0
      · subst h
        go_wp2_with fail
        go_roundw
        case rel => exact ⟨1, by omega, by go_num, ⟨fun _ => rfl, by omega, by omega⟩, by first | rfl | trivial⟩
        case measure => simp [intOf]
      · have hn : (x != 0) = true := by rw [bne_iff_ne]; exact h
        have Hres := Lib.hid (show cmpV A B = x from by
          have e : cmpN A B = x := by rw [HNN.out]; unfold orI; rw [if_neg h]
          unfold cmpV
          rw [if_neg (by rw [e]; exact h), e])
        clear h
        go_wp2_with fail
        go_ret
        exact ⟨ret_int Hres.out.symm, B3.out⟩
    · skip
      have h0 := Hok.1 (by omega)
      subst h0
      by_cases h : y = 0
      · subst h
        go_wp2_with fail
        go_roundw
        case rel => exact ⟨2, by omega, by go_num, ⟨fun _ => rfl, fun _ => rfl, by omega⟩, by first | rfl | trivial⟩
        case measure => simp [intOf]
      · have hn : (y != 0) = true := by rw [bne_iff_ne]; exact h
        have Hres := Lib.hid (show cmpV A B = y from by
          have e : cmpN A B = y := by rw [HNN.out]; unfold orI; rw [if_pos rfl, if_neg h]
          unfold cmpV
          rw [if_neg (by rw [e]; exact h), e])
        clear h
        go_wp2_with fail
        go_ret
        exact ⟨ret_int Hres.out.symm, B3.out⟩
    · skip
      have h0 := Hok.1 (by omega)
      subst h0
      have h1 := Hok.2.1 (by omega)
      subst h1
      by_cases h : z = 0
      · subst h
        go_wp2_with fail
        go_roundw
        case rel => exact ⟨3, by omega, by go_num, ⟨fun _ => rfl, fun _ => rfl, fun _ => rfl⟩, by first | rfl | trivial⟩
        case measure => simp [intOf]
      · have hn : (z != 0) = true := by rw [bne_iff_ne]; exact h
        have Hres := Lib.hid (show cmpV A B = z from by
          have e : cmpN A B = z := by rw [HNN.out]; unfold orI; rw [if_pos rfl, if_pos rfl]
          unfold cmpV
          rw [if_neg (by rw [e]; exact h), e])
        clear h
        go_wp2_with fail
        go_ret
        exact ⟨ret_int Hres.out.symm, B3.out⟩
    · have h0 := Hok.1 (by omega)
      have h1 := Hok.2.1 (by omega)
      have h2 := Hok.2.2 (by omega)
      subst h0
      subst h1
      subst h2
      have HN := Lib.hid (show cmpN A B = 0 by rw [HNN.out]; rfl)
      by_cases hl : A.pre.length = 0 ∨ B.pre.length = 0
      · have Hres := Lib.hid (show cmpV A B = 0 - sgn A.pre.length B.pre.length by
          unfold cmpV; rw [if_pos HN.out, if_pos (hl.elim (fun h => .inl (len_none h)) (fun h => .inr (len_none h))), sgn_ord.turn]; omega)
        have hsr := sgn_range (A.pre.length : Int) (B.pre.length : Int)
        have e0 : (A.pre.length : Int) = 0 ∨ ((A.pre.length : Int) ≠ 0 ∧ (B.pre.length : Int) = 0) := by omega
        clear hl
        rcases e0 with e0 | ⟨e0, e1⟩
        · have g1 : ((A.pre.length : Int) == 0) = true := by rw [beq_iff_eq]; exact e0
          clear e0
          go_wp2_with fail
          refine (order_any _ _ _).mono ?_
          rintro e w' ⟨rfl, rfl⟩
          generalize sgn (A.pre.length : Int) (B.pre.length : Int) = q at *
          go_wp2_with fail
          go_ret
          exact ⟨ret_int (by rw [Hres.out]; omega), B3.out⟩
        · have g1 : ((A.pre.length : Int) == 0) = false := by rw [beq_eq_false_iff_ne]; exact e0
          have g2 : ((B.pre.length : Int) == 0) = true := by rw [beq_iff_eq]; exact e1
          clear e0 e1
          go_wp2_with fail
          refine (order_any _ _ _).mono ?_
          rintro e w' ⟨rfl, rfl⟩
          generalize sgn (A.pre.length : Int) (B.pre.length : Int) = q at *
          go_wp2_with fail
          go_ret
          exact ⟨ret_int (by rw [Hres.out]; omega), B3.out⟩
      · have Hres := Lib.hid (show cmpV A B = cmpL A.pre B.pre by
          unfold cmpV; rw [if_pos HN.out, if_neg (fun h => hl (h.elim (fun h => .inl (by rw [h]; rfl)) (fun h => .inr (by rw [h]; rfl))))])
        have g1 : ((A.pre.length : Int) == 0) = false := by rw [beq_eq_false_iff_ne]; omega
        have g2 : ((B.pre.length : Int) == 0) = false := by rw [beq_eq_false_iff_ne]; omega
        obtain ⟨ab, aoff, rfl, hab, hac⟩ := (HA'.out.pre.below B3.out).cells (by omega)
        obtain ⟨bb, boff, rfl, hbb, hbc⟩ := (HB'.out.pre.below B3.out).cells (by omega)
        have HAB := Lib.hid hab
        have HAC := Lib.hid hac
        have HBB := Lib.hid hbb
        have HBC := Lib.hid hbc
        clear hl hab hac hbb hbc o0 o1 o2 KO
        obtain ⟨wo, rfl⟩ : ∃ wo : World, wo = wr := ⟨_, rfl⟩
        go_wp2_with fail
        clear c0 c1 c2 c3 c4 d0 d1 d2 d3 d4
        go_loopw [55] (fun i wt => ∃ k : Nat, k ≤ A.pre.length ∧ k ≤ B.pre.length ∧ i = .int .i64 k ∧ Hid (cmpL (A.pre.drop k) (B.pre.drop k) = cmpV A B) ∧ Hid (Below wo.heap.size wo wt)) (fun i _ => A.pre.length - (intOf i).toNat)
        case atStart => exact ⟨0, Nat.zero_le _, Nat.zero_le _, rfl, Lib.hid Hres.out.symm, Lib.hid (Below.refl _ _)⟩
        case round =>
          obtain ⟨k, hk, hk2, rfl, Hcm, HBt⟩ := hrel
          have B9 := Lib.hid (B3.out.trans (HBt.out.mono B3.out.size))
          obtain ⟨c0, c1, c2, c3, c4⟩ := cell5 (K7.out.below HBt.out)
          obtain ⟨d0, d1, d2, d3, d4⟩ := cell5 (K8.out.below HBt.out)
          by_cases hlt : k < A.pre.length
          · have za := HA'.out.ps _ (List.getElem_mem hlt)
            have oa := OA.out _ (List.getElem_mem hlt)
            have ca := (HBt.out.cell (p := ⟨ab, aoff + k, none⟩) HAB.out).trans (HAC.out k hlt)
            by_cases hlt2 : k < B.pre.length
            · have zb := HB'.out.ps _ (List.getElem_mem hlt2)
              have ob := OB.out _ (List.getElem_mem hlt2)
              have cb := (HBt.out.cell (p := ⟨bb, boff + k, none⟩) HBB.out).trans (HBC.out k hlt2)
              have Hnx := Lib.hid (cmpL_cons hlt hlt2)
              obtain ⟨s, hs⟩ : ∃ s, A.pre[k] = s := ⟨_, rfl⟩
              obtain ⟨t, ht⟩ : ∃ s, B.pre[k] = s := ⟨_, rfl⟩
              rw [hs] at za oa ca Hnx
              rw [ht] at zb ob cb Hnx
              clear hs ht
              have HW0 := fun w => word_any s t w za zb
              rw [wordR_eq oa ob] at HW0
              obtain ⟨c, hc⟩ : ∃ c, cmpWord s t = c := ⟨_, rfl⟩
              rw [hc] at Hnx HW0
              have HW := fun w => Lib.hid (HW0 w)
              clear hc HW0 oa ob
              have hne : ((k : Int) == (B.pre.length : Int)) = false := by rw [beq_eq_false_iff_ne]; omega
              have hne2 : (k == B.pre.length) = false := by rw [beq_eq_false_iff_ne]; omega
              go_wp2_with fail
              clear hne hne2
              have BD := Lib.hid (show Below wo.heap.size wo wr.drew from HBt.out.drew)
              refine GoG.start [(11, ⟨w.heap.size, 3, none⟩, .slice (some ⟨ab, aoff, none⟩) A.pre.length ac), (11, ⟨wa.heap.size, 3, none⟩, .slice (some ⟨bb, boff, none⟩) B.pre.length cc), (11, ⟨ab, aoff + k, none⟩, .string s), (11, ⟨bb, boff + k, none⟩, .string t)] (by kernel_rfl) ?_ ?_
              · exact Keeps.cons (by first | assumption | simp [*]) (Keeps.cons (by first | assumption | simp [*]) (Keeps.cons (by first | assumption | simp [*]) (Keeps.cons (by first | assumption | simp [*]) (Keeps.nil))))
              refine GoG.take (i := 0) (v := ?_) [] rfl (by kernel_rfl) (by kernel_rfl) (by kernel_rfl) (by kernel_rfl) (by kernel_rfl) (by kernel_rfl) (fun _ _ _ h => h) (yields_free (by rfl) (fun w => ?_)) ?_
              rotate_left
              · go_simp; try (with_reducible rfl)
              try simp only [Act.put, List.setIfInBounds_toArray, List.set_cons_zero, List.set_cons_succ]
              refine GoG.take (i := 1) (v := ?_) [3, 4, 10, 11] rfl (by kernel_rfl) (by kernel_rfl) (by kernel_rfl) (by kernel_rfl) (by kernel_rfl) (by kernel_rfl) (fun _ _ _ h => h) (yields_load 11 ⟨w.heap.size, 3, none⟩ (.slice (some ⟨ab, aoff, none⟩) A.pre.length ac) (by simp) (by decide) (by rfl) (fun w hw => ?_)) ?_
              rotate_left
              · go_simp; try (with_reducible rfl)
              try simp only [Act.put, List.setIfInBounds_toArray, List.set_cons_zero, List.set_cons_succ]
              refine GoG.take (i := 2) (v := ?_) [] rfl (by kernel_rfl) (by kernel_rfl) (by kernel_rfl) (by kernel_rfl) (by kernel_rfl) (by kernel_rfl) (fun _ _ _ h => h) (yields_free (by rfl) (fun w => ?_)) ?_
              rotate_left
              · go_simp; try (with_reducible rfl)
              try simp only [Act.put, List.setIfInBounds_toArray, List.set_cons_zero, List.set_cons_succ]
              refine GoG.take (i := 3) (v := ?_) [] rfl (by kernel_rfl) (by kernel_rfl) (by kernel_rfl) (by kernel_rfl) (by kernel_rfl) (by kernel_rfl) (fun _ _ _ h => h) (yields_free (by rfl) (fun w => ?_)) ?_
              rotate_left
              · go_simp; try (with_reducible rfl)
              try simp only [Act.put, List.setIfInBounds_toArray, List.set_cons_zero, List.set_cons_succ]
              refine GoG.take (i := 4) (v := ?_) [10, 11] rfl (by kernel_rfl) (by kernel_rfl) (by kernel_rfl) (by kernel_rfl) (by kernel_rfl) (by kernel_rfl) (fun _ _ _ h => h) (yields_load 11 ⟨ab, aoff + k, none⟩ (.string s) (by simp) (by decide) (by rfl) (fun w hw => ?_)) ?_
              rotate_left
              · go_simp; try (with_reducible rfl)
              try simp only [Act.put, List.setIfInBounds_toArray, List.set_cons_zero, List.set_cons_succ]
              refine GoG.take (i := 5) (v := ?_) [] rfl (by kernel_rfl) (by kernel_rfl) (by kernel_rfl) (by kernel_rfl) (by kernel_rfl) (by kernel_rfl) (fun _ _ _ h => h) (yields_free (by rfl) (fun w => ?_)) ?_
              rotate_left
              · go_simp; try (with_reducible rfl)
              try simp only [Act.put, List.setIfInBounds_toArray, List.set_cons_zero, List.set_cons_succ]
              refine GoG.take (i := 6) (v := ?_) [8, 9, 10, 11] rfl (by kernel_rfl) (by kernel_rfl) (by kernel_rfl) (by kernel_rfl) (by kernel_rfl) (by kernel_rfl) (fun _ _ _ h => h) (yields_load 11 ⟨wa.heap.size, 3, none⟩ (.slice (some ⟨bb, boff, none⟩) B.pre.length cc) (by simp) (by decide) (by rfl) (fun w hw => ?_)) ?_
              rotate_left
              · go_simp; try (with_reducible rfl)
              try simp only [Act.put, List.setIfInBounds_toArray, List.set_cons_zero, List.set_cons_succ]
              refine GoG.take (i := 7) (v := ?_) [] rfl (by kernel_rfl) (by kernel_rfl) (by kernel_rfl) (by kernel_rfl) (by kernel_rfl) (by kernel_rfl) (fun _ _ _ h => h) (yields_free (by rfl) (fun w => ?_)) ?_
              rotate_left
              · go_simp; try (with_reducible rfl)
              try simp only [Act.put, List.setIfInBounds_toArray, List.set_cons_zero, List.set_cons_succ]
              refine GoG.take (i := 8) (v := ?_) [] rfl (by kernel_rfl) (by kernel_rfl) (by kernel_rfl) (by kernel_rfl) (by kernel_rfl) (by kernel_rfl) (fun _ _ _ h => h) (yields_free (by rfl) (fun w => ?_)) ?_
              rotate_left
              · go_simp; try (with_reducible rfl)
              try simp only [Act.put, List.setIfInBounds_toArray, List.set_cons_zero, List.set_cons_succ]
              refine GoG.take (i := 9) (v := ?_) [10, 11] rfl (by kernel_rfl) (by kernel_rfl) (by kernel_rfl) (by kernel_rfl) (by kernel_rfl) (by kernel_rfl) (fun _ _ _ h => h) (yields_load 11 ⟨bb, boff + k, none⟩ (.string t) (by simp) (by decide) (by rfl) (fun w hw => ?_)) ?_
              rotate_left
              · go_simp; try (with_reducible rfl)
              try simp only [Act.put, List.setIfInBounds_toArray, List.set_cons_zero, List.set_cons_succ]
              refine GoG.one (i := 10) rfl (by kernel_rfl) (fun K hK => ?_)
              go_simp
              refine (HW _).out.mono ?_
              rintro e w' ⟨rfl, rfl⟩
              refine hK.out _ _ (Keeps.cons (by first | assumption | simp [*]) (Keeps.cons (by first | assumption | simp [*]) (Keeps.cons (by first | assumption | simp [*]) (Keeps.cons (by first | assumption | simp [*]) Keeps.nil)))) ?_
              clear hK K
              refine GoG.one (i := 11) rfl (by kernel_rfl) (fun K hK => ?_)
              go_simp
              refine hK.out _ _ (Keeps.up (by rfl) (Keeps.up (by rfl) (Keeps.up (by rfl) (Keeps.up (by rfl) Keeps.nil)))) ?_
              clear hK K
              refine GoG.done (by kernel_rfl) ?_ _
              by_cases h0 : c = 0
              · have Hn2 := Lib.hid (show cmpL (A.pre.drop (k + 1)) (B.pre.drop (k + 1)) = cmpV A B by have := Hnx.out; rw [if_pos h0] at this; rw [← this]; exact Hcm.out)
                subst h0
                go_wp2_with fail
                go_roundw
                case rel => first | exact ⟨k + 1, by omega, by omega, by go_num, Hn2, BD⟩ | exact ⟨_, _, _, _, ⟨k + 1, by omega, by omega, by go_num, Hn2⟩, rfl, rfl, rfl, rfl⟩
                case measure => simp [intOf]; omega
              · have Hn2 := Lib.hid (show c = cmpV A B by have := Hnx.out; rw [if_neg h0] at this; rw [← this]; exact Hcm.out)
                have hne : (c != 0) = true := by rw [bne_iff_ne]; exact h0
                clear h0
                go_wp2_with fail
                go_ret
                exact ⟨ret_int Hn2.out, B3.out.trans (BD.out.mono B3.out.size)⟩
            · have Hn2 := Lib.hid (show 1 = cmpV A B by rw [← Hcm.out]; exact (cmpL_gt hlt (by omega)).symm)
              obtain rfl : k = B.pre.length := by omega
              have hne : ((B.pre.length : Int) == (B.pre.length : Int)) = true := beq_self_eq_true _
              go_wp2_with fail
              go_ret
              exact ⟨ret_int Hn2.out, B9.out⟩
          · obtain rfl : k = A.pre.length := by omega
            have Hn2 := Lib.hid (show sgn (A.pre.length : Int) (B.pre.length : Int) = cmpV A B by
              rw [← Hcm.out]
              by_cases h : A.pre.length < B.pre.length
              · rw [cmpL_lt (Nat.le_refl _) h, sgn_neg (by omega)]
              · rw [cmpL_eq (Nat.le_refl _) (by omega), sgn_zero (by omega)])
            go_wp2_with fail
            refine (order_any _ _ _).mono ?_
            rintro e w' ⟨rfl, rfl⟩
            go_wp2_with fail
            go_ret
            exact ⟨ret_int Hn2.out, B9.out⟩
end Go.Proofs.YtbdhmelebedpiaaGreatDoor
