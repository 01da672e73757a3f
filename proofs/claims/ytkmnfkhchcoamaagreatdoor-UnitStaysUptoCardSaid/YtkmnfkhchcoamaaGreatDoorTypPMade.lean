import Derived.Test.YtkmnfkhchcoamaaGreatDoorTypPI
/- The program's made. -/
namespace Go.Proofs.YtkmnfkhchcoamaaGreatDoor
open Go.RowKit
set_option linter.unusedSimpArgs false
set_option linter.unusedVariables false

section
variable {l : List Ty} {a n : Int} {s : ByteArray} {ws : List ByteArray} {ks : List Int}
theorem made_nobare (h : bareB ⟨a, s, n, ws, ks⟩ = false) (ha : a = 1 ∨ a = 2 ∨ a = 3 ∨ a = 4 ∨ a = 5 ∨ a = 9) : madeB l ⟨a, s, n, ws, ks⟩ = false := by
  rcases ha with rfl | rfl | rfl | rfl | rfl | rfl <;> simp [madeB, h]
theorem bare_spec (h : bareB ⟨a, s, n, ws, ks⟩ = true) : s.size = 0 ∧ ws = [] := of_decide_eq_true h
theorem made6_eq (hk : kidsB l ks = true) : madeB l ⟨6, s, n, ws, ks⟩ = (decide (s.size = 0 ∧ n = 0 ∧ ks.length ≤ 16 ∧ ws.length = ks.length) && fieldsB ws) := by simp [madeB, hk]
theorem made7_eq (hk : kidsB l ks = true) : madeB l ⟨7, s, n, ws, ks⟩ = (decide (s.size = 0 ∧ 0 ≤ n ∧ n ≤ 3 ∧ ks.length ≤ 16 ∧ ws.length = ks.length) && elemsB l n ws ks) := by simp [madeB, hk]
end
set_option maxHeartbeats 64000000 in
set_option maxRecDepth 100000 in
theorem pmade_any (l : List Ty) (ao : Option Addr) (ac : Nat) (t : Ty) (wo ko : Option Addr) (wc kc : Nat) (w : World) (hl : ARow w ao l) (ht : TyC w wo ko t) (ll : l.length ≤ 1000) (hwc : t.words.length ≤ wc) (hmx : MaxAt w) :
    Calls Tryz.prog 56 #[.slice ao l.length ac, tyV t wo wc ko kc] w fun e w' => e = .returned (.bool (madeB l t)) ∧ Below w.heap.size w w' := by
  obtain ⟨a, s, n, ws, ks⟩ := t
  obtain ⟨r, hr⟩ : ∃ r, madeB l ⟨a, s, n, ws, ks⟩ = r := ⟨_, rfl⟩
  rw [hr]
  have HR := Lib.hid hr
  unfold tyV
  show Calls _ _ #[.slice ao l.length ac, .agg #[.int .i64 a, .string s, .int .i64 n, .slice wo ws.length wc, .slice ko ks.length kc]] _ _
  have l1 : ws.length ≤ 18 := ht.ok.wl
  have l2 : ks.length ≤ 18 := ht.ok.kl
  have l3 : s.size ≤ 50 := ht.ok.nl
  have HWC := Lib.hid (show ws.length ≤ wc from hwc)
  obtain ⟨w1, h1⟩ : ∃ w1, w.alloc (.cells #[.int .i64 a, .string s, .int .i64 n, .slice wo ws.length wc, .slice ko ks.length kc] 38) = w1 := ⟨_, rfl⟩
  obtain ⟨k1, q1, z1⟩ := box_new h1
  have BW := Lib.hid q1
  have K1 := Lib.hid k1
  have HBA := bare_any ⟨a, s, n, ws, ks⟩ wo ko wc kc w1 l1
  have HST := structure_any ⟨a, s, n, ws, ks⟩ wo ko wc kc w1 (ht.below q1) hwc
  have HIF := Lib.hid (fun hin => iface_any l ao ac ⟨a, s, n, ws, ks⟩ wo ko wc kc w1 (hl.below q1) (ht.below q1) ll hin)
  have HTN := Lib.hid (twoNames_any s w1 (by omega) (hmx.below q1))
  unfold tyV at HBA HST HIF
  have HBA : Calls Tryz.prog 79 #[.agg #[.int .i64 a, .string s, .int .i64 n, .slice wo ws.length wc, .slice ko ks.length kc]] w1 fun e w' => e = .returned (.bool (bareB ⟨a, s, n, ws, ks⟩)) ∧ Below w1.heap.size w1 w' := HBA
  have HST : Calls Tryz.prog 80 #[.agg #[.int .i64 a, .string s, .int .i64 n, .slice wo ws.length wc, .slice ko ks.length kc]] w1 fun e w' => e = .returned (.bool (decide (s.size = 0 ∧ n = 0 ∧ ks.length ≤ 16 ∧ ws.length = ks.length) && fieldsB ws)) ∧ Below w1.heap.size w1 w' := HST
  have HIF := Lib.hid (show (∀ k ∈ ks, 0 ≤ k ∧ k < (l.length : Int)) → Calls Tryz.prog 81 #[.slice ao l.length ac, .agg #[.int .i64 a, .string s, .int .i64 n, .slice wo ws.length wc, .slice ko ks.length kc]] w1 fun e w' => e = .returned (.bool (decide (s.size = 0 ∧ 0 ≤ n ∧ n ≤ 3 ∧ ks.length ≤ 16 ∧ ws.length = ks.length) && elemsB l n ws ks)) ∧ Below w1.heap.size w1 w' from HIF.out)
  obtain ⟨p, hp⟩ : ∃ p, ws.length = p := ⟨_, rfl⟩
  obtain ⟨q, hq⟩ : ∃ q, ks.length = q := ⟨_, rfl⟩
  obtain ⟨L, hL⟩ : ∃ L, l.length = L := ⟨_, rfl⟩
  have HP := Lib.hid hp
  have HQ := Lib.hid hq
  have HL := Lib.hid hL
  have HT := Lib.hid ht
  have HA := Lib.hid hl
  rw [hp] at l1 h1 HBA HST HIF K1 ⊢
  rw [hq] at l2 h1 HBA HST HIF K1 ⊢
  rw [hL] at ll HIF ⊢
  have HBA := Lib.hid HBA
  have HST := Lib.hid HST
  clear hr hp hq hL ht hl hwc k1 q1 z1 hmx
  obtain ⟨x0, x1, x2, x3, x4⟩ := cell5 K1.out
  go_enter Tryz.func56, Tryz.ntmps56
  go_wp2_with fail
  clear h1 x0 x1 x2 x3 x4
  go_loopw [10] (fun i wr => ∃ k : Nat, k ≤ q ∧ i = .int .i64 k ∧ Hid (∀ j, j < k → (0 ≤ ks.getD j 0 ∧ ks.getD j 0 < (l.length : Int))) ∧ wr = w1) (fun i _ => q - (intOf i).toNat)
  case atStart => exact ⟨0, Nat.zero_le _, rfl, Lib.hid (fun j hj => absurd hj (Nat.not_lt_zero _)), by first | rfl | trivial⟩
  case round =>
    obtain ⟨k, hk, rfl, Hall, rfl⟩ := hrel
    by_cases hkl : k < q
    · obtain ⟨kb, kof, rfl, hkb, hkc⟩ := (HT.out.below BW.out).kids.cells (by show 0 < ks.length; rw [HQ.out]; omega)
      have ck : wr.cell? ⟨kb, kof + k, none⟩ = some (.int .i64 (ks.getD k 0)) := hkc k (by show k < ks.length; rw [HQ.out]; exact hkl)
      obtain ⟨z, hz⟩ : ∃ z, ks.getD k 0 = z := ⟨_, rfl⟩
      have HZ := Lib.hid hz
      rw [hz] at ck
      clear hz hkb hkc
      by_cases d1 : z < 0
      · have Hn := Lib.hid (show false = r by rw [← HR.out]; exact (made_kids (kidsB_no (k := k) (by rw [HQ.out]; exact hkl) (by rw [HZ.out]; omega))).symm)
        go_wp2_with fail
        go_ret
        exact ⟨ret_bool Hn.out, BW.out⟩
      by_cases d2 : (L : Int) ≤ z
      · have Hn := Lib.hid (show false = r by rw [← HR.out]; exact (made_kids (kidsB_no (k := k) (by rw [HQ.out]; exact hkl) (by rw [HZ.out, HL.out]; omega))).symm)
        go_wp2_with fail
        go_ret
        exact ⟨ret_bool Hn.out, BW.out⟩
      · have Hx := Lib.hid (show ∀ j, j < k + 1 → (0 ≤ ks.getD j 0 ∧ ks.getD j 0 < (l.length : Int)) from fun j hj => by
          rcases Nat.lt_or_eq_of_le (Nat.le_of_lt_succ hj) with h1 | h1
          · exact Hall.out j h1
          · rw [h1, HZ.out, HL.out]; omega)
        go_wp2_with fail
        go_roundw
        case rel => exact ⟨k + 1, by omega, by go_num, Hx, by first | rfl | trivial⟩
        case measure => simp [intOf]; omega
    · obtain rfl : k = q := by omega
      have HK := Lib.hid (kidsB_yes (l := l) (fun j hj => Hall.out j (by rw [HQ.out] at hj; exact hj)))
      have HK1 := K1.out
      obtain ⟨x0, x1, x2, x3, x4⟩ := cell5 HK1
      clear HK1
      by_cases a1 : a = 1
      · subst a1
        have HBA := Lib.hid HBA.out
        cases hba : bareB ⟨1, s, n, ws, ks⟩ <;> rw [hba] at HBA <;> have BA := Lib.hid hba <;> clear hba
        · have Hn := Lib.hid (show false = r by rw [← HR.out]; exact (made_nobare BA.out (by decide)).symm)
          go_wp2_with fail
          refine HBA.out.mono ?_
          rintro e w2 ⟨rfl, b2⟩
          have B2 := Lib.hid (BW.out.trans (b2.mono BW.out.size))
          clear x0 x1 x2 x3 x4
          obtain ⟨x0, x1, x2, x3, x4⟩ := cell5 (K1.out.below b2)
          clear b2
          go_wp2_with fail
          go_ret
          exact ⟨ret_bool Hn.out, B2.out⟩
        have HM := Lib.hid (made1 (n := n) HK.out (bare_spec BA.out).1 (bare_spec BA.out).2)
        rw [HQ.out] at HM
        by_cases d1 : k = 1
        case neg =>
          have Hn := Lib.hid (show false = r by rw [← HR.out, HM.out, decide_eq_false (by omega)])
          have f1 : ((k : Int) == 1) = false := by rw [beq_eq_false_iff_ne]; omega
          go_wp2_with fail
          refine HBA.out.mono ?_
          rintro e w2 ⟨rfl, b2⟩
          have B2 := Lib.hid (BW.out.trans (b2.mono BW.out.size))
          clear x0 x1 x2 x3 x4
          obtain ⟨x0, x1, x2, x3, x4⟩ := cell5 (K1.out.below b2)
          clear b2
          go_wp2_with fail
          go_ret
          exact ⟨ret_bool Hn.out, B2.out⟩
        subst d1
        by_cases d2 : n = 0
        case neg =>
          have Hn := Lib.hid (show false = r by rw [← HR.out, HM.out, decide_eq_false (by omega)])
          have f2 : (n == 0) = false := by rw [beq_eq_false_iff_ne]; exact d2
          go_wp2_with fail
          refine HBA.out.mono ?_
          rintro e w2 ⟨rfl, b2⟩
          have B2 := Lib.hid (BW.out.trans (b2.mono BW.out.size))
          clear x0 x1 x2 x3 x4
          obtain ⟨x0, x1, x2, x3, x4⟩ := cell5 (K1.out.below b2)
          clear b2
          go_wp2_with fail
          go_ret
          exact ⟨ret_bool Hn.out, B2.out⟩
        subst d2
        have Hn := Lib.hid (show true = r by rw [← HR.out, HM.out, decide_eq_true (by omega)])
        go_wp2_with fail
        refine HBA.out.mono ?_
        rintro e w2 ⟨rfl, b2⟩
        have B2 := Lib.hid (BW.out.trans (b2.mono BW.out.size))
        clear x0 x1 x2 x3 x4
        obtain ⟨x0, x1, x2, x3, x4⟩ := cell5 (K1.out.below b2)
        clear b2
        go_wp2_with fail
        go_ret
        exact ⟨ret_bool Hn.out, B2.out⟩
      by_cases a2 : a = 2
      · subst a2
        have HBA := Lib.hid HBA.out
        cases hba : bareB ⟨2, s, n, ws, ks⟩ <;> rw [hba] at HBA <;> have BA := Lib.hid hba <;> clear hba
        · have Hn := Lib.hid (show false = r by rw [← HR.out]; exact (made_nobare BA.out (by decide)).symm)
          go_wp2_with fail
          refine HBA.out.mono ?_
          rintro e w2 ⟨rfl, b2⟩
          have B2 := Lib.hid (BW.out.trans (b2.mono BW.out.size))
          clear x0 x1 x2 x3 x4
          obtain ⟨x0, x1, x2, x3, x4⟩ := cell5 (K1.out.below b2)
          clear b2
          go_wp2_with fail
          go_ret
          exact ⟨ret_bool Hn.out, B2.out⟩
        have HM := Lib.hid (made2 (n := n) HK.out (bare_spec BA.out).1 (bare_spec BA.out).2)
        rw [HQ.out] at HM
        by_cases d1 : k = 1
        case neg =>
          have Hn := Lib.hid (show false = r by rw [← HR.out, HM.out, decide_eq_false (by omega)])
          have f1 : ((k : Int) == 1) = false := by rw [beq_eq_false_iff_ne]; omega
          go_wp2_with fail
          refine HBA.out.mono ?_
          rintro e w2 ⟨rfl, b2⟩
          have B2 := Lib.hid (BW.out.trans (b2.mono BW.out.size))
          clear x0 x1 x2 x3 x4
          obtain ⟨x0, x1, x2, x3, x4⟩ := cell5 (K1.out.below b2)
          clear b2
          go_wp2_with fail
          go_ret
          exact ⟨ret_bool Hn.out, B2.out⟩
        subst d1
        by_cases d2 : n = 0
        case neg =>
          have Hn := Lib.hid (show false = r by rw [← HR.out, HM.out, decide_eq_false (by omega)])
          have f2 : (n == 0) = false := by rw [beq_eq_false_iff_ne]; exact d2
          go_wp2_with fail
          refine HBA.out.mono ?_
          rintro e w2 ⟨rfl, b2⟩
          have B2 := Lib.hid (BW.out.trans (b2.mono BW.out.size))
          clear x0 x1 x2 x3 x4
          obtain ⟨x0, x1, x2, x3, x4⟩ := cell5 (K1.out.below b2)
          clear b2
          go_wp2_with fail
          go_ret
          exact ⟨ret_bool Hn.out, B2.out⟩
        subst d2
        have Hn := Lib.hid (show true = r by rw [← HR.out, HM.out, decide_eq_true (by omega)])
        go_wp2_with fail
        refine HBA.out.mono ?_
        rintro e w2 ⟨rfl, b2⟩
        have B2 := Lib.hid (BW.out.trans (b2.mono BW.out.size))
        clear x0 x1 x2 x3 x4
        obtain ⟨x0, x1, x2, x3, x4⟩ := cell5 (K1.out.below b2)
        clear b2
        go_wp2_with fail
        go_ret
        exact ⟨ret_bool Hn.out, B2.out⟩
      by_cases a3 : a = 3
      · subst a3
        have HBA := Lib.hid HBA.out
        cases hba : bareB ⟨3, s, n, ws, ks⟩ <;> rw [hba] at HBA <;> have BA := Lib.hid hba <;> clear hba
        · have Hn := Lib.hid (show false = r by rw [← HR.out]; exact (made_nobare BA.out (by decide)).symm)
          go_wp2_with fail
          refine HBA.out.mono ?_
          rintro e w2 ⟨rfl, b2⟩
          have B2 := Lib.hid (BW.out.trans (b2.mono BW.out.size))
          clear x0 x1 x2 x3 x4
          obtain ⟨x0, x1, x2, x3, x4⟩ := cell5 (K1.out.below b2)
          clear b2
          go_wp2_with fail
          go_ret
          exact ⟨ret_bool Hn.out, B2.out⟩
        have HM := Lib.hid (made3 (n := n) HK.out (bare_spec BA.out).1 (bare_spec BA.out).2)
        rw [HQ.out] at HM
        by_cases d1 : k = 1
        case neg =>
          have Hn := Lib.hid (show false = r by rw [← HR.out, HM.out, decide_eq_false (by omega)])
          have f1 : ((k : Int) == 1) = false := by rw [beq_eq_false_iff_ne]; omega
          go_wp2_with fail
          refine HBA.out.mono ?_
          rintro e w2 ⟨rfl, b2⟩
          have B2 := Lib.hid (BW.out.trans (b2.mono BW.out.size))
          clear x0 x1 x2 x3 x4
          obtain ⟨x0, x1, x2, x3, x4⟩ := cell5 (K1.out.below b2)
          clear b2
          go_wp2_with fail
          go_ret
          exact ⟨ret_bool Hn.out, B2.out⟩
        subst d1
        by_cases d2 : 0 ≤ n
        case neg =>
          have Hn := Lib.hid (show false = r by rw [← HR.out, HM.out, decide_eq_false (by omega)])
          go_wp2_with fail
          refine HBA.out.mono ?_
          rintro e w2 ⟨rfl, b2⟩
          have B2 := Lib.hid (BW.out.trans (b2.mono BW.out.size))
          clear x0 x1 x2 x3 x4
          obtain ⟨x0, x1, x2, x3, x4⟩ := cell5 (K1.out.below b2)
          clear b2
          go_wp2_with fail
          go_ret
          exact ⟨ret_bool Hn.out, B2.out⟩
        by_cases d3 : n ≤ 2147483648
        case neg =>
          have Hn := Lib.hid (show false = r by rw [← HR.out, HM.out, decide_eq_false (by omega)])
          have f3 : decide (n ≤ 2147483648) = false := decide_eq_false d3
          go_wp2_with fail
          refine HBA.out.mono ?_
          rintro e w2 ⟨rfl, b2⟩
          have B2 := Lib.hid (BW.out.trans (b2.mono BW.out.size))
          clear x0 x1 x2 x3 x4
          obtain ⟨x0, x1, x2, x3, x4⟩ := cell5 (K1.out.below b2)
          clear b2
          go_wp2_with fail
          go_ret
          exact ⟨ret_bool Hn.out, B2.out⟩
        have Hn := Lib.hid (show true = r by rw [← HR.out, HM.out, decide_eq_true (by omega)])
        go_wp2_with fail
        refine HBA.out.mono ?_
        rintro e w2 ⟨rfl, b2⟩
        have B2 := Lib.hid (BW.out.trans (b2.mono BW.out.size))
        clear x0 x1 x2 x3 x4
        obtain ⟨x0, x1, x2, x3, x4⟩ := cell5 (K1.out.below b2)
        clear b2
        go_wp2_with fail
        go_ret
        exact ⟨ret_bool Hn.out, B2.out⟩
      by_cases a4 : a = 4
      · subst a4
        have HBA := Lib.hid HBA.out
        cases hba : bareB ⟨4, s, n, ws, ks⟩ <;> rw [hba] at HBA <;> have BA := Lib.hid hba <;> clear hba
        · have Hn := Lib.hid (show false = r by rw [← HR.out]; exact (made_nobare BA.out (by decide)).symm)
          go_wp2_with fail
          refine HBA.out.mono ?_
          rintro e w2 ⟨rfl, b2⟩
          have B2 := Lib.hid (BW.out.trans (b2.mono BW.out.size))
          clear x0 x1 x2 x3 x4
          obtain ⟨x0, x1, x2, x3, x4⟩ := cell5 (K1.out.below b2)
          clear b2
          go_wp2_with fail
          go_ret
          exact ⟨ret_bool Hn.out, B2.out⟩
        have HM := Lib.hid (made4 (n := n) HK.out (bare_spec BA.out).1 (bare_spec BA.out).2)
        rw [HQ.out] at HM
        by_cases d1 : k = 2
        case neg =>
          have Hn := Lib.hid (show false = r by rw [← HR.out, HM.out, decide_eq_false (by omega)])
          have f1 : ((k : Int) == 2) = false := by rw [beq_eq_false_iff_ne]; omega
          go_wp2_with fail
          refine HBA.out.mono ?_
          rintro e w2 ⟨rfl, b2⟩
          have B2 := Lib.hid (BW.out.trans (b2.mono BW.out.size))
          clear x0 x1 x2 x3 x4
          obtain ⟨x0, x1, x2, x3, x4⟩ := cell5 (K1.out.below b2)
          clear b2
          go_wp2_with fail
          go_ret
          exact ⟨ret_bool Hn.out, B2.out⟩
        subst d1
        by_cases d2 : n = 0
        case neg =>
          have Hn := Lib.hid (show false = r by rw [← HR.out, HM.out, decide_eq_false (by omega)])
          have f2 : (n == 0) = false := by rw [beq_eq_false_iff_ne]; exact d2
          go_wp2_with fail
          refine HBA.out.mono ?_
          rintro e w2 ⟨rfl, b2⟩
          have B2 := Lib.hid (BW.out.trans (b2.mono BW.out.size))
          clear x0 x1 x2 x3 x4
          obtain ⟨x0, x1, x2, x3, x4⟩ := cell5 (K1.out.below b2)
          clear b2
          go_wp2_with fail
          go_ret
          exact ⟨ret_bool Hn.out, B2.out⟩
        subst d2
        have Hn := Lib.hid (show true = r by rw [← HR.out, HM.out, decide_eq_true (by omega)])
        go_wp2_with fail
        refine HBA.out.mono ?_
        rintro e w2 ⟨rfl, b2⟩
        have B2 := Lib.hid (BW.out.trans (b2.mono BW.out.size))
        clear x0 x1 x2 x3 x4
        obtain ⟨x0, x1, x2, x3, x4⟩ := cell5 (K1.out.below b2)
        clear b2
        go_wp2_with fail
        go_ret
        exact ⟨ret_bool Hn.out, B2.out⟩
      by_cases a5 : a = 5
      · subst a5
        have HBA := Lib.hid HBA.out
        cases hba : bareB ⟨5, s, n, ws, ks⟩ <;> rw [hba] at HBA <;> have BA := Lib.hid hba <;> clear hba
        · have Hn := Lib.hid (show false = r by rw [← HR.out]; exact (made_nobare BA.out (by decide)).symm)
          go_wp2_with fail
          refine HBA.out.mono ?_
          rintro e w2 ⟨rfl, b2⟩
          have B2 := Lib.hid (BW.out.trans (b2.mono BW.out.size))
          clear x0 x1 x2 x3 x4
          obtain ⟨x0, x1, x2, x3, x4⟩ := cell5 (K1.out.below b2)
          clear b2
          go_wp2_with fail
          go_ret
          exact ⟨ret_bool Hn.out, B2.out⟩
        have HM := Lib.hid (made5 (n := n) HK.out (bare_spec BA.out).1 (bare_spec BA.out).2)
        rw [HQ.out] at HM
        by_cases d1 : k ≤ 16
        case neg =>
          have Hn := Lib.hid (show false = r by rw [← HR.out, HM.out, decide_eq_false (by omega)])
          have f1 : decide (k ≤ 16) = false := decide_eq_false d1
          have f1i : decide ((k : Int) ≤ 16) = false := decide_eq_false (by omega)
          go_wp2_with fail
          refine HBA.out.mono ?_
          rintro e w2 ⟨rfl, b2⟩
          have B2 := Lib.hid (BW.out.trans (b2.mono BW.out.size))
          clear x0 x1 x2 x3 x4
          obtain ⟨x0, x1, x2, x3, x4⟩ := cell5 (K1.out.below b2)
          clear b2
          go_wp2_with fail
          go_ret
          exact ⟨ret_bool Hn.out, B2.out⟩
        by_cases d2 : n = 0
        · have Hn := Lib.hid (show true = r by rw [← HR.out, HM.out, decide_eq_true (by omega)])
          have f1 : decide (k ≤ 16) = true := decide_eq_true d1
          subst d2
          go_wp2_with fail
          refine HBA.out.mono ?_
          rintro e w2 ⟨rfl, b2⟩
          have B2 := Lib.hid (BW.out.trans (b2.mono BW.out.size))
          clear x0 x1 x2 x3 x4
          obtain ⟨x0, x1, x2, x3, x4⟩ := cell5 (K1.out.below b2)
          clear b2
          go_wp2_with fail
          go_ret
          exact ⟨ret_bool Hn.out, B2.out⟩
        have f2 : (n == 0) = false := by rw [beq_eq_false_iff_ne]; exact d2
        by_cases d3 : n = 1
        case neg =>
          have Hn := Lib.hid (show false = r by rw [← HR.out, HM.out, decide_eq_false (by omega)])
          have f3 : (n == 1) = false := by rw [beq_eq_false_iff_ne]; exact d3
          go_wp2_with fail
          refine HBA.out.mono ?_
          rintro e w2 ⟨rfl, b2⟩
          have B2 := Lib.hid (BW.out.trans (b2.mono BW.out.size))
          clear x0 x1 x2 x3 x4
          obtain ⟨x0, x1, x2, x3, x4⟩ := cell5 (K1.out.below b2)
          clear b2
          go_wp2_with fail
          go_ret
          exact ⟨ret_bool Hn.out, B2.out⟩
        by_cases d4 : 0 < k
        · have Hn := Lib.hid (show true = r by rw [← HR.out, HM.out, decide_eq_true (by omega)])
          have f4 : decide (0 < k) = true := decide_eq_true d4
          have f4i : decide ((0 : Int) < (k : Int)) = true := decide_eq_true (by omega)
          subst d3
          go_wp2_with fail
          refine HBA.out.mono ?_
          rintro e w2 ⟨rfl, b2⟩
          have B2 := Lib.hid (BW.out.trans (b2.mono BW.out.size))
          clear x0 x1 x2 x3 x4
          obtain ⟨x0, x1, x2, x3, x4⟩ := cell5 (K1.out.below b2)
          clear b2
          go_wp2_with fail
          go_ret
          exact ⟨ret_bool Hn.out, B2.out⟩
        · have Hn := Lib.hid (show false = r by rw [← HR.out, HM.out, decide_eq_false (by omega)])
          have f4 : decide (0 < k) = false := decide_eq_false d4
          have f4i : decide ((0 : Int) < (k : Int)) = false := decide_eq_false (by omega)
          subst d3
          go_wp2_with fail
          refine HBA.out.mono ?_
          rintro e w2 ⟨rfl, b2⟩
          have B2 := Lib.hid (BW.out.trans (b2.mono BW.out.size))
          clear x0 x1 x2 x3 x4
          obtain ⟨x0, x1, x2, x3, x4⟩ := cell5 (K1.out.below b2)
          clear b2
          go_wp2_with fail
          go_ret
          exact ⟨ret_bool Hn.out, B2.out⟩
      by_cases a6 : a = 6
      · subst a6
        have HM := Lib.hid (made6_eq (s := s) (n := n) (ws := ws) HK.out)
        rw [HQ.out, HP.out] at HM
        have HC := Lib.hid (HST.out)
        rw [← HM.out, HR.out] at HC
        go_wp2_with fail
        refine HC.out.mono ?_
        rintro e w2 ⟨rfl, b2⟩
        have B2 := Lib.hid (BW.out.trans (b2.mono BW.out.size))
        clear b2 x0 x1 x2 x3 x4
        go_wp2_with fail
        go_ret
        exact ⟨rfl, B2.out⟩
      by_cases a7 : a = 7
      · subst a7
        have HM := Lib.hid (made7_eq (s := s) (n := n) (ws := ws) HK.out)
        rw [HQ.out, HP.out] at HM
        have HC := Lib.hid (HIF.out (fun k hk => by rw [← HL.out]; exact kidsB_in HK.out k hk))
        rw [← HM.out, HR.out] at HC
        go_wp2_with fail
        refine HC.out.mono ?_
        rintro e w2 ⟨rfl, b2⟩
        have B2 := Lib.hid (BW.out.trans (b2.mono BW.out.size))
        clear b2 x0 x1 x2 x3 x4
        go_wp2_with fail
        go_ret
        exact ⟨rfl, B2.out⟩
      by_cases a8 : a = 8
      · subst a8
        have HM := Lib.hid (made8 (n := n) (s := s) (ws := ws) HK.out)
        rw [HQ.out] at HM
        have HC := Lib.hid HTN.out
        cases hnb : namedB s <;> rw [hnb] at HC HM <;> clear hnb
        · have Hn := Lib.hid (show false = r by rw [← HR.out, HM.out]; rfl)
          go_wp2_with fail
          refine HC.out.mono ?_
          rintro e w2 ⟨rfl, b2⟩
          have B2 := Lib.hid (BW.out.trans (b2.mono BW.out.size))
          clear x0 x1 x2 x3 x4
          obtain ⟨x0, x1, x2, x3, x4⟩ := cell5 (K1.out.below b2)
          clear b2
          go_wp2_with fail
          go_ret
          exact ⟨ret_bool Hn.out, B2.out⟩
        by_cases d1 : k ≤ 16
        case neg =>
          have Hn := Lib.hid (show false = r by rw [← HR.out, HM.out, decide_eq_false (fun g => d1 g.1)]; rfl)
          have f1 : decide (k ≤ 16) = false := decide_eq_false d1
          have f1i : decide ((k : Int) ≤ 16) = false := decide_eq_false (by omega)
          go_wp2_with fail
          refine HC.out.mono ?_
          rintro e w2 ⟨rfl, b2⟩
          have B2 := Lib.hid (BW.out.trans (b2.mono BW.out.size))
          clear x0 x1 x2 x3 x4
          obtain ⟨x0, x1, x2, x3, x4⟩ := cell5 (K1.out.below b2)
          clear b2
          go_wp2_with fail
          go_ret
          exact ⟨ret_bool Hn.out, B2.out⟩
        by_cases d2 : n = 0
        case neg =>
          have Hn := Lib.hid (show false = r by rw [← HR.out, HM.out, decide_eq_false (fun g => d2 g.2.1)]; rfl)
          have f2 : (n == 0) = false := by rw [beq_eq_false_iff_ne]; exact d2
          go_wp2_with fail
          refine HC.out.mono ?_
          rintro e w2 ⟨rfl, b2⟩
          have B2 := Lib.hid (BW.out.trans (b2.mono BW.out.size))
          clear x0 x1 x2 x3 x4
          obtain ⟨x0, x1, x2, x3, x4⟩ := cell5 (K1.out.below b2)
          clear b2
          go_wp2_with fail
          go_ret
          exact ⟨ret_bool Hn.out, B2.out⟩
        by_cases d3 : p = 0
        case neg =>
          have Hn := Lib.hid (show false = r by rw [← HR.out, HM.out, decide_eq_false (fun g => d3 (by rw [← HP.out, g.2.2]; rfl))]; rfl)
          have f3 : ((p : Int) == 0) = false := by rw [beq_eq_false_iff_ne]; omega
          go_wp2_with fail
          refine HC.out.mono ?_
          rintro e w2 ⟨rfl, b2⟩
          have B2 := Lib.hid (BW.out.trans (b2.mono BW.out.size))
          clear x0 x1 x2 x3 x4
          obtain ⟨x0, x1, x2, x3, x4⟩ := cell5 (K1.out.below b2)
          clear b2
          go_wp2_with fail
          go_ret
          exact ⟨ret_bool Hn.out, B2.out⟩
        have Hn := Lib.hid (show true = r by rw [← HR.out, HM.out, decide_eq_true ⟨d1, d2, List.eq_nil_of_length_eq_zero (by rw [HP.out]; exact d3)⟩]; rfl)
        have f1 : decide (k ≤ 16) = true := decide_eq_true d1
        subst d2 d3
        go_wp2_with fail
        refine HC.out.mono ?_
        rintro e w2 ⟨rfl, b2⟩
        have B2 := Lib.hid (BW.out.trans (b2.mono BW.out.size))
        clear x0 x1 x2 x3 x4
        obtain ⟨x0, x1, x2, x3, x4⟩ := cell5 (K1.out.below b2)
        clear b2
        go_wp2_with fail
        go_ret
        exact ⟨ret_bool Hn.out, B2.out⟩
      by_cases a9 : a = 9
      · subst a9
        have HBA := Lib.hid HBA.out
        cases hba : bareB ⟨9, s, n, ws, ks⟩ <;> rw [hba] at HBA <;> have BA := Lib.hid hba <;> clear hba
        · have Hn := Lib.hid (show false = r by rw [← HR.out]; exact (made_nobare BA.out (by decide)).symm)
          go_wp2_with fail
          refine HBA.out.mono ?_
          rintro e w2 ⟨rfl, b2⟩
          have B2 := Lib.hid (BW.out.trans (b2.mono BW.out.size))
          clear x0 x1 x2 x3 x4
          obtain ⟨x0, x1, x2, x3, x4⟩ := cell5 (K1.out.below b2)
          clear b2
          go_wp2_with fail
          go_ret
          exact ⟨ret_bool Hn.out, B2.out⟩
        have HM := Lib.hid (made9 (n := n) HK.out (bare_spec BA.out).1 (bare_spec BA.out).2)
        rw [HQ.out] at HM
        by_cases d1 : k = 0
        case neg =>
          have Hn := Lib.hid (show false = r by rw [← HR.out, HM.out, decide_eq_false (by omega)])
          have f1 : ((k : Int) == 0) = false := by rw [beq_eq_false_iff_ne]; omega
          go_wp2_with fail
          refine HBA.out.mono ?_
          rintro e w2 ⟨rfl, b2⟩
          have B2 := Lib.hid (BW.out.trans (b2.mono BW.out.size))
          clear x0 x1 x2 x3 x4
          obtain ⟨x0, x1, x2, x3, x4⟩ := cell5 (K1.out.below b2)
          clear b2
          go_wp2_with fail
          go_ret
          exact ⟨ret_bool Hn.out, B2.out⟩
        subst d1
        by_cases d2 : 0 ≤ n
        case neg =>
          have Hn := Lib.hid (show false = r by rw [← HR.out, HM.out, decide_eq_false (by omega)])
          go_wp2_with fail
          refine HBA.out.mono ?_
          rintro e w2 ⟨rfl, b2⟩
          have B2 := Lib.hid (BW.out.trans (b2.mono BW.out.size))
          clear x0 x1 x2 x3 x4
          obtain ⟨x0, x1, x2, x3, x4⟩ := cell5 (K1.out.below b2)
          clear b2
          go_wp2_with fail
          go_ret
          exact ⟨ret_bool Hn.out, B2.out⟩
        by_cases d3 : n < 16
        case neg =>
          have Hn := Lib.hid (show false = r by rw [← HR.out, HM.out, decide_eq_false (by omega)])
          have f3 : decide (n < 16) = false := decide_eq_false d3
          go_wp2_with fail
          refine HBA.out.mono ?_
          rintro e w2 ⟨rfl, b2⟩
          have B2 := Lib.hid (BW.out.trans (b2.mono BW.out.size))
          clear x0 x1 x2 x3 x4
          obtain ⟨x0, x1, x2, x3, x4⟩ := cell5 (K1.out.below b2)
          clear b2
          go_wp2_with fail
          go_ret
          exact ⟨ret_bool Hn.out, B2.out⟩
        have Hn := Lib.hid (show true = r by rw [← HR.out, HM.out, decide_eq_true (by omega)])
        go_wp2_with fail
        refine HBA.out.mono ?_
        rintro e w2 ⟨rfl, b2⟩
        have B2 := Lib.hid (BW.out.trans (b2.mono BW.out.size))
        clear x0 x1 x2 x3 x4
        obtain ⟨x0, x1, x2, x3, x4⟩ := cell5 (K1.out.below b2)
        clear b2
        go_wp2_with fail
        go_ret
        exact ⟨ret_bool Hn.out, B2.out⟩
      have Hn := Lib.hid (show false = r by rw [← HR.out]; exact (made_other a1 a2 a3 a4 a5 a6 a7 a8 a9).symm)
      have e1 : (a == 1) = false := by rw [beq_eq_false_iff_ne]; exact a1
      have e2 : (a == 2) = false := by rw [beq_eq_false_iff_ne]; exact a2
      have e3 : (a == 3) = false := by rw [beq_eq_false_iff_ne]; exact a3
      have e4 : (a == 4) = false := by rw [beq_eq_false_iff_ne]; exact a4
      have e5 : (a == 5) = false := by rw [beq_eq_false_iff_ne]; exact a5
      have e6 : (a == 6) = false := by rw [beq_eq_false_iff_ne]; exact a6
      have e7 : (a == 7) = false := by rw [beq_eq_false_iff_ne]; exact a7
      have e8 : (a == 8) = false := by rw [beq_eq_false_iff_ne]; exact a8
      have e9 : (a == 9) = false := by rw [beq_eq_false_iff_ne]; exact a9
      go_wp2_with fail
      go_ret
      exact ⟨ret_bool Hn.out, BW.out⟩
end Go.Proofs.YtkmnfkhchcoamaaGreatDoor

