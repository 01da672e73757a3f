import Derived.Test.YtkmnfkhchcoamaaGreatDoorTypMadeM
import Derived.Test.YtkmnfkhchcoamaaGreatDoorTypElems
/- The reference's Made: is a type made right, for a row of others? -/
namespace Go.Proofs.YtkmnfkhchcoamaaGreatDoor
open Go.RowKit
set_option linter.unusedSimpArgs false
set_option linter.unusedVariables false

set_option maxHeartbeats 64000000 in
set_option maxRecDepth 100000 in
theorem made_any (l : List Ty) (ao : Option Addr) (ac : Nat) (t : Ty) (wo ko : Option Addr) (wc kc : Nat) (w : World) (hl : ARow w ao l) (ht : TyC w wo ko t) (ll : l.length ≤ 1000) (hwc : t.words.length ≤ wc) :
    Calls Tryz.prog 42 #[.slice ao l.length ac, tyV t wo wc ko kc] w fun e w' => e = .returned (.bool (madeB l t)) ∧ Below w.heap.size w w' := by
  obtain ⟨a, s, n, ws, ks⟩ := t
  obtain ⟨r, hr⟩ : ∃ r, madeB l ⟨a, s, n, ws, ks⟩ = r := ⟨_, rfl⟩
  rw [hr]
  have HR := Lib.hid hr
  unfold tyV
  show Calls _ _ #[.slice ao l.length ac, .agg #[.int .i64 a, .string s, .int .i64 n, .slice wo ws.length wc, .slice ko ks.length kc]] _ _
  have l1 : ws.length ≤ 18 := ht.ok.wl
  have l2 : ks.length ≤ 18 := ht.ok.kl
  have l3 : s.size ≤ 50 := ht.ok.nl
  have HWC := Lib.hid (show ws.length ≤ wc from hwc)
  obtain ⟨p, hp⟩ : ∃ p, ws.length = p := ⟨_, rfl⟩
  obtain ⟨q, hq⟩ : ∃ q, ks.length = q := ⟨_, rfl⟩
  obtain ⟨L, hL⟩ : ∃ L, l.length = L := ⟨_, rfl⟩
  have HP := Lib.hid hp
  have HQ := Lib.hid hq
  have HL := Lib.hid hL
  have HT := Lib.hid ht
  have HA := Lib.hid hl
  rw [hp] at l1 ⊢
  rw [hq] at l2 ⊢
  rw [hL] at ll ⊢
  obtain ⟨w1, h1⟩ : ∃ w1, w.alloc (.cells #[.int .i64 a, .string s, .int .i64 n, .slice wo p wc, .slice ko q kc] 38) = w1 := ⟨_, rfl⟩
  obtain ⟨k1, q1, z1⟩ := box_new h1
  have BW := Lib.hid q1
  have K1 := Lib.hid k1
  clear hr hp hq hL ht hl hwc k1 q1 z1
  obtain ⟨x0, x1, x2, x3, x4⟩ := cell5 K1.out
  go_enter Tryz.func42, Tryz.ntmps42
  go_wp2_with fail
  clear h1 x0 x1 x2 x3 x4
  go_loopw [11] (fun i wr => ∃ k : Nat, k ≤ q ∧ i = .int .i64 k ∧ Hid (∀ j, j < k → (0 ≤ ks.getD j 0 ∧ ks.getD j 0 < (l.length : Int))) ∧ wr = w1) (fun i _ => q - (intOf i).toNat)
  case atStart => exact ⟨0, Nat.zero_le _, rfl, Lib.hid (fun j hj => absurd hj (Nat.not_lt_zero _)), by first | rfl | trivial⟩
  case round =>
    obtain ⟨k, hk, rfl, Hall, rfl⟩ := hrel
    by_cases hkl : k < q
    · obtain ⟨kb, kof, rfl, hkb, hkc⟩ := (HT.out.below BW.out).kids.cells (by show 0 < ks.length; rw [HQ.out]; omega)
      have ck : wr.cell? ⟨kb, kof + k, none⟩ = some (.int .i64 (ks.getD k 0)) := hkc k (by show k < ks.length; rw [HQ.out]; exact hkl)
      obtain ⟨z, hz⟩ : ∃ z, ks.getD k 0 = z := ⟨_, rfl⟩
      have HZ := Lib.hid hz
      rw [hz] at ck
      clear hz hkb hkc
      by_cases d1 : z < 0
      · have Hn := Lib.hid (show false = r by rw [← HR.out]; exact (made_kids (kidsB_no (k := k) (by rw [HQ.out]; exact hkl) (by rw [HZ.out]; omega))).symm)
        go_wp2_with fail
        go_ret
        exact ⟨ret_bool Hn.out, BW.out⟩
      by_cases d2 : (L : Int) ≤ z
      · have Hn := Lib.hid (show false = r by rw [← HR.out]; exact (made_kids (kidsB_no (k := k) (by rw [HQ.out]; exact hkl) (by rw [HZ.out, HL.out]; omega))).symm)
        go_wp2_with fail
        go_ret
        exact ⟨ret_bool Hn.out, BW.out⟩
      have Hx := Lib.hid (show ∀ j, j < k + 1 → (0 ≤ ks.getD j 0 ∧ ks.getD j 0 < (l.length : Int)) from fun j hj => by
        rcases Nat.lt_or_eq_of_le (Nat.le_of_lt_succ hj) with h1 | h1
        · exact Hall.out j h1
        · rw [h1, HZ.out, HL.out]; omega)
      go_wp2_with fail
      go_roundw
      case rel => exact ⟨k + 1, by omega, by go_num, Hx, by first | rfl | trivial⟩
      case measure => first | (simp [intOf]; done) | (simp [intOf]; omega)
    · obtain rfl : k = q := by omega
      have HK := Lib.hid (show kidsB l ks = true from kidsB_yes (fun j hj => Hall.out j (by rw [HQ.out] at hj; exact hj)))
      clear Hall hkl
      obtain ⟨x0, x1, x2, x3, x4⟩ := cell5 K1.out
      by_cases c1 : 16 < k
      · have Hn := Lib.hid (show false = r by rw [← HR.out]; symm; exact (made_many (by rw [HQ.out]; exact c1)))
        go_wp2_with fail
        go_ret
        exact ⟨ret_bool Hn.out, BW.out⟩
      by_cases c8 : a = 8
      · subst c8
        by_cases cp : 0 < p
        · have Hn := Lib.hid (show false = r by rw [← HR.out]; symm; exact (by rw [made8 HK.out, decide_eq_false (by rintro ⟨_, _, e⟩; have := HP.out; rw [e] at this; simp at this; omega), Bool.and_false]))
          go_wp2_with fail
          go_ret
          exact ⟨ret_bool Hn.out, BW.out⟩
        obtain rfl : p = 0 := by omega
        by_cases cn : n = 0
        case neg =>
          have hnq : (n == 0) = false := by rw [beq_eq_false_iff_ne]; exact cn
          have Hn := Lib.hid (show false = r by rw [← HR.out]; symm; exact (by rw [made8 HK.out, decide_eq_false (by rintro ⟨_, e, _⟩; exact cn e), Bool.and_false]))
          go_wp2_with fail
          go_ret
          exact ⟨ret_bool Hn.out, BW.out⟩
        subst cn
        have HNM := Lib.hid (named_any s wr (by omega))
        have Hn := Lib.hid (show namedB s = r by rw [← HR.out, made8 HK.out, decide_eq_true ⟨by rw [HQ.out]; omega, rfl, List.eq_nil_of_length_eq_zero HP.out⟩, Bool.and_true])
        go_wp2_with fail
        refine HNM.out.mono ?_
        rintro e w' ⟨rfl, rfl⟩
        go_wp2_with fail
        go_ret
        exact ⟨ret_bool Hn.out, BW.out⟩
      have e8 : (a != 8) = true := by rw [bne_iff_ne]; exact c8
      by_cases cs : s.size = 0
      case neg =>
        have hsz : 0 < s.size := by omega
        have hse := empty_false hsz
        have hsl := list_ne hsz
        have Hn := Lib.hid (show false = r by rw [← HR.out]; symm; exact (made_name c8 cs))
        go_wp2_with fail
        go_ret
        exact ⟨ret_bool Hn.out, BW.out⟩
      have hse := empty_true cs
      by_cases c6 : a = 6
      · subst c6
        clear c8 e8
        by_cases cn : n = 0
        case neg =>
          have hnq : (n == 0) = false := by rw [beq_eq_false_iff_ne]; exact cn
          have Hn := Lib.hid (show false = r by rw [← HR.out]; symm; exact (by rw [made6 HK.out cs, decide_eq_false (by rintro ⟨e, _⟩; exact cn e), Bool.false_and]))
          go_wp2_with fail
          go_ret
          exact ⟨ret_bool Hn.out, BW.out⟩
        subst cn
        have HF0 := fields_any ⟨6, s, 0, ws, ks⟩ wo ko wc kc wr (HT.out.below BW.out) HWC.out
        unfold tyV at HF0
        simp only at HF0
        obtain ⟨rb, hrb⟩ : ∃ rb, (fieldsB ws && decide (ws.length = ks.length)) = rb := ⟨_, rfl⟩
        rw [hrb, HP.out, HQ.out] at HF0
        have HF := Lib.hid HF0
        have Hn := Lib.hid (show rb = r by
          rw [← HR.out, made6 HK.out cs, ← hrb, Bool.and_comm]
          congr 1
          have hq := HQ.out
          rw [decide_eq_decide]
          omega)
        clear HF0 hrb
        go_wp2_with fail
        refine HF.out.mono ?_
        rintro e w' ⟨rfl, b⟩
        have B2 := Lib.hid (BW.out.trans (b.mono BW.out.size))
        clear b x0 x1 x2 x3 x4
        go_wp2_with fail
        go_ret
        exact ⟨ret_bool Hn.out, B2.out⟩
      by_cases c7 : a = 7
      · subst c7
        clear c8 e8 c6
        have HF0 := elems_any l ao ac ⟨7, s, n, ws, ks⟩ wo ko wc kc wr (HA.out.below BW.out) (HT.out.below BW.out) (by rw [HL.out]; exact ll) (kidsB_in HK.out)
        unfold tyV at HF0
        simp only at HF0
        obtain ⟨rb, hrb⟩ : ∃ rb, (decide (0 ≤ n ∧ n ≤ 3 ∧ ws.length = ks.length) && elemsB l n ws ks) = rb := ⟨_, rfl⟩
        rw [hrb, HP.out, HQ.out, HL.out] at HF0
        have HF := Lib.hid HF0
        have Hn := Lib.hid (show rb = r by
          rw [← HR.out, made7 HK.out cs, ← hrb]
          congr 1
          have hq := HQ.out
          rw [decide_eq_decide]
          omega)
        clear HF0 hrb
        go_wp2_with fail
        refine HF.out.mono ?_
        rintro e w' ⟨rfl, b⟩
        have B2 := Lib.hid (BW.out.trans (b.mono BW.out.size))
        clear b x0 x1 x2 x3 x4
        go_wp2_with fail
        go_ret
        exact ⟨ret_bool Hn.out, B2.out⟩
      have e6 : (a != 6) = true := by rw [bne_iff_ne]; exact c6
      have e7 : (a != 7) = true := by rw [bne_iff_ne]; exact c7
      by_cases cp : 0 < p
      · have Hn := Lib.hid (show false = r by rw [← HR.out]; symm; exact (made_words c6 c7 (by rw [HP.out]; exact cp)))
        go_wp2_with fail
        go_ret
        exact ⟨ret_bool Hn.out, BW.out⟩
      obtain rfl : p = 0 := by omega
      have HW := Lib.hid (List.eq_nil_of_length_eq_zero HP.out)
      by_cases c1' : a = 1
      · subst c1'
        clear c8 e8 c6 c7 e6 e7
        by_cases cn : n = 0
        case neg =>
          have hnq : (n == 0) = false := by rw [beq_eq_false_iff_ne]; exact cn
          have Hn := Lib.hid (show false = r by rw [← HR.out]; symm; exact (by have hq := HQ.out; rw [made1 HK.out cs HW.out, decide_eq_false (by omega)]))
          go_wp2_with fail
          go_ret
          exact ⟨ret_bool Hn.out, BW.out⟩
        have hnq : (n == 0) = true := by rw [beq_iff_eq]; exact cn
        by_cases cq : k = 1
        case neg =>
          have hqq : ((k : Int) == 1) = false := by rw [beq_eq_false_iff_ne]; omega
          have Hn := Lib.hid (show false = r by rw [← HR.out]; symm; exact (by have hq := HQ.out; rw [made1 HK.out cs HW.out, decide_eq_false (by omega)]))
          go_wp2_with fail
          go_ret
          exact ⟨ret_bool Hn.out, BW.out⟩
        have hqq : ((k : Int) == 1) = true := by rw [beq_iff_eq]; omega
        have Hn := Lib.hid (show true = r by rw [← HR.out]; symm; exact (by have hq := HQ.out; rw [made1 HK.out cs HW.out, decide_eq_true (by omega)]))
        go_wp2_with fail
        go_ret
        exact ⟨ret_bool Hn.out, BW.out⟩
      by_cases c2 : a = 2
      · subst c2
        clear c8 e8 c6 c7 e6 e7
        by_cases cn : n = 0
        case neg =>
          have hnq : (n == 0) = false := by rw [beq_eq_false_iff_ne]; exact cn
          have Hn := Lib.hid (show false = r by rw [← HR.out]; symm; exact (by have hq := HQ.out; rw [made2 HK.out cs HW.out, decide_eq_false (by omega)]))
          go_wp2_with fail
          go_ret
          exact ⟨ret_bool Hn.out, BW.out⟩
        have hnq : (n == 0) = true := by rw [beq_iff_eq]; exact cn
        by_cases cq : k = 1
        case neg =>
          have hqq : ((k : Int) == 1) = false := by rw [beq_eq_false_iff_ne]; omega
          have Hn := Lib.hid (show false = r by rw [← HR.out]; symm; exact (by have hq := HQ.out; rw [made2 HK.out cs HW.out, decide_eq_false (by omega)]))
          go_wp2_with fail
          go_ret
          exact ⟨ret_bool Hn.out, BW.out⟩
        have hqq : ((k : Int) == 1) = true := by rw [beq_iff_eq]; omega
        have Hn := Lib.hid (show true = r by rw [← HR.out]; symm; exact (by have hq := HQ.out; rw [made2 HK.out cs HW.out, decide_eq_true (by omega)]))
        go_wp2_with fail
        go_ret
        exact ⟨ret_bool Hn.out, BW.out⟩
      by_cases c3 : a = 3
      · subst c3
        clear c8 e8 c6 c7 e6 e7
        by_cases cg : 0 ≤ n
        case neg =>
          have Hn := Lib.hid (show false = r by rw [← HR.out]; symm; exact (by have hq := HQ.out; rw [made3 HK.out cs HW.out, decide_eq_false (by omega)]))
          go_wp2_with fail
          go_ret
          exact ⟨ret_bool Hn.out, BW.out⟩
        by_cases ch : n ≤ 2147483648
        case neg =>
          have Hn := Lib.hid (show false = r by rw [← HR.out]; symm; exact (by have hq := HQ.out; rw [made3 HK.out cs HW.out, decide_eq_false (by omega)]))
          go_wp2_with fail
          go_ret
          exact ⟨ret_bool Hn.out, BW.out⟩
        by_cases cq : k = 1
        case neg =>
          have hqq : ((k : Int) == 1) = false := by rw [beq_eq_false_iff_ne]; omega
          have Hn := Lib.hid (show false = r by rw [← HR.out]; symm; exact (by have hq := HQ.out; rw [made3 HK.out cs HW.out, decide_eq_false (by omega)]))
          go_wp2_with fail
          go_ret
          exact ⟨ret_bool Hn.out, BW.out⟩
        have hqq : ((k : Int) == 1) = true := by rw [beq_iff_eq]; omega
        have Hn := Lib.hid (show true = r by rw [← HR.out]; symm; exact (by have hq := HQ.out; rw [made3 HK.out cs HW.out, decide_eq_true (by omega)]))
        go_wp2_with fail
        go_ret
        exact ⟨ret_bool Hn.out, BW.out⟩
      by_cases c4 : a = 4
      · subst c4
        clear c8 e8 c6 c7 e6 e7
        by_cases cn : n = 0
        case neg =>
          have hnq : (n == 0) = false := by rw [beq_eq_false_iff_ne]; exact cn
          have Hn := Lib.hid (show false = r by rw [← HR.out]; symm; exact (by have hq := HQ.out; rw [made4 HK.out cs HW.out, decide_eq_false (by omega)]))
          go_wp2_with fail
          go_ret
          exact ⟨ret_bool Hn.out, BW.out⟩
        have hnq : (n == 0) = true := by rw [beq_iff_eq]; exact cn
        by_cases cq : k = 2
        case neg =>
          have hqq : ((k : Int) == 2) = false := by rw [beq_eq_false_iff_ne]; omega
          have Hn := Lib.hid (show false = r by rw [← HR.out]; symm; exact (by have hq := HQ.out; rw [made4 HK.out cs HW.out, decide_eq_false (by omega)]))
          go_wp2_with fail
          go_ret
          exact ⟨ret_bool Hn.out, BW.out⟩
        have hqq : ((k : Int) == 2) = true := by rw [beq_iff_eq]; omega
        have Hn := Lib.hid (show true = r by rw [← HR.out]; symm; exact (by have hq := HQ.out; rw [made4 HK.out cs HW.out, decide_eq_true (by omega)]))
        go_wp2_with fail
        go_ret
        exact ⟨ret_bool Hn.out, BW.out⟩
      by_cases c5 : a = 5
      · subst c5
        clear c8 e8 c6 c7 e6 e7
        by_cases cn : n = 0
        · have hnq : (n == 0) = true := by rw [beq_iff_eq]; exact cn
          have Hn := Lib.hid (show true = r by rw [← HR.out]; symm; exact (by have hq := HQ.out; rw [made5 HK.out cs HW.out, decide_eq_true (by omega)]))
          go_wp2_with fail
          go_ret
          exact ⟨ret_bool Hn.out, BW.out⟩
        have hnq : (n == 0) = false := by rw [beq_eq_false_iff_ne]; exact cn
        by_cases cm : n = 1
        case neg =>
          have hmq : (n == 1) = false := by rw [beq_eq_false_iff_ne]; exact cm
          have Hn := Lib.hid (show false = r by rw [← HR.out]; symm; exact (by have hq := HQ.out; rw [made5 HK.out cs HW.out, decide_eq_false (by omega)]))
          go_wp2_with fail
          go_ret
          exact ⟨ret_bool Hn.out, BW.out⟩
        have hmq : (n == 1) = true := by rw [beq_iff_eq]; exact cm
        by_cases cq : 0 < k
        case neg =>
          have Hn := Lib.hid (show false = r by rw [← HR.out]; symm; exact (by have hq := HQ.out; rw [made5 HK.out cs HW.out, decide_eq_false (by omega)]))
          go_wp2_with fail
          go_ret
          exact ⟨ret_bool Hn.out, BW.out⟩
        have Hn := Lib.hid (show true = r by rw [← HR.out]; symm; exact (by have hq := HQ.out; rw [made5 HK.out cs HW.out, decide_eq_true (by omega)]))
        go_wp2_with fail
        go_ret
        exact ⟨ret_bool Hn.out, BW.out⟩
      by_cases c9 : a = 9
      · subst c9
        clear c8 e8 c6 c7 e6 e7
        by_cases cg : 0 ≤ n
        case neg =>
          have Hn := Lib.hid (show false = r by rw [← HR.out]; symm; exact (by have hq := HQ.out; rw [made9 HK.out cs HW.out, decide_eq_false (by omega)]))
          go_wp2_with fail
          go_ret
          exact ⟨ret_bool Hn.out, BW.out⟩
        by_cases ch : n < 16
        case neg =>
          have Hn := Lib.hid (show false = r by rw [← HR.out]; symm; exact (by have hq := HQ.out; rw [made9 HK.out cs HW.out, decide_eq_false (by omega)]))
          go_wp2_with fail
          go_ret
          exact ⟨ret_bool Hn.out, BW.out⟩
        by_cases cq : k = 0
        case neg =>
          have hqq : ((k : Int) == 0) = false := by rw [beq_eq_false_iff_ne]; omega
          have Hn := Lib.hid (show false = r by rw [← HR.out]; symm; exact (by have hq := HQ.out; rw [made9 HK.out cs HW.out, decide_eq_false (by omega)]))
          go_wp2_with fail
          go_ret
          exact ⟨ret_bool Hn.out, BW.out⟩
        have hqq : ((k : Int) == 0) = true := by rw [beq_iff_eq]; omega
        have Hn := Lib.hid (show true = r by rw [← HR.out]; symm; exact (by have hq := HQ.out; rw [made9 HK.out cs HW.out, decide_eq_true (by omega)]))
        go_wp2_with fail
        go_ret
        exact ⟨ret_bool Hn.out, BW.out⟩
      have e1 : (a == 1) = false := by rw [beq_eq_false_iff_ne]; exact c1'
      have e2 : (a == 2) = false := by rw [beq_eq_false_iff_ne]; exact c2
      have e3 : (a == 3) = false := by rw [beq_eq_false_iff_ne]; exact c3
      have e4 : (a == 4) = false := by rw [beq_eq_false_iff_ne]; exact c4
      have e5 : (a == 5) = false := by rw [beq_eq_false_iff_ne]; exact c5
      have e9 : (a == 9) = false := by rw [beq_eq_false_iff_ne]; exact c9
      have f6 : (a == 6) = false := by rw [beq_eq_false_iff_ne]; exact c6
      have f7 : (a == 7) = false := by rw [beq_eq_false_iff_ne]; exact c7
      have f8 : (a == 8) = false := by rw [beq_eq_false_iff_ne]; exact c8
      have Hn := Lib.hid (show false = r by rw [← HR.out]; symm; exact (made_other c1' c2 c3 c4 c5 c6 c7 c8 c9))
      go_wp2_with fail
      go_ret
      exact ⟨ret_bool Hn.out, BW.out⟩
end Go.Proofs.YtkmnfkhchcoamaaGreatDoor

