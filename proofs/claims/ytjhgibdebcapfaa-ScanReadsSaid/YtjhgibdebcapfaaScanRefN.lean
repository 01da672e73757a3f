/- The document's answer: number. -/
import Derived.Test.YtjhgibdebcapfaaScanRefT
import Derived.Deep.CutRange
import Derived.Deep.DeepCutAuto
import Derived.Deep.LoopGhost
namespace Go.Proofs.Ytjhgibdebcapfaa
open Go.RowKit
set_option linter.unusedSimpArgs false
set_option linter.unusedVariables false

def kindAt (s : ByteArray) (i j : Nat) : Int := if otherB s i = false ∧ dotIn s i j = true then 3 else 2
theorem dotIn_zero (s : ByteArray) (i : Nat) : dotIn s i i = false := by unfold dotIn; rw [Nat.sub_self]; rfl
theorem dotIn_succ (s : ByteArray) {i j : Nat} (h : i ≤ j) : dotIn s i (j + 1) = (dotIn s i j || dotB s j) := by
  unfold dotIn
  rw [show j + 1 - i = (j - i) + 1 by omega, List.range'_concat, List.any_append]
  simp only [List.any_cons, List.any_nil, Bool.or_false]
  rw [show i + 1 * (j - i) = j by omega]
theorem kind_zero (s : ByteArray) (i : Nat) : kindAt s i i = 2 := by unfold kindAt; rw [dotIn_zero, if_neg (fun h => by cases h.2)]
theorem kind_keep {s : ByteArray} {i j : Nat} (h : i ≤ j) (hk : otherB s i = true ∨ dotB s j = false) : kindAt s i (j + 1) = kindAt s i j := by
  unfold kindAt
  rw [dotIn_succ s h]
  rcases hk with hk | hk
  · rw [if_neg (fun h => by rw [hk] at h; cases h.1), if_neg (fun h => by rw [hk] at h; cases h.1)]
  · rw [hk, Bool.or_false]
theorem kind_up {s : ByteArray} {i j : Nat} (h : i ≤ j) (ho : otherB s i = false) (hd : dotB s j = true) : kindAt s i (j + 1) = 3 := by
  unfold kindAt
  rw [dotIn_succ s h, hd, Bool.or_true, if_pos ⟨ho, rfl⟩]
theorem numC_no {s : ByteArray} {i j : Nat} {c : Int} {E : Bool} (hc : byteAt s j = c) (hE : decide (i < j ∧ upC (byteAt s (j - 1)) = 69 ∧ ¬ baseC s i = 88) = E) :
    numC s i j = (inB c || decide (c = 46) || (E && decide (c = 43 ∨ c = 45))) := by unfold numC; rw [hc, hE]
set_option maxHeartbeats 8000000 in
set_option maxRecDepth 100000 in
theorem refnumber_any (s : ByteArray) (i : Nat) (w : World) (hs : s.size ≤ 4010) (hi : i < s.size) :
    Calls Try.prog 34 #[.string s, .int .i64 i] w fun e w' => e = .returned (gotV (numberT s i)) ∧ Below w.heap.size w w' := by
  obtain ⟨w1, hw⟩ : ∃ w1, w.alloc (.cells #[.int .i64 0, .int .i64 0, .int .i64 0] 46) = w1 := ⟨_, rfl⟩
  obtain ⟨k1, q1, z1⟩ := box_new hw
  have B := Lib.hid q1
  have K1 := Lib.hid k1
  clear k1 q1 z1
  obtain ⟨e, he⟩ : ∃ e, run (numC s i) s.size i = e := ⟨_, rfl⟩
  have HE := Lib.hid he
  have e1 : i ≤ e := by rw [← he]; exact le_run
  have e2 : e ≤ s.size := by rw [← he]; exact run_le (by omega)
  have HT := Lib.hid (show numberT s i = ⟨kindAt s i e, e, 0⟩ by unfold numberT kindAt; rw [he])
  clear he
  obtain ⟨b, hb⟩ : ∃ b, baseC s i = b := ⟨_, rfl⟩
  obtain ⟨o, ho⟩ : ∃ o, otherB s i = o := ⟨_, rfl⟩
  have HB := Lib.hid hb
  have HO := Lib.hid ho
  have HBd := Lib.hid (show b = if byteAt s i = 48 then upC (byteAt s (i + 1)) else 0 by rw [← hb]; rfl)
  have HOd := Lib.hid (show o = decide (b = 88 ∨ b = 66 ∨ b = 79) by rw [← ho, ← hb]; rfl)
  clear hb ho
  have HA := Lib.hid (at_any s (i + 1) w1 (by omega))
  have HU := Lib.hid (refupper_any (byteAt s (i + 1)) w1 (byteAt_range _ _).1 (byteAt_range _ _).2)
  have hni : ((i + 1 : Nat) : Int) = (i : Int) + 1 := by omega
  have HA := by simpa only [hni] using HA
  obtain ⟨c0, hc0⟩ : ∃ c : Int, (s[i].toNat : Int) = c := ⟨_, rfl⟩
  have HC0 := Lib.hid ((byteAt_eq hi).trans hc0)
  clear hni
  go_enter Try.func34, Try.ntmps34
  go_upto_if 14 with fail
  clear hw
  go_cut [5] (fun vb wx => vb = .int .u8 b ∧ w1 = wx)
  case first =>
    by_cases h48 : c0 = 48
    · have Hb2 := Lib.hid (show upC (byteAt s (i + 1)) = b by rw [HBd.out, if_pos (HC0.out.trans h48)])
      have g : (c0 == 48) = true := by rw [beq_iff_eq]; exact h48
      clear h48
      go_wp2_with fail
      refine HA.out.mono ?_
      rintro x w' ⟨rfl, rfl⟩
      go_wp2_with fail
      refine HU.out.mono ?_
      rintro x w' ⟨rfl, rfl⟩
      go_wp2_with fail
      go_meet
      exact ⟨by rw [Hb2.out], rfl⟩
    · have Hb2 := Lib.hid (show 0 = b by rw [HBd.out, if_neg (fun h => h48 (HC0.out.symm.trans h))])
      have g : (c0 == 48) = false := by rw [beq_eq_false_iff_ne]; exact h48
      clear h48
      go_wp2_with fail
      go_meet
      exact ⟨by rw [Hb2.out], rfl⟩
  case rest =>
    obtain ⟨rfl, rfl⟩ := hcut
    clear HA HU HC0
    go_upto_region 4 with fail
    go_cut [6] (fun vo wx => vo = .bool o ∧ w1 = wx)
    case first =>
      by_cases h1 : b = 88
      · have HOt := Lib.hid (show true = o by rw [HOd.out, decide_eq_true (.inl h1)])
        have g : (b == 88) = true := by rw [beq_iff_eq]; exact h1
        clear h1
        go_wp2_with fail
        go_meet
        exact ⟨by rw [HOt.out], rfl⟩
      have g1 : (b == 88) = false := by rw [beq_eq_false_iff_ne]; exact h1
      by_cases h2 : b = 66
      · have HOt := Lib.hid (show true = o by rw [HOd.out, decide_eq_true (.inr (.inl h2))])
        have g : (b == 66) = true := by rw [beq_iff_eq]; exact h2
        clear h1 h2
        go_wp2_with fail
        go_meet
        exact ⟨by rw [HOt.out], rfl⟩
      have g2 : (b == 66) = false := by rw [beq_eq_false_iff_ne]; exact h2
      by_cases h3 : b = 79
      · have HOt := Lib.hid (show true = o by rw [HOd.out, decide_eq_true (.inr (.inr h3))])
        have g : (b == 79) = true := by rw [beq_iff_eq]; exact h3
        clear h1 h2 h3
        go_wp2_with fail
        go_meet
        exact ⟨by rw [HOt.out], rfl⟩
      have g3 : (b == 79) = false := by rw [beq_eq_false_iff_ne]; exact h3
      have HOt := Lib.hid (show false = o by rw [HOd.out, decide_eq_false (by rintro (h | h | h) <;> contradiction)])
      clear h1 h2 h3
      go_wp2_with fail
      go_meet
      exact ⟨by rw [HOt.out], rfl⟩
    case rest =>
      obtain ⟨rfl, rfl⟩ := hcut
      clear HBd HOd
      go_wp2_with fail
      clear hc0 c0
      go_loopg [7, 8] (s.size - i) (fun k vk ve wr => ∃ j : Nat, i ≤ j ∧ j ≤ e ∧ ve = .int .i64 j ∧ j + k = s.size ∧ vk = .int .i64 (kindAt s i j) ∧ Hid (run (numC s i) s.size j = e) ∧ w1 = wr)
      case atStart => exact ⟨i, Nat.le_refl _, e1, rfl, by omega, by rw [kind_zero], HE, rfl⟩
      case round =>
        obtain ⟨j, hij, hje, rfl, hjk, rfl, Hrun, rfl⟩ := hrel
        by_cases hlt : j < s.size
        · obtain ⟨c, hc⟩ : ∃ c : Int, (s[j].toNat : Int) = c := ⟨_, rfl⟩
          have HC := Lib.hid ((byteAt_eq hlt).trans hc)
          obtain ⟨E, hE⟩ : ∃ E, decide (i < j ∧ upC (byteAt s (j - 1)) = 69 ∧ ¬ baseC s i = 88) = E := ⟨_, rfl⟩
          have HEE := Lib.hid hE
          have HNC := Lib.hid (numC_no HC.out hE)
          clear hE
          obtain ⟨kd, hkd⟩ : ∃ kd, kindAt s i j = kd := ⟨_, rfl⟩
          have HKD := Lib.hid hkd
          rw [hkd]
          clear hkd
          go_upto_region 9 with fail
          go_cut [10] (fun ve wx => ve = .bool E ∧ w1 = wx)
          case first =>
            by_cases hlj : i < j
            · obtain ⟨m, rfl⟩ : ∃ m, j = m + 1 := ⟨j - 1, by omega⟩
              have hm1 : ((m + 1 : Nat) : Int) - 1 = (m : Int) := by omega
              have hms : m < s.size := by omega
              obtain ⟨p, hp⟩ : ∃ p : Int, (s[m].toNat : Int) = p := ⟨_, rfl⟩
              have hbp := (byteAt_eq hms).trans hp
              have HU := Lib.hid (refupper_any p w1 (by rw [← hbp]; exact (byteAt_range _ _).1) (by rw [← hbp]; exact (byteAt_range _ _).2))
              have HEd := Lib.hid (show E = decide (upC p = 69 ∧ ¬ b = 88) by
                rw [← HEE.out, HB.out, show m + 1 - 1 = m from rfl, hbp]
                by_cases h : upC p = 69 ∧ ¬ b = 88
                · rw [decide_eq_true h, decide_eq_true ⟨hlj, h⟩]
                · rw [decide_eq_false h, decide_eq_false (fun g => h g.2)])
              have hIJ : decide ((i : Int) < ((m + 1 : Nat) : Int)) = true := decide_eq_true (by omega)
              clear hbp
              obtain ⟨u, hu⟩ : ∃ u, upC p = u := ⟨_, rfl⟩
              rw [hu] at HU HEd
              clear hu
              by_cases h69 : u = 69
              · have g69 : (u == 69) = true := by rw [beq_iff_eq]; exact h69
                by_cases h88 : b = 88
                · have g88 : (b == 88) = true := by rw [beq_iff_eq]; exact h88
                  have n88 : (b != 88) = false := by rw [bne, g88]; rfl
                  have HF := Lib.hid (show false = E by rw [HEd.out, decide_eq_false (fun g => g.2 h88)])
                  clear h69 h88
                  go_wp2_with fail
                  refine HU.out.mono ?_
                  rintro x w' ⟨rfl, rfl⟩
                  go_wp2_with fail
                  go_meet
                  exact ⟨by rw [HF.out], rfl⟩
                · have g88 : (b == 88) = false := by rw [beq_eq_false_iff_ne]; exact h88
                  have n88 : (b != 88) = true := by rw [bne, g88]; rfl
                  have HF := Lib.hid (show true = E by rw [HEd.out, decide_eq_true ⟨h69, h88⟩])
                  clear h69 h88
                  go_wp2_with fail
                  refine HU.out.mono ?_
                  rintro x w' ⟨rfl, rfl⟩
                  go_wp2_with fail
                  go_meet
                  exact ⟨by rw [HF.out], rfl⟩
              · have g69 : (u == 69) = false := by rw [beq_eq_false_iff_ne]; exact h69
                have HF := Lib.hid (show false = E by rw [HEd.out, decide_eq_false (fun g => h69 g.1)])
                clear h69
                go_wp2_with fail
                refine HU.out.mono ?_
                rintro x w' ⟨rfl, rfl⟩
                go_wp2_with fail
                go_meet
                exact ⟨by rw [HF.out], rfl⟩
            · have hIJ : decide ((i : Int) < (j : Int)) = false := decide_eq_false (by omega)
              have HF := Lib.hid (show false = E by rw [← HEE.out, decide_eq_false (fun g => hlj g.1)])
              have hIJ2 : ¬ (i : Int) < (j : Int) := by omega
              go_wp2_with fail
              go_meet
              exact ⟨by rw [HF.out], rfl⟩
          case rest =>
            obtain ⟨rfl, rfl⟩ := hcut
            obtain ⟨nb, hnb⟩ : ∃ nb, numC s i j = nb := ⟨_, rfl⟩
            have HNB := Lib.hid hnb
            have HNV := Lib.hid (show nb = (inB c || decide (c = 46) || (E && decide (c = 43 ∨ c = 45))) by rw [← hnb]; exact HNC.out)
            clear hnb HNC
            have hWd := word_any c w1
            go_upto_region 10 with fail
            go_cut [71] (fun v wx => v = .bool (!nb) ∧ w1 = wx)
            case first =>
              cases hin : inB c <;> rw [hin] at hWd HNV <;> have HW := Lib.hid hWd <;> clear hWd hin
              · by_cases h46 : c = 46
                · have g46 : (c == 46) = true := by rw [beq_iff_eq]; exact h46
                  have n46 : (c != 46) = false := by rw [bne, g46]; rfl
                  have HF := Lib.hid (show nb = true by rw [HNV.out, decide_eq_true h46]; rfl)
                  clear h46
                  go_wp2_with fail
                  refine HW.out.mono ?_
                  rintro x w' ⟨rfl, rfl⟩
                  go_wp2_with fail
                  go_meet
                  exact ⟨by rw [HF.out]; rfl, rfl⟩
                · have g46 : (c == 46) = false := by rw [beq_eq_false_iff_ne]; exact h46
                  have n46 : (c != 46) = true := by rw [bne, g46]; rfl
                  have HNV2 := HNV.out
                  rw [decide_eq_false h46, Bool.false_or, Bool.false_or] at HNV2
                  clear h46 HNV
                  cases E
                  · have HF := Lib.hid (show nb = false by rw [HNV2]; rfl)
                    clear HNV2
                    go_wp2_with fail
                    refine HW.out.mono ?_
                    rintro x w' ⟨rfl, rfl⟩
                    go_wp2_with fail
                    go_meet
                    exact ⟨by rw [HF.out]; rfl, rfl⟩
                  · rw [Bool.true_and] at HNV2
                    have HNV := Lib.hid HNV2
                    clear HNV2
                    by_cases h43 : c = 43
                    · have g43 : (c == 43) = true := by rw [beq_iff_eq]; exact h43
                      have HF := Lib.hid (show nb = true by rw [HNV.out, decide_eq_true (.inl h43)])
                      clear h43
                      go_wp2_with fail
                      refine HW.out.mono ?_
                      rintro x w' ⟨rfl, rfl⟩
                      go_wp2_with fail
                      go_meet
                      exact ⟨by rw [HF.out]; rfl, rfl⟩
                    have g43 : (c == 43) = false := by rw [beq_eq_false_iff_ne]; exact h43
                    by_cases h45 : c = 45
                    · have g45 : (c == 45) = true := by rw [beq_iff_eq]; exact h45
                      have HF := Lib.hid (show nb = true by rw [HNV.out, decide_eq_true (.inr h45)])
                      clear h43 h45
                      go_wp2_with fail
                      refine HW.out.mono ?_
                      rintro x w' ⟨rfl, rfl⟩
                      go_wp2_with fail
                      go_meet
                      exact ⟨by rw [HF.out]; rfl, rfl⟩
                    · have g45 : (c == 45) = false := by rw [beq_eq_false_iff_ne]; exact h45
                      have HF := Lib.hid (show nb = false by rw [HNV.out, decide_eq_false (by rintro (h | h) <;> contradiction)])
                      clear h43 h45
                      go_wp2_with fail
                      refine HW.out.mono ?_
                      rintro x w' ⟨rfl, rfl⟩
                      go_wp2_with fail
                      go_meet
                      exact ⟨by rw [HF.out]; rfl, rfl⟩
              · have HF := Lib.hid (show nb = true by rw [HNV.out]; rfl)
                go_wp2_with fail
                refine HW.out.mono ?_
                rintro x w' ⟨rfl, rfl⟩
                go_wp2_with fail
                go_meet
                exact ⟨by rw [HF.out]; rfl, rfl⟩
            case rest =>
              obtain ⟨rfl, rfl⟩ := hcut
              clear hWd HNV
              cases nb
              · have hj : e = j := by rw [← Hrun.out]; exact run_stop (fun h => by rw [HNB.out] at h; cases h.2)
                have HN := Lib.hid (show numberT s i = ⟨kd, j, 0⟩ by rw [HT.out, hj, HKD.out])
                obtain ⟨e0, e1, e2⟩ := cell3 K1.out
                obtain ⟨g0, g1, g2⟩ := set3_cells K1.out (.int .i64 kd) (.int .i64 (j : Int)) (.int .i64 0)
                have fr0 := K1.out.free 0
                have fr1 := K1.out.free 1
                have fr2 := K1.out.free 2
                go_wp2_with fail
                try clear e0 e1 e2
                refine bodyPost_ret (v := .agg #[.int .i64 kd, .int .i64 (j : Int), .int .i64 0]) (by simp [results, Try.results34, go_sem, g0, g1, g2]) rfl ⟨ret_got (by rw [HN.out]) (by rw [HN.out]; try rfl) (by rw [HN.out]), set3_below B.out _ _ _⟩
              · have Hnx := Lib.hid (show run (numC s i) s.size (j + 1) = e by rw [← Hrun.out]; exact (run_step hlt HNB.out).symm)
                have hke : j + 1 ≤ e := by rw [← Hnx.out]; exact le_run
                have HDd := Lib.hid (show dotB s j = decide (c = 46 ∨ upC c = 69) by unfold dotB; rw [HC.out])
                have HU := Lib.hid (refupper_any c w1 (by rw [← HC.out]; exact (byteAt_range _ _).1) (by rw [← HC.out]; exact (byteAt_range _ _).2))
                obtain ⟨u, hu⟩ : ∃ u, upC c = u := ⟨_, rfl⟩
                rw [hu] at HU HDd
                clear hu
                cases o
                · by_cases h46 : c = 46
                  · have g46 : (c == 46) = true := by rw [beq_iff_eq]; exact h46
                    have HK := Lib.hid (kind_up hij HO.out (by rw [HDd.out, decide_eq_true (.inl h46)]))
                    clear h46
                    go_wp2_with fail
                    go_roundg (gk - 1)
                    case rel => exact ⟨j + 1, by omega, hke, by go_num, by omega, by rw [HK.out], Hnx, rfl⟩
                    case measure => omega
                  · have g46 : (c == 46) = false := by rw [beq_eq_false_iff_ne]; exact h46
                    by_cases h69 : u = 69
                    · have g69 : (u == 69) = true := by rw [beq_iff_eq]; exact h69
                      have HK := Lib.hid (kind_up hij HO.out (by rw [HDd.out, decide_eq_true (.inr h69)]))
                      clear h46 h69
                      go_wp2_with fail
                      refine HU.out.mono ?_
                      rintro x w' ⟨rfl, rfl⟩
                      go_wp2_with fail
                      go_roundg (gk - 1)
                      case rel => exact ⟨j + 1, by omega, hke, by go_num, by omega, by rw [HK.out], Hnx, rfl⟩
                      case measure => omega
                    · have g69 : (u == 69) = false := by rw [beq_eq_false_iff_ne]; exact h69
                      have HK := Lib.hid ((kind_keep hij (.inr (by rw [HDd.out, decide_eq_false (by rintro (h | h) <;> contradiction)]))).trans HKD.out)
                      clear h46 h69
                      go_wp2_with fail
                      refine HU.out.mono ?_
                      rintro x w' ⟨rfl, rfl⟩
                      go_wp2_with fail
                      go_roundg (gk - 1)
                      case rel => exact ⟨j + 1, by omega, hke, by go_num, by omega, by rw [HK.out], Hnx, rfl⟩
                      case measure => omega
                · have HK := Lib.hid ((kind_keep hij (.inl HO.out)).trans HKD.out)
                  go_wp2_with fail
                  go_roundg (gk - 1)
                  case rel => exact ⟨j + 1, by omega, hke, by go_num, by omega, by rw [HK.out], Hnx, rfl⟩
                  case measure => omega
        · obtain rfl : j = s.size := by omega
          have hje2 : e = s.size := by omega
          have HN := Lib.hid (show numberT s i = ⟨kindAt s i s.size, s.size, 0⟩ by rw [HT.out, hje2])
          obtain ⟨kd, hkd⟩ : ∃ kd, kindAt s i s.size = kd := ⟨_, rfl⟩
          have HN2 := HN.out
          rw [hkd] at HN2 ⊢
          have HN := Lib.hid HN2
          clear hkd HN2
          obtain ⟨e0, e1, e2⟩ := cell3 K1.out
          obtain ⟨g0, g1, g2⟩ := set3_cells K1.out (.int .i64 kd) (.int .i64 (s.size : Int)) (.int .i64 0)
          have fr0 := K1.out.free 0
          have fr1 := K1.out.free 1
          have fr2 := K1.out.free 2
          go_wp2_with fail
          try clear e0 e1 e2
          refine bodyPost_ret (v := .agg #[.int .i64 kd, .int .i64 (s.size : Int), .int .i64 0]) (by simp [results, Try.results34, go_sem, g0, g1, g2]) rfl ⟨ret_got (by rw [HN.out]) (by rw [HN.out]; try rfl) (by rw [HN.out]), set3_below B.out _ _ _⟩
end Go.Proofs.Ytjhgibdebcapfaa
