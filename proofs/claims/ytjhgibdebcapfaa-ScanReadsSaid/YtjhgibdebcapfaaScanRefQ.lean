/- The document's answer: quoted, Token. -/
import Derived.Test.YtjhgibdebcapfaaScanRefN
namespace Go.Proofs.Ytjhgibdebcapfaa
open Go.RowKit
set_option linter.unusedSimpArgs false
set_option linter.unusedVariables false

theorem quoF_more {s : ByteArray} {q : Int} : ∀ (f g e : Nat), s.size + 1 - e ≤ f → f ≤ g → quoF s q f e = quoF s q g e
  | 0, 0, _, _, _ => rfl
  | 0, g + 1, e, h, _ => by
    unfold quoF
    rw [if_pos (by omega)]
  | f + 1, 0, _, _, h => by omega
  | f + 1, g + 1, e, h, hg => by
    unfold quoF
    by_cases h1 : s.size ≤ e
    · rw [if_pos h1, if_pos h1]
    · rw [if_neg h1, if_neg h1]
      split
      · rfl
      · simp only
        generalize hd : (if q ≠ 96 ∧ byteAt s e = 92 then e + 1 else e) = d
        have hde : e ≤ d := by rw [← hd]; split <;> omega
        split
        · rfl
        · exact quoF_more f g _ (by omega) (by omega)
theorem quo_end {s : ByteArray} {q : Int} {e : Nat} (h : s.size ≤ e) : quo s q e = none := by
  unfold quo
  cases s.size + 1 - e with
  | zero => rfl
  | succ f => unfold quoF; rw [if_pos h]
theorem quo_unf {s : ByteArray} {q : Int} {e : Nat} (h : e < s.size) : quo s q e = if byteAt s e = q then some (e + 1) else
    if q ≠ 96 ∧ byteAt s (if q ≠ 96 ∧ byteAt s e = 92 then e + 1 else e) = 10 then none else quo s q ((if q ≠ 96 ∧ byteAt s e = 92 then e + 1 else e) + 1) := by
  have x : quo s q e = quoF s q (s.size - e + 1) e := by unfold quo; rw [show s.size + 1 - e = s.size - e + 1 by omega]
  rw [x]
  unfold quoF
  rw [if_neg (by omega)]
  split
  · rfl
  · simp only
    generalize hd : (if q ≠ 96 ∧ byteAt s e = 92 then e + 1 else e) = d
    have hde : e ≤ d := by rw [← hd]; split <;> omega
    split
    · rfl
    · unfold quo
      exact (quoF_more _ _ _ (Nat.le_refl _) (by omega)).symm
theorem quo_hit {s : ByteArray} {q : Int} {e : Nat} (h : e < s.size) (hq : byteAt s e = q) : quo s q e = some (e + 1) := by rw [quo_unf h, if_pos hq]
theorem quo_raw {s : ByteArray} {q : Int} {e : Nat} (h : e < s.size) (hq : byteAt s e ≠ q) (h96 : q = 96) : quo s q e = quo s q (e + 1) := by
  rw [quo_unf h, if_neg hq, if_neg (fun g => g.1 h96), if_neg (fun g => g.1 h96)]
theorem quo_esc {s : ByteArray} {q : Int} {e : Nat} (h : e < s.size) (hq : byteAt s e ≠ q) (h96 : q ≠ 96) (h92 : byteAt s e = 92) : quo s q e = if byteAt s (e + 1) = 10 then none else quo s q (e + 2) := by
  have e1 : (if q ≠ 96 ∧ byteAt s e = 92 then e + 1 else e) = e + 1 := if_pos ⟨h96, h92⟩
  rw [quo_unf h, if_neg hq, e1]
  by_cases hn : byteAt s (e + 1) = 10
  · rw [if_pos ⟨h96, hn⟩, if_pos hn]
  · rw [if_neg (fun g => hn g.2), if_neg hn]
theorem quo_one {s : ByteArray} {q : Int} {e : Nat} (h : e < s.size) (hq : byteAt s e ≠ q) (h96 : q ≠ 96) (h92 : byteAt s e ≠ 92) : quo s q e = if byteAt s e = 10 then none else quo s q (e + 1) := by
  have e1 : (if q ≠ 96 ∧ byteAt s e = 92 then e + 1 else e) = e := if_neg (fun g => h92 g.2)
  rw [quo_unf h, if_neg hq, e1]
  by_cases hn : byteAt s e = 10
  · rw [if_pos ⟨h96, hn⟩, if_pos hn]
  · rw [if_neg (fun g => hn g.2), if_neg hn]
def operN (s : ByteArray) (i : Nat) : Nat → Got
  | 0 => ⟨0, 0, 12⟩
  | n + 1 => if i + (n + 1) ≤ s.size ∧ opB (s.extract i (i + (n + 1))) = true then ⟨6, i + (n + 1), 0⟩ else operN s i n
theorem oper_three (s : ByteArray) (i : Nat) : operN s i 3 = operT s i := rfl
set_option maxHeartbeats 8000000 in
set_option maxRecDepth 100000 in
theorem refquoted_any (s : ByteArray) (i : Nat) (w : World) (hs : s.size ≤ 4010) (hi : i < s.size) :
    Calls Try.prog 35 #[.string s, .int .i64 i] w fun e w' => e = .returned (gotV (quotedT s i)) ∧ Below w.heap.size w w' := by
  obtain ⟨w1, hw⟩ : ∃ w1, w.alloc (.cells #[.int .i64 0, .int .i64 0, .int .i64 0] 46) = w1 := ⟨_, rfl⟩
  obtain ⟨k1, q1, z1⟩ := box_new hw
  have B := Lib.hid q1
  have K1 := Lib.hid k1
  clear k1 q1 z1
  obtain ⟨q, hq⟩ : ∃ c : Int, (s[i].toNat : Int) = c := ⟨_, rfl⟩
  have HQ := Lib.hid ((byteAt_eq hi).trans hq)
  obtain ⟨R, hR⟩ : ∃ R, quo s q (i + 1) = R := ⟨_, rfl⟩
  have HR := Lib.hid hR
  have HT := Lib.hid (show quotedT s i = quoG q R by unfold quotedT; rw [HQ.out, hR])
  clear hR
  go_enter Try.func35, Try.ntmps35
  go_wp2_with fail
  clear hw
  go_loop [6] (fun v => ∃ k : Nat, i < k ∧ v = .int .i64 k ∧ Hid (quo s q k = R)) (fun v => s.size + 1 - (intOf v).toNat)
  case atStart => exact ⟨i + 1, by omega, by go_num, HR⟩
  case round =>
    obtain ⟨k, hik, rfl, Hq⟩ := hrel
    by_cases hlt : k < s.size
    · obtain ⟨c, hc⟩ : ∃ c : Int, (s[k].toNat : Int) = c := ⟨_, rfl⟩
      have HC := Lib.hid ((byteAt_eq hlt).trans hc)
      by_cases hcq : c = q
      · have g : (c == q) = true := by rw [beq_iff_eq]; exact hcq
        have g2 : (c != q) = false := by rw [bne, g]; rfl
        have HRR := Lib.hid (show R = some (k + 1) by rw [← Hq.out]; exact quo_hit hlt (HC.out.trans hcq))
        clear hcq
        have hge : ¬ (s.size : Int) ≤ (k : Int) := by omega
        by_cases h39 : q = 39
        · have g3 : (q == 39) = true := by rw [beq_iff_eq]; exact h39
          have HN := Lib.hid (show quotedT s i = ⟨4, k + 1, 0⟩ by rw [HT.out, HRR.out]; unfold quoG; rw [if_pos h39])
          clear h39
          obtain ⟨e0, e1, e2⟩ := cell3 K1.out
          obtain ⟨g0, g1, g2⟩ := set3_cells K1.out (.int .i64 4) (.int .i64 ((k : Int) + 1)) (.int .i64 0)
          have fr0 := K1.out.free 0
          have fr1 := K1.out.free 1
          have fr2 := K1.out.free 2
          go_wp2_with fail
          try clear e0 e1 e2
          refine bodyPost_ret (v := .agg #[.int .i64 4, .int .i64 ((k : Int) + 1), .int .i64 0]) (by simp [results, Try.results35, go_sem, g0, g1, g2]) rfl ⟨ret_got (by rw [HN.out]) (by rw [HN.out]; try rfl) (by rw [HN.out]), set3_below B.out _ _ _⟩
        · have g3 : (q == 39) = false := by rw [beq_eq_false_iff_ne]; exact h39
          have HN := Lib.hid (show quotedT s i = ⟨5, k + 1, 0⟩ by rw [HT.out, HRR.out]; unfold quoG; rw [if_neg h39])
          clear h39
          obtain ⟨e0, e1, e2⟩ := cell3 K1.out
          obtain ⟨g0, g1, g2⟩ := set3_cells K1.out (.int .i64 5) (.int .i64 ((k : Int) + 1)) (.int .i64 0)
          have fr0 := K1.out.free 0
          have fr1 := K1.out.free 1
          have fr2 := K1.out.free 2
          go_wp2_with fail
          try clear e0 e1 e2
          refine bodyPost_ret (v := .agg #[.int .i64 5, .int .i64 ((k : Int) + 1), .int .i64 0]) (by simp [results, Try.results35, go_sem, g0, g1, g2]) rfl ⟨ret_got (by rw [HN.out]) (by rw [HN.out]; try rfl) (by rw [HN.out]), set3_below B.out _ _ _⟩
      have g : (c == q) = false := by rw [beq_eq_false_iff_ne]; exact hcq
      have g2 : (c != q) = true := by rw [bne, g]; rfl
      have hcq2 : byteAt s k ≠ q := by rw [HC.out]; exact hcq
      by_cases h96 : q = 96
      · have g96 : (q == 96) = true := by rw [beq_iff_eq]; exact h96
        have n96 : (q != 96) = false := by rw [bne, g96]; rfl
        have Hnx := Lib.hid (show quo s q (k + 1) = R by rw [← Hq.out]; exact (quo_raw hlt hcq2 h96).symm)
        clear h96 hcq hcq2
        go_wp2_with fail
        go_round
        case rel => exact ⟨k + 1, by omega, by go_num, Hnx⟩
        case measure => simp [intOf]; omega
      have g96 : (q == 96) = false := by rw [beq_eq_false_iff_ne]; exact h96
      have n96 : (q != 96) = true := by rw [bne, g96]; rfl
      by_cases h92 : c = 92
      · have g92 : (c == 92) = true := by rw [beq_iff_eq]; exact h92
        have hE := (Hq.out.symm.trans (quo_esc hlt hcq2 h96 (HC.out.trans h92)))
        have HA := Lib.hid (at_any s (k + 1) w1 (by omega))
        have hni : ((k + 1 : Nat) : Int) = (k : Int) + 1 := by omega
        have HA := by simpa only [hni] using HA
        clear hni
        obtain ⟨d, hd⟩ : ∃ d, byteAt s (k + 1) = d := ⟨_, rfl⟩
        rw [hd] at hE HA
        clear hd h92 hcq hcq2 h96
        by_cases h10 : d = 10
        · have g10 : (d == 10) = true := by rw [beq_iff_eq]; exact h10
          rw [if_pos h10] at hE
          have HN := Lib.hid (show quotedT s i = ⟨0, 0, 5⟩ by rw [HT.out, hE]; rfl)
          clear h10 hE
          go_wp2_with fail
          refine HA.out.mono ?_
          rintro x w' ⟨rfl, rfl⟩
          obtain ⟨e0, e1, e2⟩ := cell3 K1.out
          obtain ⟨g0, g1, g2⟩ := set3_cells K1.out (.int .i64 0) (.int .i64 0) (.int .i64 5)
          have fr0 := K1.out.free 0
          have fr1 := K1.out.free 1
          have fr2 := K1.out.free 2
          go_wp2_with fail
          try clear e0 e1 e2
          refine bodyPost_ret (v := .agg #[.int .i64 0, .int .i64 0, .int .i64 5]) (by simp [results, Try.results35, go_sem, g0, g1, g2]) rfl ⟨ret_got (by rw [HN.out]) (by rw [HN.out]; try rfl) (by rw [HN.out]), set3_below B.out _ _ _⟩
        · have g10 : (d == 10) = false := by rw [beq_eq_false_iff_ne]; exact h10
          rw [if_neg h10] at hE
          have Hnx := Lib.hid hE.symm
          clear h10 hE
          go_wp2_with fail
          refine HA.out.mono ?_
          rintro x w' ⟨rfl, rfl⟩
          go_wp2_with fail
          go_round
          case rel => exact ⟨k + 2, by omega, by go_num, Hnx⟩
          case measure => simp [intOf]; omega
      · have g92 : (c == 92) = false := by rw [beq_eq_false_iff_ne]; exact h92
        have hE := (Hq.out.symm.trans (quo_one hlt hcq2 h96 (by rw [HC.out]; exact h92)))
        have HA := at_any s k w1 (by omega)
        rw [HC.out] at hE HA
        have HA := Lib.hid HA
        clear h92 hcq hcq2 h96
        by_cases h10 : c = 10
        · have g10 : (c == 10) = true := by rw [beq_iff_eq]; exact h10
          rw [if_pos h10] at hE
          have HN := Lib.hid (show quotedT s i = ⟨0, 0, 5⟩ by rw [HT.out, hE]; rfl)
          clear h10 hE
          go_wp2_with fail
          refine HA.out.mono ?_
          rintro x w' ⟨rfl, rfl⟩
          obtain ⟨e0, e1, e2⟩ := cell3 K1.out
          obtain ⟨g0, g1, g2⟩ := set3_cells K1.out (.int .i64 0) (.int .i64 0) (.int .i64 5)
          have fr0 := K1.out.free 0
          have fr1 := K1.out.free 1
          have fr2 := K1.out.free 2
          go_wp2_with fail
          try clear e0 e1 e2
          refine bodyPost_ret (v := .agg #[.int .i64 0, .int .i64 0, .int .i64 5]) (by simp [results, Try.results35, go_sem, g0, g1, g2]) rfl ⟨ret_got (by rw [HN.out]) (by rw [HN.out]; try rfl) (by rw [HN.out]), set3_below B.out _ _ _⟩
        · have g10 : (c == 10) = false := by rw [beq_eq_false_iff_ne]; exact h10
          rw [if_neg h10] at hE
          have Hnx := Lib.hid hE.symm
          clear h10 hE
          go_wp2_with fail
          refine HA.out.mono ?_
          rintro x w' ⟨rfl, rfl⟩
          go_wp2_with fail
          go_round
          case rel => exact ⟨k + 1, by omega, by go_num, Hnx⟩
          case measure => simp [intOf]; omega
    · have HN := Lib.hid (show quotedT s i = ⟨0, 0, 5⟩ by rw [HT.out, ← Hq.out, quo_end (by omega)]; rfl)
      have hge : (s.size : Int) ≤ (k : Int) := by omega
      obtain ⟨e0, e1, e2⟩ := cell3 K1.out
      obtain ⟨g0, g1, g2⟩ := set3_cells K1.out (.int .i64 0) (.int .i64 0) (.int .i64 5)
      have fr0 := K1.out.free 0
      have fr1 := K1.out.free 1
      have fr2 := K1.out.free 2
      go_wp2_with fail
      try clear e0 e1 e2
      refine bodyPost_ret (v := .agg #[.int .i64 0, .int .i64 0, .int .i64 5]) (by simp [results, Try.results35, go_sem, g0, g1, g2]) rfl ⟨ret_got (by rw [HN.out]) (by rw [HN.out]; try rfl) (by rw [HN.out]), set3_below B.out _ _ _⟩
end Go.Proofs.Ytjhgibdebcapfaa
