/- The document's answer: Skip. -/
import Derived.Test.YtjhgibdebcapfaaScanRefN
namespace Go.Proofs.Ytjhgibdebcapfaa
open Go.RowKit
set_option linter.unusedSimpArgs false
set_option linter.unusedVariables false

def leftV (g : Left) : Value := .agg #[.int .i64 (g.stop : Int), .bool g.line, .int .i64 g.err]
theorem ret_left {a c : Int} {b : Bool} {g : Left} (h1 : (g.stop : Int) = a) (h2 : g.line = b) (h3 : g.err = c) : Ending.returned (.agg #[.int .i64 a, .bool b, .int .i64 c]) = .returned (leftV g) := by
  subst h1; subst h2; subst h3; rfl
theorem nlIn_zero (s : ByteArray) (i : Nat) : nlIn s i i = false := by unfold nlIn; rw [Nat.sub_self]; rfl
theorem nlIn_succ (s : ByteArray) {i j : Nat} (h : i ≤ j) : nlIn s i (j + 1) = (nlIn s i j || decide (byteAt s j = 10)) := by
  unfold nlIn
  rw [show j + 1 - i = (j - i) + 1 by omega, List.range'_concat, List.any_append]
  simp only [List.any_cons, List.any_nil, Bool.or_false]
  rw [show i + 1 * (j - i) = j by omega]
theorem skip_blank {s : ByteArray} {i : Nat} {c : Int} (hc : byteAt s i = c) (h : c = 9 ∨ c = 13 ∨ c = 32) : skipT s i = ⟨i + 1, false, 0⟩ := by unfold skipT; rw [hc, if_pos h]
theorem skip_nl {s : ByteArray} {i : Nat} (hc : byteAt s i = 10) : skipT s i = ⟨i + 1, true, 0⟩ := by unfold skipT; rw [hc, if_neg (by decide), if_pos rfl]
theorem skip_no {s : ByteArray} {i : Nat} {c : Int} (hc : byteAt s i = c) (h : ¬ (c = 9 ∨ c = 13 ∨ c = 32)) (h2 : c ≠ 10) (h3 : c ≠ 47) : skipT s i = ⟨i, false, 0⟩ := by unfold skipT; rw [hc, if_neg h, if_neg h2, if_pos h3]
theorem skip_line2 {s : ByteArray} {i : Nat} (hc : byteAt s i = 47) (h : byteAt s (i + 1) = 47) : skipT s i = ⟨run (fun k => !decide (byteAt s k = 10)) s.size (i + 2), false, 0⟩ := by
  unfold skipT; rw [hc, if_neg (by decide), if_neg (by decide), if_neg (by decide), if_pos h]
theorem skip_slash {s : ByteArray} {i : Nat} (hc : byteAt s i = 47) (h : byteAt s (i + 1) ≠ 47) (h2 : byteAt s (i + 1) ≠ 42) : skipT s i = ⟨i, false, 0⟩ := by
  unfold skipT; rw [hc, if_neg (by decide), if_neg (by decide), if_neg (by decide), if_neg h, if_pos h2]
theorem skip_com {s : ByteArray} {i e : Nat} (hc : byteAt s i = 47) (h2 : byteAt s (i + 1) = 42) (he : run (comC s) s.size (i + 2) = e) : skipT s i = if s.size ≤ e + 1 then ⟨0, false, 5⟩ else ⟨e + 2, nlIn s (i + 2) e, 0⟩ := by
  unfold skipT
  rw [hc, if_neg (by decide), if_neg (by decide), if_neg (by decide), if_neg (by rw [h2]; decide), if_neg (fun h => h h2), he]
theorem set3L_cells {w : World} {b : Nat} {a0 a1 a2 : Value} {T : TypeId} (h : BlockAt w b #[a0, a1, a2] T) (v0 v1 v2 : Value) :
    BlockAt (((w.setCell ⟨b, 0, none⟩ v0).setCell ⟨b, 1, none⟩ v1).setCell ⟨b, 2, none⟩ v2) b #[v0, v1, v2] T := by
  have k := ((h.set 0 v0).set 1 v1).set 2 v2
  exact k
set_option maxHeartbeats 8000000 in
set_option maxRecDepth 100000 in
theorem refskip_any (s : ByteArray) (i : Nat) (w : World) (hs : s.size ≤ 4010) (hi : i < s.size) :
    Calls Try.prog 16 #[.string s, .int .i64 i] w fun e w' => e = .returned (leftV (skipT s i)) ∧ Below w.heap.size w w' := by
  obtain ⟨w1, hw⟩ : ∃ w1, w.alloc (.cells #[.int .i64 0, .bool false, .int .i64 0] 42) = w1 := ⟨_, rfl⟩
  obtain ⟨k1, q1, z1⟩ := box_new hw
  have B := Lib.hid q1
  have K1 := Lib.hid k1
  have Z1 := Lib.hid z1
  clear k1 q1 z1
  obtain ⟨c, hc⟩ : ∃ c : Int, (s[i].toNat : Int) = c := ⟨_, rfl⟩
  have HC := Lib.hid ((byteAt_eq hi).trans hc)
  by_cases hbl : c = 9 ∨ c = 13 ∨ c = 32
  · have HN := Lib.hid (skip_blank HC.out hbl)
    rcases hbl with h | h | h
    · have g9 : (c == 9) = true := by rw [h]; rfl
      clear h
      go_enter Try.func16, Try.ntmps16
      obtain ⟨e0, e1, e2⟩ := cell3 K1.out
      obtain ⟨g0, g1, g2⟩ := set3_cells K1.out (.int .i64 ((i : Int) + 1)) (.bool false) (.int .i64 0)
      have fr0 := K1.out.free 0
      have fr1 := K1.out.free 1
      have fr2 := K1.out.free 2
      go_wp2_with fail
      try clear e0 e1 e2
      refine bodyPost_ret (v := .agg #[.int .i64 ((i : Int) + 1), .bool false, .int .i64 0]) (by simp [results, Try.results16, go_sem, g0, g1, g2]) rfl ⟨ret_left (by rw [HN.out]; try rfl) (by rw [HN.out]) (by rw [HN.out]), set3_below B.out _ _ _⟩
    · have g9 : (c == 9) = false := by rw [h]; rfl
      have g13 : (c == 13) = true := by rw [h]; rfl
      clear h
      go_enter Try.func16, Try.ntmps16
      obtain ⟨e0, e1, e2⟩ := cell3 K1.out
      obtain ⟨g0, g1, g2⟩ := set3_cells K1.out (.int .i64 ((i : Int) + 1)) (.bool false) (.int .i64 0)
      have fr0 := K1.out.free 0
      have fr1 := K1.out.free 1
      have fr2 := K1.out.free 2
      go_wp2_with fail
      try clear e0 e1 e2
      refine bodyPost_ret (v := .agg #[.int .i64 ((i : Int) + 1), .bool false, .int .i64 0]) (by simp [results, Try.results16, go_sem, g0, g1, g2]) rfl ⟨ret_left (by rw [HN.out]; try rfl) (by rw [HN.out]) (by rw [HN.out]), set3_below B.out _ _ _⟩
    · have g9 : (c == 9) = false := by rw [h]; rfl
      have g13 : (c == 13) = false := by rw [h]; rfl
      have g32 : (c == 32) = true := by rw [h]; rfl
      clear h
      go_enter Try.func16, Try.ntmps16
      obtain ⟨e0, e1, e2⟩ := cell3 K1.out
      obtain ⟨g0, g1, g2⟩ := set3_cells K1.out (.int .i64 ((i : Int) + 1)) (.bool false) (.int .i64 0)
      have fr0 := K1.out.free 0
      have fr1 := K1.out.free 1
      have fr2 := K1.out.free 2
      go_wp2_with fail
      try clear e0 e1 e2
      refine bodyPost_ret (v := .agg #[.int .i64 ((i : Int) + 1), .bool false, .int .i64 0]) (by simp [results, Try.results16, go_sem, g0, g1, g2]) rfl ⟨ret_left (by rw [HN.out]; try rfl) (by rw [HN.out]) (by rw [HN.out]), set3_below B.out _ _ _⟩
  have g9 : (c == 9) = false := by rw [beq_eq_false_iff_ne]; omega
  have g13 : (c == 13) = false := by rw [beq_eq_false_iff_ne]; omega
  have g32 : (c == 32) = false := by rw [beq_eq_false_iff_ne]; omega
  by_cases h10 : c = 10
  · have HN := Lib.hid (skip_nl (HC.out.trans h10))
    have g10 : (c == 10) = true := by rw [h10]; rfl
    clear h10 hbl
    go_enter Try.func16, Try.ntmps16
    obtain ⟨e0, e1, e2⟩ := cell3 K1.out
    obtain ⟨g0, g1, g2⟩ := set3_cells K1.out (.int .i64 ((i : Int) + 1)) (.bool true) (.int .i64 0)
    have fr0 := K1.out.free 0
    have fr1 := K1.out.free 1
    have fr2 := K1.out.free 2
    go_wp2_with fail
    try clear e0 e1 e2
    refine bodyPost_ret (v := .agg #[.int .i64 ((i : Int) + 1), .bool true, .int .i64 0]) (by simp [results, Try.results16, go_sem, g0, g1, g2]) rfl ⟨ret_left (by rw [HN.out]; try rfl) (by rw [HN.out]) (by rw [HN.out]), set3_below B.out _ _ _⟩
  have g10 : (c == 10) = false := by rw [beq_eq_false_iff_ne]; exact h10
  by_cases h47 : c = 47
  rotate_left
  · have HN := Lib.hid (skip_no HC.out hbl h10 h47)
    have g47 : (c == 47) = false := by rw [beq_eq_false_iff_ne]; exact h47
    have n47 : (c != 47) = true := by rw [bne, g47]; rfl
    clear h10 hbl h47
    go_enter Try.func16, Try.ntmps16
    obtain ⟨e0, e1, e2⟩ := cell3 K1.out
    obtain ⟨g0, g1, g2⟩ := set3_cells K1.out (.int .i64 (i : Int)) (.bool false) (.int .i64 0)
    have fr0 := K1.out.free 0
    have fr1 := K1.out.free 1
    have fr2 := K1.out.free 2
    go_wp2_with fail
    try clear e0 e1 e2
    refine bodyPost_ret (v := .agg #[.int .i64 (i : Int), .bool false, .int .i64 0]) (by simp [results, Try.results16, go_sem, g0, g1, g2]) rfl ⟨ret_left (by rw [HN.out]; try rfl) (by rw [HN.out]) (by rw [HN.out]), set3_below B.out _ _ _⟩
  have g47 : (c == 47) = true := by rw [h47]; rfl
  have n47 : (c != 47) = false := by rw [bne, g47]; rfl
  have HC47 := Lib.hid (HC.out.trans h47)
  clear h10 hbl h47 HC
  have HA := at_any s (i + 1) w1 (by omega)
  have hni : ((i + 1 : Nat) : Int) = (i : Int) + 1 := by omega
  rw [hni] at HA
  clear hni
  obtain ⟨d, hd⟩ : ∃ d, byteAt s (i + 1) = d := ⟨_, rfl⟩
  rw [hd] at HA
  have HAA := Lib.hid HA
  have HD := Lib.hid hd
  clear HA hd
  by_cases h47 : d = 47
  · have d47 : (d == 47) = true := by rw [h47]; rfl
    have hi2 : i + 2 ≤ s.size := by have := byte_lt (s := s) (k := i + 1) (by rw [HD.out, h47]; decide); omega
    obtain ⟨e, he⟩ : ∃ e, run (fun k => !decide (byteAt s k = 10)) s.size (i + 2) = e := ⟨_, rfl⟩
    have HE := Lib.hid he
    have e1 : i + 2 ≤ e := by rw [← he]; exact le_run
    have e2 : e ≤ s.size := by rw [← he]; exact run_le hi2
    have HN := Lib.hid (show skipT s i = ⟨e, false, 0⟩ by rw [skip_line2 HC47.out (HD.out.trans h47), he])
    clear h47 he
    go_enter Try.func16, Try.ntmps16
    go_wp2_with fail
    clear hw
    refine HAA.out.mono ?_
    rintro x w' ⟨rfl, rfl⟩
    go_wp2_with fail
    go_loop [6] (fun v => ∃ k : Nat, k ≤ e ∧ v = .int .i64 k ∧ Hid (run (fun k => !decide (byteAt s k = 10)) s.size k = e)) (fun v => s.size - (intOf v).toNat)
    case atStart => exact ⟨i + 2, e1, by go_num, HE⟩
    case round =>
      obtain ⟨k, hk, rfl, Hrun⟩ := hrel
      by_cases hlt : k < s.size
      · obtain ⟨b, hb⟩ : ∃ b : Int, (s[k].toNat : Int) = b := ⟨_, rfl⟩
        have HB := Lib.hid ((byteAt_eq hlt).trans hb)
        by_cases h10 : b = 10
        · have b10 : (b == 10) = true := by rw [h10]; rfl
          have nb10 : (b != 10) = false := by rw [bne, b10]; rfl
          have hke : k = e := by rw [← Hrun.out]; exact (run_stop (fun h => by have h2 := h.2; rw [HB.out, decide_eq_true h10] at h2; cases h2)).symm
          subst hke
          clear h10
          obtain ⟨e0, e1, e2⟩ := cell3 K1.out
          obtain ⟨g0, g1, g2⟩ := set3_cells K1.out (.int .i64 (k : Int)) (.bool false) (.int .i64 0)
          have fr0 := K1.out.free 0
          have fr1 := K1.out.free 1
          have fr2 := K1.out.free 2
          go_wp2_with fail
          try clear e0 e1 e2
          refine bodyPost_ret (v := .agg #[.int .i64 (k : Int), .bool false, .int .i64 0]) (by simp [results, Try.results16, go_sem, g0, g1, g2]) rfl ⟨ret_left (by rw [HN.out]; try rfl) (by rw [HN.out]) (by rw [HN.out]), set3_below B.out _ _ _⟩
        · have b10 : (b == 10) = false := by rw [beq_eq_false_iff_ne]; exact h10
          have nb10 : (b != 10) = true := by rw [bne, b10]; rfl
          have Hnx := Lib.hid (show run (fun k => !decide (byteAt s k = 10)) s.size (k + 1) = e by rw [← Hrun.out]; exact (run_step hlt (by rw [HB.out, decide_eq_false h10]; rfl)).symm)
          have hke : k + 1 ≤ e := by rw [← Hnx.out]; exact le_run
          clear h10
          go_wp2_with fail
          go_round
          case rel => exact ⟨k + 1, hke, by go_num, Hnx⟩
          case measure => simp [intOf]; omega
      · have hke : k = e := by omega
        subst hke
        obtain ⟨e0, e1, e2⟩ := cell3 K1.out
        obtain ⟨g0, g1, g2⟩ := set3_cells K1.out (.int .i64 (k : Int)) (.bool false) (.int .i64 0)
        have fr0 := K1.out.free 0
        have fr1 := K1.out.free 1
        have fr2 := K1.out.free 2
        go_wp2_with fail
        try clear e0 e1 e2
        refine bodyPost_ret (v := .agg #[.int .i64 (k : Int), .bool false, .int .i64 0]) (by simp [results, Try.results16, go_sem, g0, g1, g2]) rfl ⟨ret_left (by rw [HN.out]; try rfl) (by rw [HN.out]) (by rw [HN.out]), set3_below B.out _ _ _⟩
  have d47 : (d == 47) = false := by rw [beq_eq_false_iff_ne]; exact h47
  by_cases h42 : d = 42
  rotate_left
  · have d42 : (d == 42) = false := by rw [beq_eq_false_iff_ne]; exact h42
    have n42 : (d != 42) = true := by rw [bne, d42]; rfl
    have HN := Lib.hid (skip_slash HC47.out (by rw [HD.out]; exact h47) (by rw [HD.out]; exact h42))
    clear h47 h42
    go_enter Try.func16, Try.ntmps16
    go_wp2_with fail
    clear hw
    refine HAA.out.mono ?_
    rintro x w' ⟨rfl, rfl⟩
    go_wp2_with fail
    refine HAA.out.mono ?_
    rintro x w' ⟨rfl, rfl⟩
    obtain ⟨e0, e1, e2⟩ := cell3 K1.out
    obtain ⟨g0, g1, g2⟩ := set3_cells K1.out (.int .i64 (i : Int)) (.bool false) (.int .i64 0)
    have fr0 := K1.out.free 0
    have fr1 := K1.out.free 1
    have fr2 := K1.out.free 2
    go_wp2_with fail
    try clear e0 e1 e2
    refine bodyPost_ret (v := .agg #[.int .i64 (i : Int), .bool false, .int .i64 0]) (by simp [results, Try.results16, go_sem, g0, g1, g2]) rfl ⟨ret_left (by rw [HN.out]; try rfl) (by rw [HN.out]) (by rw [HN.out]), set3_below B.out _ _ _⟩
  have d42 : (d == 42) = true := by rw [h42]; rfl
  have n42 : (d != 42) = false := by rw [bne, d42]; rfl
  have hi2 : i + 2 ≤ s.size := by have := byte_lt (s := s) (k := i + 1) (by rw [HD.out, h42]; decide); omega
  obtain ⟨e, he⟩ : ∃ e, run (comC s) s.size (i + 2) = e := ⟨_, rfl⟩
  have HE := Lib.hid he
  have e1 : i + 2 ≤ e := by rw [← he]; exact le_run
  have e2 : e ≤ s.size := by rw [← he]; exact run_le hi2
  have HT := Lib.hid (skip_com HC47.out (HD.out.trans h42) he)
  clear h47 h42 he
  go_enter Try.func16, Try.ntmps16
  go_wp2_with fail
  clear hw
  refine HAA.out.mono ?_
  rintro x w' ⟨rfl, rfl⟩
  go_wp2_with fail
  refine HAA.out.mono ?_
  rintro x w' ⟨rfl, rfl⟩
  go_wp2_with fail
  have K2n := BlockAt.new w1 #[.int .i64 0, .bool false, .int .i64 0] 42
  have q2 : Below w1.heap.size w1 (w1.alloc (.cells #[.int .i64 0, .bool false, .int .i64 0] 42)) := (Below.refl _ _).alloc (Nat.le_refl _) _
  have K1b := Lib.hid (K1.out.below q2)
  have B2 := Lib.hid (B.out.trans (q2.mono B.out.size))
  rw [Z1.out] at K2n ⊢
  have K2 := Lib.hid K2n
  clear q2 K2n
  generalize w1.alloc (.cells #[.int .i64 0, .bool false, .int .i64 0] 42) = w2 at *
  clear K1 HAA
  go_loopw [6] (fun v wr => ∃ k : Nat, i + 2 ≤ k ∧ k ≤ e ∧ v = .int .i64 k ∧ Hid (run (comC s) s.size k = e) ∧ Hid (BlockAt wr w.heap.size #[.int .i64 0, .bool false, .int .i64 0] 42) ∧ Hid (BlockAt wr (w.heap.size + 1) #[.int .i64 0, .bool (nlIn s (i + 2) k), .int .i64 0] 42) ∧ Hid (Below w.heap.size w wr)) (fun v _ => s.size - (intOf v).toNat)
  case atStart => exact ⟨i + 2, Nat.le_refl _, e1, by go_num, HE, K1b, Lib.hid (by rw [nlIn_zero]; exact K2.out), B2⟩
  case round =>
    obtain ⟨k, hik, hke, rfl, Hrun, KA, KB, BR⟩ := hrel
    by_cases hlt : k + 1 < s.size
    · have hlt0 : k < s.size := by omega
      obtain ⟨b, hb⟩ : ∃ b : Int, (s[k].toNat : Int) = b := ⟨_, rfl⟩
      have HB := Lib.hid ((byteAt_eq hlt0).trans hb)
      obtain ⟨b2, hb2⟩ : ∃ b : Int, (s[k + 1].toNat : Int) = b := ⟨_, rfl⟩
      have HB2 := Lib.hid ((byteAt_eq hlt).trans hb2)
      have HCd := Lib.hid (show comC s k = !(decide (b = 42) && decide (b2 = 47)) by unfold comC; rw [HB.out, HB2.out, decide_eq_true hlt]; rfl)
      by_cases hend : b = 42 ∧ b2 = 47
      · obtain ⟨h1, h2⟩ := hend
        have g1 : (b == 42) = true := by rw [h1]; rfl
        have m1 : (b != 42) = false := by rw [bne, g1]; rfl
        have g2 : (b2 == 47) = true := by rw [h2]; rfl
        have m2 : (b2 != 47) = false := by rw [bne, g2]; rfl
        have hek : k = e := by rw [← Hrun.out]; exact (run_stop (fun h => by have h3 := h.2; rw [HCd.out, decide_eq_true h1, decide_eq_true h2] at h3; cases h3)).symm
        subst hek
        have HN := Lib.hid (show skipT s i = ⟨k + 2, nlIn s (i + 2) k, 0⟩ by rw [HT.out, if_neg (by omega)])
        obtain ⟨nl, hnl⟩ : ∃ nl, nlIn s (i + 2) k = nl := ⟨_, rfl⟩
        have HN2 := HN.out
        rw [hnl] at HN2 KB
        have HN := Lib.hid HN2
        clear hnl HN2 h1 h2
        have KA2 := Lib.hid (KA.out.other (show w.heap.size ≠ w.heap.size + 1 by omega) 0 (.int .i64 ((k : Int) + 2)))
        have BR2 := Lib.hid (BR.out.setCell (show w.heap.size ≤ w.heap.size + 1 by omega) (p := ⟨w.heap.size + 1, 0, none⟩) (.int .i64 ((k : Int) + 2)))
        obtain ⟨y0, y1, y2⟩ := cell3 KA.out
        obtain ⟨x0, x1, x2⟩ := cell3 KB.out
        have fx0 := KB.out.free 0
        have fy0 := KA.out.free 0
        have fy1 := KA.out.free 1
        have fy2 := KA.out.free 2
        obtain ⟨g0, g1', g2'⟩ := set3_cells KA2.out (.int .i64 ((k : Int) + 2)) (.bool nl) (.int .i64 0)
        go_wp2_with fail
        clear x0 x1 x2 y0 y1 y2
        refine bodyPost_ret (v := .agg #[.int .i64 ((k : Int) + 2), .bool nl, .int .i64 0]) (by simp [results, Try.results16, go_sem, g0, g1', g2']) rfl ⟨ret_left (by rw [HN.out]; try rfl) (by rw [HN.out]) (by rw [HN.out]), set3_below BR2.out _ _ _⟩
      · have hcom : comC s k = true := by
          rw [HCd.out]
          by_cases h1 : b = 42
          · rw [decide_eq_true h1, decide_eq_false (fun h => hend ⟨h1, h⟩)]; rfl
          · rw [decide_eq_false h1]; rfl
        have Hnx := Lib.hid (show run (comC s) s.size (k + 1) = e by rw [← Hrun.out]; exact (run_step hlt0 hcom).symm)
        have hke2 : k + 1 ≤ e := by rw [← Hnx.out]; exact le_run
        have HNL := Lib.hid (show nlIn s (i + 2) (k + 1) = (nlIn s (i + 2) k || decide (b = 10)) by rw [nlIn_succ s hik, HB.out])
        obtain ⟨nl, hnl⟩ : ∃ nl, nlIn s (i + 2) k = nl := ⟨_, rfl⟩
        rw [hnl] at HNL KB
        clear hnl hcom
        by_cases h1 : b = 42
        · have g1 : (b == 42) = true := by rw [h1]; rfl
          have m1 : (b != 42) = false := by rw [bne, g1]; rfl
          have h2 : b2 ≠ 47 := fun h => hend ⟨h1, h⟩
          have g2 : (b2 == 47) = false := by rw [beq_eq_false_iff_ne]; exact h2
          have m2 : (b2 != 47) = true := by rw [bne, g2]; rfl
          have g10 : (b == 10) = false := by rw [h1]; rfl
          have HNL2 := HNL.out
          rw [decide_eq_false (show ¬ b = 10 by omega)] at HNL2
          clear h1 h2 hend HNL
          cases nl
          · have HNN := Lib.hid (show false = nlIn s (i + 2) (k + 1) by rw [HNL2]; rfl)
            clear HNL2
            have KA2 := Lib.hid (KA.out.other (show w.heap.size ≠ w.heap.size + 1 by omega) 1 (.bool false))
            have KB2 := Lib.hid (KB.out.set 1 (.bool false))
            have BR2 := Lib.hid (BR.out.setCell (show w.heap.size ≤ w.heap.size + 1 by omega) (p := ⟨w.heap.size + 1, 1, none⟩) (.bool false))
            obtain ⟨x0, x1, x2⟩ := cell3 KB.out
            have fx1 := KB.out.free 1
            go_wp2_with fail
            go_roundw
            case rel => exact ⟨k + 1, by omega, hke2, by go_num, Hnx, KA2, Lib.hid (by rw [← HNN.out]; exact KB2.out), BR2⟩
            case measure => simp [intOf]; omega
          · have HNN := Lib.hid (show true = nlIn s (i + 2) (k + 1) by rw [HNL2]; rfl)
            clear HNL2
            have KA2 := Lib.hid (KA.out.other (show w.heap.size ≠ w.heap.size + 1 by omega) 1 (.bool true))
            have KB2 := Lib.hid (KB.out.set 1 (.bool true))
            have BR2 := Lib.hid (BR.out.setCell (show w.heap.size ≤ w.heap.size + 1 by omega) (p := ⟨w.heap.size + 1, 1, none⟩) (.bool true))
            obtain ⟨x0, x1, x2⟩ := cell3 KB.out
            have fx1 := KB.out.free 1
            go_wp2_with fail
            go_roundw
            case rel => exact ⟨k + 1, by omega, hke2, by go_num, Hnx, KA2, Lib.hid (by rw [← HNN.out]; exact KB2.out), BR2⟩
            case measure => simp [intOf]; omega
        · have g1 : (b == 42) = false := by rw [beq_eq_false_iff_ne]; exact h1
          have m1 : (b != 42) = true := by rw [bne, g1]; rfl
          have HNL2 := HNL.out
          clear hend HNL h1
          cases nl
          · by_cases h10 : b = 10
            · have g10 : (b == 10) = true := by rw [h10]; rfl
              rw [decide_eq_true h10] at HNL2
              clear h10
              have HNN := Lib.hid (show true = nlIn s (i + 2) (k + 1) by rw [HNL2]; rfl)
              clear HNL2
              have KA2 := Lib.hid (KA.out.other (show w.heap.size ≠ w.heap.size + 1 by omega) 1 (.bool true))
              have KB2 := Lib.hid (KB.out.set 1 (.bool true))
              have BR2 := Lib.hid (BR.out.setCell (show w.heap.size ≤ w.heap.size + 1 by omega) (p := ⟨w.heap.size + 1, 1, none⟩) (.bool true))
              obtain ⟨x0, x1, x2⟩ := cell3 KB.out
              have fx1 := KB.out.free 1
              go_wp2_with fail
              go_roundw
              case rel => exact ⟨k + 1, by omega, hke2, by go_num, Hnx, KA2, Lib.hid (by rw [← HNN.out]; exact KB2.out), BR2⟩
              case measure => simp [intOf]; omega
            · have g10 : (b == 10) = false := by rw [beq_eq_false_iff_ne]; exact h10
              rw [decide_eq_false h10] at HNL2
              clear h10
              have HNN := Lib.hid (show false = nlIn s (i + 2) (k + 1) by rw [HNL2]; rfl)
              clear HNL2
              have KA2 := Lib.hid (KA.out.other (show w.heap.size ≠ w.heap.size + 1 by omega) 1 (.bool false))
              have KB2 := Lib.hid (KB.out.set 1 (.bool false))
              have BR2 := Lib.hid (BR.out.setCell (show w.heap.size ≤ w.heap.size + 1 by omega) (p := ⟨w.heap.size + 1, 1, none⟩) (.bool false))
              obtain ⟨x0, x1, x2⟩ := cell3 KB.out
              have fx1 := KB.out.free 1
              go_wp2_with fail
              go_roundw
              case rel => exact ⟨k + 1, by omega, hke2, by go_num, Hnx, KA2, Lib.hid (by rw [← HNN.out]; exact KB2.out), BR2⟩
              case measure => simp [intOf]; omega
          · have HNN := Lib.hid (show true = nlIn s (i + 2) (k + 1) by rw [HNL2]; rfl)
            clear HNL2
            have KA2 := Lib.hid (KA.out.other (show w.heap.size ≠ w.heap.size + 1 by omega) 1 (.bool true))
            have KB2 := Lib.hid (KB.out.set 1 (.bool true))
            have BR2 := Lib.hid (BR.out.setCell (show w.heap.size ≤ w.heap.size + 1 by omega) (p := ⟨w.heap.size + 1, 1, none⟩) (.bool true))
            obtain ⟨x0, x1, x2⟩ := cell3 KB.out
            have fx1 := KB.out.free 1
            go_wp2_with fail
            go_roundw
            case rel => exact ⟨k + 1, by omega, hke2, by go_num, Hnx, KA2, Lib.hid (by rw [← HNN.out]; exact KB2.out), BR2⟩
            case measure => simp [intOf]; omega
    · have hek : k = e := by rw [← Hrun.out]; exact (run_stop (fun h => by have h3 := h.2; unfold comC at h3; rw [decide_eq_false hlt] at h3; cases h3)).symm
      subst hek
      have HN := Lib.hid (show skipT s i = ⟨0, false, 5⟩ by rw [HT.out, if_pos (by omega)])
      have hge : (s.size : Int) ≤ (k : Int) + 1 := by omega
      have hge2 : ¬ (k : Int) + 1 < (s.size : Int) := by omega
      obtain ⟨e0, e1, e2⟩ := cell3 KA.out
      obtain ⟨g0, g1, g2⟩ := set3_cells KA.out (.int .i64 0) (.bool false) (.int .i64 5)
      have fr0 := KA.out.free 0
      have fr1 := KA.out.free 1
      have fr2 := KA.out.free 2
      go_wp2_with fail
      try clear e0 e1 e2
      refine bodyPost_ret (v := .agg #[.int .i64 0, .bool false, .int .i64 5]) (by simp [results, Try.results16, go_sem, g0, g1, g2]) rfl ⟨ret_left (by rw [HN.out]; try rfl) (by rw [HN.out]) (by rw [HN.out]), set3_below BR.out _ _ _⟩
end Go.Proofs.Ytjhgibdebcapfaa
