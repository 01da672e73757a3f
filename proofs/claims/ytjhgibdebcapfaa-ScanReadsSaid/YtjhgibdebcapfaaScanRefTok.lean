/- The document's answer: Token. -/
import Derived.Test.YtjhgibdebcapfaaScanRefQ
namespace Go.Proofs.Ytjhgibdebcapfaa
open Go.RowKit
set_option linter.unusedSimpArgs false
set_option linter.unusedVariables false

set_option maxHeartbeats 8000000 in
set_option maxRecDepth 100000 in
theorem reftoken_any (s : ByteArray) (i : Nat) (w : World) (hs : s.size ≤ 4010) (hi : i < s.size) :
    Calls Try.prog 18 #[.string s, .int .i64 i] w fun e w' => e = .returned (gotV (tokT s i)) ∧ Below w.heap.size w w' := by
  obtain ⟨w1, hw⟩ : ∃ w1, w.alloc (.cells #[.int .i64 0, .int .i64 0, .int .i64 0] 46) = w1 := ⟨_, rfl⟩
  obtain ⟨k1, q1, z1⟩ := box_new hw
  have B := Lib.hid q1
  have K1 := Lib.hid k1
  clear k1 q1 z1
  obtain ⟨c, hc⟩ : ∃ c : Int, (s[i].toNat : Int) = c := ⟨_, rfl⟩
  have hbc := (byteAt_eq hi).trans hc
  have HT := Lib.hid (show tokT s i = if letB c = true then nameT s i else if (digB c || (decide (c = 46) && digB (byteAt s (i + 1)))) = true then numberT s i else if decide (c = 39 ∨ c = 34 ∨ c = 96) = true then quotedT s i else operT s i by unfold tokT isNum isQuo; rw [hbc])
  have HL := refLetter_any c w1
  have HD := refdigit_any c w1
  clear hbc
  cases hlet : letB c <;> rw [hlet] at HL <;> have HLL := Lib.hid HL <;> clear HL
  rotate_left
  · have HTT := Lib.hid (show tokT s i = nameT s i by rw [HT.out, hlet]; rfl)
    have HCC := refname_any s i w1 hs hi
    obtain ⟨g, hg⟩ : ∃ g, nameT s i = g := ⟨_, rfl⟩
    rw [hg] at HCC
    have HN := Lib.hid (HTT.out.trans hg)
    have HH := Lib.hid HCC
    clear HCC hg hlet HD
    go_enter Try.func18, Try.ntmps18
    go_wp2_with fail
    clear hw
    refine HLL.out.mono ?_
    rintro x w' ⟨rfl, rfl⟩
    go_wp2_with fail
    refine HH.out.mono ?_
    rintro x w2 ⟨rfl, bb⟩
    unfold gotV
    have K2 := K1.out.below bb
    have B2 := Lib.hid (B.out.trans (bb.mono B.out.size))
    obtain ⟨gk, gs, ge⟩ := g
    clear bb
    obtain ⟨e0, e1, e2⟩ := cell3 K2
    obtain ⟨g0, g1, g2⟩ := set3_cells K2 (.int .i64 gk) (.int .i64 (gs : Int)) (.int .i64 ge)
    have fr0 := K2.free 0
    have fr1 := K2.free 1
    have fr2 := K2.free 2
    go_wp2_with fail
    try clear e0 e1 e2
    refine bodyPost_ret (v := .agg #[.int .i64 gk, .int .i64 (gs : Int), .int .i64 ge]) (by simp [results, Try.results18, go_sem, g0, g1, g2]) rfl ⟨ret_got (by rw [HN.out]) (by rw [HN.out]; try rfl) (by rw [HN.out]), set3_below B2.out _ _ _⟩
  have HA := Lib.hid (at_any s (i + 1) w1 (by omega))
  have hni : ((i + 1 : Nat) : Int) = (i : Int) + 1 := by omega
  have HA := by simpa only [hni] using HA
  clear hni
  have HD2 := refdigit_any (byteAt s (i + 1)) w1
  have HT1 := HT.out
  rw [hlet, if_neg (by decide)] at HT1
  clear hlet HT
  cases hdig : digB c <;> rw [hdig] at HD HT1 <;> have HDD := Lib.hid HD <;> clear HD hdig
  rotate_left
  · have HTT := Lib.hid (show tokT s i = numberT s i by rw [HT1]; rfl)
    clear HT1
    have HCC := refnumber_any s i w1 hs hi
    obtain ⟨g, hg⟩ : ∃ g, numberT s i = g := ⟨_, rfl⟩
    rw [hg] at HCC
    have HN := Lib.hid (HTT.out.trans hg)
    have HH := Lib.hid HCC
    clear HCC hg HD2
    go_enter Try.func18, Try.ntmps18
    go_wp2_with fail
    clear hw
    refine HLL.out.mono ?_
    rintro x w' ⟨rfl, rfl⟩
    go_wp2_with fail
    refine HDD.out.mono ?_
    rintro x w' ⟨rfl, rfl⟩
    go_wp2_with fail
    refine HH.out.mono ?_
    rintro x w2 ⟨rfl, bb⟩
    unfold gotV
    have K2 := K1.out.below bb
    have B2 := Lib.hid (B.out.trans (bb.mono B.out.size))
    obtain ⟨gk, gs, ge⟩ := g
    clear bb
    obtain ⟨e0, e1, e2⟩ := cell3 K2
    obtain ⟨g0, g1, g2⟩ := set3_cells K2 (.int .i64 gk) (.int .i64 (gs : Int)) (.int .i64 ge)
    have fr0 := K2.free 0
    have fr1 := K2.free 1
    have fr2 := K2.free 2
    go_wp2_with fail
    try clear e0 e1 e2
    refine bodyPost_ret (v := .agg #[.int .i64 gk, .int .i64 (gs : Int), .int .i64 ge]) (by simp [results, Try.results18, go_sem, g0, g1, g2]) rfl ⟨ret_got (by rw [HN.out]) (by rw [HN.out]; try rfl) (by rw [HN.out]), set3_below B2.out _ _ _⟩
  by_cases h46 : c = 46
  · have g46 : (c == 46) = true := by rw [beq_iff_eq]; exact h46
    have n39 : (c == 39) = false := by rw [h46]; rfl
    have n34 : (c == 34) = false := by rw [h46]; rfl
    have n96 : (c == 96) = false := by rw [h46]; rfl
    rw [decide_eq_true h46, decide_eq_false (show ¬ (c = 39 ∨ c = 34 ∨ c = 96) by omega)] at HT1
    clear h46
    obtain ⟨d, hd⟩ : ∃ d, byteAt s (i + 1) = d := ⟨_, rfl⟩
    rw [hd] at HA HD2 HT1
    clear hd
    cases hdig : digB d <;> rw [hdig] at HD2 HT1 <;> have HD3 := Lib.hid HD2 <;> clear HD2 hdig
    rotate_left
    · have HTT := Lib.hid (show tokT s i = numberT s i by rw [HT1]; rfl)
      clear HT1
      have HCC := refnumber_any s i w1 hs hi
      obtain ⟨g, hg⟩ : ∃ g, numberT s i = g := ⟨_, rfl⟩
      rw [hg] at HCC
      have HN := Lib.hid (HTT.out.trans hg)
      have HH := Lib.hid HCC
      clear HCC hg
      go_enter Try.func18, Try.ntmps18
      go_wp2_with fail
      clear hw
      refine HLL.out.mono ?_
      rintro x w' ⟨rfl, rfl⟩
      go_wp2_with fail
      refine HDD.out.mono ?_
      rintro x w' ⟨rfl, rfl⟩
      go_wp2_with fail
      refine HA.out.mono ?_
      rintro x w' ⟨rfl, rfl⟩
      go_wp2_with fail
      refine HD3.out.mono ?_
      rintro x w' ⟨rfl, rfl⟩
      go_wp2_with fail
      refine HH.out.mono ?_
      rintro x w2 ⟨rfl, bb⟩
      unfold gotV
      have K2 := K1.out.below bb
      have B2 := Lib.hid (B.out.trans (bb.mono B.out.size))
      obtain ⟨gk, gs, ge⟩ := g
      clear bb
      obtain ⟨e0, e1, e2⟩ := cell3 K2
      obtain ⟨g0, g1, g2⟩ := set3_cells K2 (.int .i64 gk) (.int .i64 (gs : Int)) (.int .i64 ge)
      have fr0 := K2.free 0
      have fr1 := K2.free 1
      have fr2 := K2.free 2
      go_wp2_with fail
      try clear e0 e1 e2
      refine bodyPost_ret (v := .agg #[.int .i64 gk, .int .i64 (gs : Int), .int .i64 ge]) (by simp [results, Try.results18, go_sem, g0, g1, g2]) rfl ⟨ret_got (by rw [HN.out]) (by rw [HN.out]; try rfl) (by rw [HN.out]), set3_below B2.out _ _ _⟩
    have HTT := Lib.hid (show tokT s i = operT s i by rw [HT1]; rfl)
    clear HT1
    go_enter Try.func18, Try.ntmps18
    go_wp2_with fail
    clear hw
    refine HLL.out.mono ?_
    rintro x w' ⟨rfl, rfl⟩
    go_wp2_with fail
    refine HDD.out.mono ?_
    rintro x w' ⟨rfl, rfl⟩
    go_wp2_with fail
    refine HA.out.mono ?_
    rintro x w' ⟨rfl, rfl⟩
    go_wp2_with fail
    refine HD3.out.mono ?_
    rintro x w' ⟨rfl, rfl⟩
    go_wp2_with fail
    clear HLL HDD
    have HO3 := Lib.hid (oper_three s i)
    go_loopw [6] (fun v wr => ∃ n : Nat, n ≤ 3 ∧ v = .int .i64 n ∧ Hid (operN s i n = operT s i) ∧ Hid (BlockAt wr w.heap.size #[.int .i64 0, .int .i64 0, .int .i64 0] 46) ∧ Hid (Below w.heap.size w wr)) (fun v _ => (intOf v).toNat)
    case atStart => exact ⟨3, Nat.le_refl _, rfl, HO3, K1, B⟩
    case round =>
      obtain ⟨n, hn3, rfl, HOp, KR, BR⟩ := hrel
      cases n with
      | zero =>
        have HN := Lib.hid (show tokT s i = ⟨0, 0, 12⟩ by rw [HTT.out, ← HOp.out]; rfl)
        obtain ⟨e0, e1, e2⟩ := cell3 KR.out
        obtain ⟨g0, g1, g2⟩ := set3_cells KR.out (.int .i64 0) (.int .i64 0) (.int .i64 12)
        have fr0 := KR.out.free 0
        have fr1 := KR.out.free 1
        have fr2 := KR.out.free 2
        go_wp2_with fail
        try clear e0 e1 e2
        refine bodyPost_ret (v := .agg #[.int .i64 0, .int .i64 0, .int .i64 12]) (by simp [results, Try.results18, go_sem, g0, g1, g2]) rfl ⟨ret_got (by rw [HN.out]) (by rw [HN.out]; try rfl) (by rw [HN.out]), set3_below BR.out _ _ _⟩
      | succ n =>
        have HD4 := Lib.hid (show operN s i (n + 1) = if i + (n + 1) ≤ s.size ∧ opB (s.extract i (i + (n + 1))) = true then ⟨6, i + (n + 1), 0⟩ else operN s i n from rfl)
        have hpos : 0 < n + 1 := by omega
        have hsub : ((n + 1 : Nat) : Int) - 1 = (n : Int) := by omega
        obtain ⟨m, hm⟩ : ∃ m, n + 1 = m := ⟨_, rfl⟩
        have Hm := Lib.hid hm
        rw [hm] at HD4 hpos hsub ⊢
        rw [hm] at hn3 HOp
        clear hm
        by_cases hle : i + m ≤ s.size
        · have hleI : (i : Int) + (m : Int) ≤ (s.size : Int) := by omega
          have hP := refop_any (s.extract i (i + m)) wr
          cases hop : opB (s.extract i (i + m)) <;> rw [hop] at hP <;> have HP := Lib.hid hP <;> clear hP
          · have HNX := Lib.hid (show operN s i n = operT s i by rw [← HOp.out, HD4.out, if_neg (fun h => by rw [hop] at h; cases h.2)])
            clear hop
            go_wp2_with fail
            refine HP.out.mono ?_
            rintro x w2 ⟨rfl, bb⟩
            have KR2 := Lib.hid (KR.out.below bb)
            have BR2 := Lib.hid (BR.out.trans (bb.mono BR.out.size))
            clear bb
            go_wp2_with fail
            go_roundw
            case rel => exact ⟨n, by omega, by go_num, HNX, KR2, BR2⟩
            case measure => have := Hm.out; simp [intOf]; omega
          · have HN := Lib.hid (show tokT s i = ⟨6, i + m, 0⟩ by rw [HTT.out, ← HOp.out, HD4.out, if_pos ⟨hle, hop⟩])
            clear hop
            go_wp2_with fail
            refine HP.out.mono ?_
            rintro x w2 ⟨rfl, bb⟩
            have KR2 := Lib.hid (KR.out.below bb)
            have BR2 := Lib.hid (BR.out.trans (bb.mono BR.out.size))
            clear bb
            obtain ⟨e0, e1, e2⟩ := cell3 KR2.out
            obtain ⟨g0, g1, g2⟩ := set3_cells KR2.out (.int .i64 6) (.int .i64 ((i : Int) + (m : Int))) (.int .i64 0)
            have fr0 := KR2.out.free 0
            have fr1 := KR2.out.free 1
            have fr2 := KR2.out.free 2
            go_wp2_with fail
            try clear e0 e1 e2
            refine bodyPost_ret (v := .agg #[.int .i64 6, .int .i64 ((i : Int) + (m : Int)), .int .i64 0]) (by simp [results, Try.results18, go_sem, g0, g1, g2]) rfl ⟨ret_got (by rw [HN.out]) (by rw [HN.out]; try rfl) (by rw [HN.out]), set3_below BR2.out _ _ _⟩
        · have hleI : ¬ (i : Int) + (m : Int) ≤ (s.size : Int) := by omega
          have HNX := Lib.hid (show operN s i n = operT s i by rw [← HOp.out, HD4.out, if_neg (fun h => hle h.1)])
          go_wp2_with fail
          go_roundw
          case rel => exact ⟨n, by omega, by go_num, HNX, KR, BR⟩
          case measure => have := Hm.out; simp [intOf]; omega
  have g46 : (c == 46) = false := by rw [beq_eq_false_iff_ne]; exact h46
  rw [decide_eq_false h46] at HT1
  clear h46 HA HD2
  by_cases h39 : c = 39 ∨ c = 34 ∨ c = 96
  · have HTT := Lib.hid (show tokT s i = quotedT s i by rw [HT1, decide_eq_true h39]; rfl)
    clear HT1
    have HCC := refquoted_any s i w1 hs hi
    obtain ⟨g, hg⟩ : ∃ g, quotedT s i = g := ⟨_, rfl⟩
    rw [hg] at HCC
    have HN := Lib.hid (HTT.out.trans hg)
    have HH := Lib.hid HCC
    clear HCC hg
    rcases h39 with h | h | h
    · have n39 : (c == 39) = true := by rw [h]; rfl
      clear h
      go_enter Try.func18, Try.ntmps18
      go_wp2_with fail
      clear hw
      refine HLL.out.mono ?_
      rintro x w' ⟨rfl, rfl⟩
      go_wp2_with fail
      refine HDD.out.mono ?_
      rintro x w' ⟨rfl, rfl⟩
      go_wp2_with fail
      refine HH.out.mono ?_
      rintro x w2 ⟨rfl, bb⟩
      unfold gotV
      have K2 := K1.out.below bb
      have B2 := Lib.hid (B.out.trans (bb.mono B.out.size))
      obtain ⟨gk, gs, ge⟩ := g
      clear bb
      obtain ⟨e0, e1, e2⟩ := cell3 K2
      obtain ⟨g0, g1, g2⟩ := set3_cells K2 (.int .i64 gk) (.int .i64 (gs : Int)) (.int .i64 ge)
      have fr0 := K2.free 0
      have fr1 := K2.free 1
      have fr2 := K2.free 2
      go_wp2_with fail
      try clear e0 e1 e2
      refine bodyPost_ret (v := .agg #[.int .i64 gk, .int .i64 (gs : Int), .int .i64 ge]) (by simp [results, Try.results18, go_sem, g0, g1, g2]) rfl ⟨ret_got (by rw [HN.out]) (by rw [HN.out]; try rfl) (by rw [HN.out]), set3_below B2.out _ _ _⟩
    · have n39 : (c == 39) = false := by rw [h]; rfl
      have n34 : (c == 34) = true := by rw [h]; rfl
      clear h
      go_enter Try.func18, Try.ntmps18
      go_wp2_with fail
      clear hw
      refine HLL.out.mono ?_
      rintro x w' ⟨rfl, rfl⟩
      go_wp2_with fail
      refine HDD.out.mono ?_
      rintro x w' ⟨rfl, rfl⟩
      go_wp2_with fail
      refine HH.out.mono ?_
      rintro x w2 ⟨rfl, bb⟩
      unfold gotV
      have K2 := K1.out.below bb
      have B2 := Lib.hid (B.out.trans (bb.mono B.out.size))
      obtain ⟨gk, gs, ge⟩ := g
      clear bb
      obtain ⟨e0, e1, e2⟩ := cell3 K2
      obtain ⟨g0, g1, g2⟩ := set3_cells K2 (.int .i64 gk) (.int .i64 (gs : Int)) (.int .i64 ge)
      have fr0 := K2.free 0
      have fr1 := K2.free 1
      have fr2 := K2.free 2
      go_wp2_with fail
      try clear e0 e1 e2
      refine bodyPost_ret (v := .agg #[.int .i64 gk, .int .i64 (gs : Int), .int .i64 ge]) (by simp [results, Try.results18, go_sem, g0, g1, g2]) rfl ⟨ret_got (by rw [HN.out]) (by rw [HN.out]; try rfl) (by rw [HN.out]), set3_below B2.out _ _ _⟩
    · have n39 : (c == 39) = false := by rw [h]; rfl
      have n34 : (c == 34) = false := by rw [h]; rfl
      have n96 : (c == 96) = true := by rw [h]; rfl
      clear h
      go_enter Try.func18, Try.ntmps18
      go_wp2_with fail
      clear hw
      refine HLL.out.mono ?_
      rintro x w' ⟨rfl, rfl⟩
      go_wp2_with fail
      refine HDD.out.mono ?_
      rintro x w' ⟨rfl, rfl⟩
      go_wp2_with fail
      refine HH.out.mono ?_
      rintro x w2 ⟨rfl, bb⟩
      unfold gotV
      have K2 := K1.out.below bb
      have B2 := Lib.hid (B.out.trans (bb.mono B.out.size))
      obtain ⟨gk, gs, ge⟩ := g
      clear bb
      obtain ⟨e0, e1, e2⟩ := cell3 K2
      obtain ⟨g0, g1, g2⟩ := set3_cells K2 (.int .i64 gk) (.int .i64 (gs : Int)) (.int .i64 ge)
      have fr0 := K2.free 0
      have fr1 := K2.free 1
      have fr2 := K2.free 2
      go_wp2_with fail
      try clear e0 e1 e2
      refine bodyPost_ret (v := .agg #[.int .i64 gk, .int .i64 (gs : Int), .int .i64 ge]) (by simp [results, Try.results18, go_sem, g0, g1, g2]) rfl ⟨ret_got (by rw [HN.out]) (by rw [HN.out]; try rfl) (by rw [HN.out]), set3_below B2.out _ _ _⟩
  have HTT := Lib.hid (show tokT s i = operT s i by rw [HT1, decide_eq_false h39]; rfl)
  have n39 : (c == 39) = false := by rw [beq_eq_false_iff_ne]; omega
  have n34 : (c == 34) = false := by rw [beq_eq_false_iff_ne]; omega
  have n96 : (c == 96) = false := by rw [beq_eq_false_iff_ne]; omega
  clear HT1 h39
  go_enter Try.func18, Try.ntmps18
  go_wp2_with fail
  clear hw
  refine HLL.out.mono ?_
  rintro x w' ⟨rfl, rfl⟩
  go_wp2_with fail
  refine HDD.out.mono ?_
  rintro x w' ⟨rfl, rfl⟩
  go_wp2_with fail
  clear HLL HDD
  have HO3 := Lib.hid (oper_three s i)
  go_loopw [6] (fun v wr => ∃ n : Nat, n ≤ 3 ∧ v = .int .i64 n ∧ Hid (operN s i n = operT s i) ∧ Hid (BlockAt wr w.heap.size #[.int .i64 0, .int .i64 0, .int .i64 0] 46) ∧ Hid (Below w.heap.size w wr)) (fun v _ => (intOf v).toNat)
  case atStart => exact ⟨3, Nat.le_refl _, rfl, HO3, K1, B⟩
  case round =>
    obtain ⟨n, hn3, rfl, HOp, KR, BR⟩ := hrel
    cases n with
    | zero =>
      have HN := Lib.hid (show tokT s i = ⟨0, 0, 12⟩ by rw [HTT.out, ← HOp.out]; rfl)
      obtain ⟨e0, e1, e2⟩ := cell3 KR.out
      obtain ⟨g0, g1, g2⟩ := set3_cells KR.out (.int .i64 0) (.int .i64 0) (.int .i64 12)
      have fr0 := KR.out.free 0
      have fr1 := KR.out.free 1
      have fr2 := KR.out.free 2
      go_wp2_with fail
      try clear e0 e1 e2
      refine bodyPost_ret (v := .agg #[.int .i64 0, .int .i64 0, .int .i64 12]) (by simp [results, Try.results18, go_sem, g0, g1, g2]) rfl ⟨ret_got (by rw [HN.out]) (by rw [HN.out]; try rfl) (by rw [HN.out]), set3_below BR.out _ _ _⟩
    | succ n =>
      have HD4 := Lib.hid (show operN s i (n + 1) = if i + (n + 1) ≤ s.size ∧ opB (s.extract i (i + (n + 1))) = true then ⟨6, i + (n + 1), 0⟩ else operN s i n from rfl)
      have hpos : 0 < n + 1 := by omega
      have hsub : ((n + 1 : Nat) : Int) - 1 = (n : Int) := by omega
      obtain ⟨m, hm⟩ : ∃ m, n + 1 = m := ⟨_, rfl⟩
      have Hm := Lib.hid hm
      rw [hm] at HD4 hpos hsub ⊢
      rw [hm] at hn3 HOp
      clear hm
      by_cases hle : i + m ≤ s.size
      · have hleI : (i : Int) + (m : Int) ≤ (s.size : Int) := by omega
        have hP := refop_any (s.extract i (i + m)) wr
        cases hop : opB (s.extract i (i + m)) <;> rw [hop] at hP <;> have HP := Lib.hid hP <;> clear hP
        · have HNX := Lib.hid (show operN s i n = operT s i by rw [← HOp.out, HD4.out, if_neg (fun h => by rw [hop] at h; cases h.2)])
          clear hop
          go_wp2_with fail
          refine HP.out.mono ?_
          rintro x w2 ⟨rfl, bb⟩
          have KR2 := Lib.hid (KR.out.below bb)
          have BR2 := Lib.hid (BR.out.trans (bb.mono BR.out.size))
          clear bb
          go_wp2_with fail
          go_roundw
          case rel => exact ⟨n, by omega, by go_num, HNX, KR2, BR2⟩
          case measure => have := Hm.out; simp [intOf]; omega
        · have HN := Lib.hid (show tokT s i = ⟨6, i + m, 0⟩ by rw [HTT.out, ← HOp.out, HD4.out, if_pos ⟨hle, hop⟩])
          clear hop
          go_wp2_with fail
          refine HP.out.mono ?_
          rintro x w2 ⟨rfl, bb⟩
          have KR2 := Lib.hid (KR.out.below bb)
          have BR2 := Lib.hid (BR.out.trans (bb.mono BR.out.size))
          clear bb
          obtain ⟨e0, e1, e2⟩ := cell3 KR2.out
          obtain ⟨g0, g1, g2⟩ := set3_cells KR2.out (.int .i64 6) (.int .i64 ((i : Int) + (m : Int))) (.int .i64 0)
          have fr0 := KR2.out.free 0
          have fr1 := KR2.out.free 1
          have fr2 := KR2.out.free 2
          go_wp2_with fail
          try clear e0 e1 e2
          refine bodyPost_ret (v := .agg #[.int .i64 6, .int .i64 ((i : Int) + (m : Int)), .int .i64 0]) (by simp [results, Try.results18, go_sem, g0, g1, g2]) rfl ⟨ret_got (by rw [HN.out]) (by rw [HN.out]; try rfl) (by rw [HN.out]), set3_below BR2.out _ _ _⟩
      · have hleI : ¬ (i : Int) + (m : Int) ≤ (s.size : Int) := by omega
        have HNX := Lib.hid (show operN s i n = operT s i by rw [← HOp.out, HD4.out, if_neg (fun h => hle h.1)])
        go_wp2_with fail
        go_roundw
        case rel => exact ⟨n, by omega, by go_num, HNX, KR, BR⟩
        case measure => have := Hm.out; simp [intOf]; omega
end Go.Proofs.Ytjhgibdebcapfaa
