/- Bytes, keywords, operators. -/
import Derived.Test.YtjhgibdebcapfaaScanM
import Derived.Test.YtjhgibdebcapfaaSrcCheckWalk
namespace Go.Proofs.Ytjhgibdebcapfaa
open Go.RowKit
set_option linter.unusedSimpArgs false
set_option linter.unusedVariables false

set_option maxHeartbeats 400000 in
theorem digit_any (c : Int) (w : World) :
    Calls Try.prog 24 #[.int .u8 c] w fun e w' => e = .returned (.bool (digB c)) ∧ w = w' := by
  go_enter Try.func24, Try.ntmps24
  go_wp2
  all_goals
    go_ret
    exact ⟨ret_bool (by rw [Bool.eq_iff_iff]; simp_all [digB]; try omega), rfl⟩
set_option maxHeartbeats 400000 in
theorem refdigit_any (c : Int) (w : World) :
    Calls Try.prog 33 #[.int .u8 c] w fun e w' => e = .returned (.bool (digB c)) ∧ w = w' := by
  go_enter Try.func33, Try.ntmps33
  go_wp2
  all_goals
    go_ret
    exact ⟨ret_bool (by rw [Bool.eq_iff_iff]; simp_all [digB]; try omega), rfl⟩
set_option maxHeartbeats 400000 in
theorem word_any (c : Int) (w : World) :
    Calls Try.prog 50 #[.int .u8 c] w fun e w' => e = .returned (.bool (inB c)) ∧ w = w' := by
  have hL := refLetter_any c w
  have hD := refdigit_any c w
  unfold inB
  cases hl : letB c <;> rw [hl] at hL <;> clear hl
  · have HL := Lib.hid hL
    clear hL
    cases hd : digB c <;> rw [hd] at hD <;> clear hd
    all_goals
      have HD := Lib.hid hD
      clear hD
      go_enter Try.func50, Try.ntmps50
      go_wp2_with fail
      refine HL.out.mono ?_
      rintro e w' ⟨rfl, rfl⟩
      go_wp2_with fail
      refine HD.out.mono ?_
      rintro e w' ⟨rfl, rfl⟩
      go_wp2_with fail
      go_ret
      exact ⟨rfl, rfl⟩
  · have HL := Lib.hid hL
    clear hL hD
    go_enter Try.func50, Try.ntmps50
    go_wp2_with fail
    refine HL.out.mono ?_
    rintro e w' ⟨rfl, rfl⟩
    go_wp2_with fail
    go_ret
    exact ⟨rfl, rfl⟩
set_option maxHeartbeats 400000 in
theorem refupper_any (c : Int) (w : World) (h0 : 0 ≤ c) (h1 : c < 256) :
    Calls Try.prog 51 #[.int .u8 c] w fun e w' => e = .returned (.int .u8 (upC c)) ∧ w = w' := by
  by_cases h2 : 97 ≤ c
  · by_cases h3 : c ≤ 122
    · have Hn := Lib.hid (show upC c = c - 32 by unfold upC; rw [if_pos ⟨h2, h3⟩])
      go_enter Try.func51, Try.ntmps51
      go_wp2_with fail
      go_ret
      exact ⟨ret_int (by rw [Hn.out]; try omega), rfl⟩
    · have Hn := Lib.hid (show upC c = c by unfold upC; rw [if_neg (fun h => h3 h.2)])
      go_enter Try.func51, Try.ntmps51
      go_wp2_with fail
      go_ret
      exact ⟨ret_int Hn.out.symm, rfl⟩
  · have Hn := Lib.hid (show upC c = c by unfold upC; rw [if_neg (fun h => h2 h.1)])
    go_enter Try.func51, Try.ntmps51
    go_wp2_with fail
    go_ret
    exact ⟨ret_int Hn.out.symm, rfl⟩
set_option maxHeartbeats 400000 in
theorem at_any (s : ByteArray) (k : Nat) (w : World) (hs : s.size ≤ 1000000) :
    Calls Try.prog 30 #[.string s, .int .i64 k] w fun e w' => e = .returned (.int .u8 (byteAt s k)) ∧ w = w' := by
  by_cases hk : k < s.size
  · have Hb := Lib.hid (byteAt_eq hk)
    go_enter Try.func30, Try.ntmps30
    go_wp2_with fail
    go_ret
    exact ⟨ret_int Hb.out.symm, rfl⟩
  · have Hb := Lib.hid (byteAt_none hk)
    have hk2 : (s.size : Int) ≤ (k : Int) := by omega
    go_enter Try.func30, Try.ntmps30
    go_wp2_with fail
    go_ret
    exact ⟨ret_int Hb.out.symm, rfl⟩
set_option maxHeartbeats 4000000 in
set_option maxRecDepth 100000 in
theorem key_any (s : ByteArray) (w : World) :
    Calls Try.prog 8 #[.string s] w fun e w' => e = .returned (.bool (keyB s)) ∧ w = w' := by
  by_cases h0 : s.toList = [98, 114, 101, 97, 107]
  · have Hn := Lib.hid (show keyB s = true by unfold keyB keys; rw [List.any_eq_true]; exact ⟨⟨#[98, 114, 101, 97, 107]⟩, by simp, by rw [h0, ByteArray.toList_eq]; rfl⟩)
    have g : (s.toList == [98, 114, 101, 97, 107]) = true := by rw [h0]; decide
    clear h0
    go_enter Try.func8, Try.ntmps8
    go_wp2_with fail
    go_ret
    exact ⟨ret_bool Hn.out.symm, rfl⟩
  have g0 : (s.toList == [98, 114, 101, 97, 107]) = false := by rw [beq_eq_false_iff_ne]; exact h0
  clear h0
  by_cases h1 : s.toList = [99, 97, 115, 101]
  · have Hn := Lib.hid (show keyB s = true by unfold keyB keys; rw [List.any_eq_true]; exact ⟨⟨#[99, 97, 115, 101]⟩, by simp, by rw [h1, ByteArray.toList_eq]; rfl⟩)
    have g : (s.toList == [99, 97, 115, 101]) = true := by rw [h1]; decide
    clear h1
    go_enter Try.func8, Try.ntmps8
    go_wp2_with fail
    go_ret
    exact ⟨ret_bool Hn.out.symm, rfl⟩
  have g1 : (s.toList == [99, 97, 115, 101]) = false := by rw [beq_eq_false_iff_ne]; exact h1
  clear h1
  by_cases h2 : s.toList = [99, 104, 97, 110]
  · have Hn := Lib.hid (show keyB s = true by unfold keyB keys; rw [List.any_eq_true]; exact ⟨⟨#[99, 104, 97, 110]⟩, by simp, by rw [h2, ByteArray.toList_eq]; rfl⟩)
    have g : (s.toList == [99, 104, 97, 110]) = true := by rw [h2]; decide
    clear h2
    go_enter Try.func8, Try.ntmps8
    go_wp2_with fail
    go_ret
    exact ⟨ret_bool Hn.out.symm, rfl⟩
  have g2 : (s.toList == [99, 104, 97, 110]) = false := by rw [beq_eq_false_iff_ne]; exact h2
  clear h2
  by_cases h3 : s.toList = [99, 111, 110, 115, 116]
  · have Hn := Lib.hid (show keyB s = true by unfold keyB keys; rw [List.any_eq_true]; exact ⟨⟨#[99, 111, 110, 115, 116]⟩, by simp, by rw [h3, ByteArray.toList_eq]; rfl⟩)
    have g : (s.toList == [99, 111, 110, 115, 116]) = true := by rw [h3]; decide
    clear h3
    go_enter Try.func8, Try.ntmps8
    go_wp2_with fail
    go_ret
    exact ⟨ret_bool Hn.out.symm, rfl⟩
  have g3 : (s.toList == [99, 111, 110, 115, 116]) = false := by rw [beq_eq_false_iff_ne]; exact h3
  clear h3
  by_cases h4 : s.toList = [99, 111, 110, 116, 105, 110, 117, 101]
  · have Hn := Lib.hid (show keyB s = true by unfold keyB keys; rw [List.any_eq_true]; exact ⟨⟨#[99, 111, 110, 116, 105, 110, 117, 101]⟩, by simp, by rw [h4, ByteArray.toList_eq]; rfl⟩)
    have g : (s.toList == [99, 111, 110, 116, 105, 110, 117, 101]) = true := by rw [h4]; decide
    clear h4
    go_enter Try.func8, Try.ntmps8
    go_wp2_with fail
    go_ret
    exact ⟨ret_bool Hn.out.symm, rfl⟩
  have g4 : (s.toList == [99, 111, 110, 116, 105, 110, 117, 101]) = false := by rw [beq_eq_false_iff_ne]; exact h4
  clear h4
  by_cases h5 : s.toList = [100, 101, 102, 97, 117, 108, 116]
  · have Hn := Lib.hid (show keyB s = true by unfold keyB keys; rw [List.any_eq_true]; exact ⟨⟨#[100, 101, 102, 97, 117, 108, 116]⟩, by simp, by rw [h5, ByteArray.toList_eq]; rfl⟩)
    have g : (s.toList == [100, 101, 102, 97, 117, 108, 116]) = true := by rw [h5]; decide
    clear h5
    go_enter Try.func8, Try.ntmps8
    go_wp2_with fail
    go_ret
    exact ⟨ret_bool Hn.out.symm, rfl⟩
  have g5 : (s.toList == [100, 101, 102, 97, 117, 108, 116]) = false := by rw [beq_eq_false_iff_ne]; exact h5
  clear h5
  by_cases h6 : s.toList = [100, 101, 102, 101, 114]
  · have Hn := Lib.hid (show keyB s = true by unfold keyB keys; rw [List.any_eq_true]; exact ⟨⟨#[100, 101, 102, 101, 114]⟩, by simp, by rw [h6, ByteArray.toList_eq]; rfl⟩)
    have g : (s.toList == [100, 101, 102, 101, 114]) = true := by rw [h6]; decide
    clear h6
    go_enter Try.func8, Try.ntmps8
    go_wp2_with fail
    go_ret
    exact ⟨ret_bool Hn.out.symm, rfl⟩
  have g6 : (s.toList == [100, 101, 102, 101, 114]) = false := by rw [beq_eq_false_iff_ne]; exact h6
  clear h6
  by_cases h7 : s.toList = [101, 108, 115, 101]
  · have Hn := Lib.hid (show keyB s = true by unfold keyB keys; rw [List.any_eq_true]; exact ⟨⟨#[101, 108, 115, 101]⟩, by simp, by rw [h7, ByteArray.toList_eq]; rfl⟩)
    have g : (s.toList == [101, 108, 115, 101]) = true := by rw [h7]; decide
    clear h7
    go_enter Try.func8, Try.ntmps8
    go_wp2_with fail
    go_ret
    exact ⟨ret_bool Hn.out.symm, rfl⟩
  have g7 : (s.toList == [101, 108, 115, 101]) = false := by rw [beq_eq_false_iff_ne]; exact h7
  clear h7
  by_cases h8 : s.toList = [102, 97, 108, 108, 116, 104, 114, 111, 117, 103, 104]
  · have Hn := Lib.hid (show keyB s = true by unfold keyB keys; rw [List.any_eq_true]; exact ⟨⟨#[102, 97, 108, 108, 116, 104, 114, 111, 117, 103, 104]⟩, by simp, by rw [h8, ByteArray.toList_eq]; rfl⟩)
    have g : (s.toList == [102, 97, 108, 108, 116, 104, 114, 111, 117, 103, 104]) = true := by rw [h8]; decide
    clear h8
    go_enter Try.func8, Try.ntmps8
    go_wp2_with fail
    go_ret
    exact ⟨ret_bool Hn.out.symm, rfl⟩
  have g8 : (s.toList == [102, 97, 108, 108, 116, 104, 114, 111, 117, 103, 104]) = false := by rw [beq_eq_false_iff_ne]; exact h8
  clear h8
  by_cases h9 : s.toList = [102, 111, 114]
  · have Hn := Lib.hid (show keyB s = true by unfold keyB keys; rw [List.any_eq_true]; exact ⟨⟨#[102, 111, 114]⟩, by simp, by rw [h9, ByteArray.toList_eq]; rfl⟩)
    have g : (s.toList == [102, 111, 114]) = true := by rw [h9]; decide
    clear h9
    go_enter Try.func8, Try.ntmps8
    go_wp2_with fail
    go_ret
    exact ⟨ret_bool Hn.out.symm, rfl⟩
  have g9 : (s.toList == [102, 111, 114]) = false := by rw [beq_eq_false_iff_ne]; exact h9
  clear h9
  by_cases h10 : s.toList = [102, 117, 110, 99]
  · have Hn := Lib.hid (show keyB s = true by unfold keyB keys; rw [List.any_eq_true]; exact ⟨⟨#[102, 117, 110, 99]⟩, by simp, by rw [h10, ByteArray.toList_eq]; rfl⟩)
    have g : (s.toList == [102, 117, 110, 99]) = true := by rw [h10]; decide
    clear h10
    go_enter Try.func8, Try.ntmps8
    go_wp2_with fail
    go_ret
    exact ⟨ret_bool Hn.out.symm, rfl⟩
  have g10 : (s.toList == [102, 117, 110, 99]) = false := by rw [beq_eq_false_iff_ne]; exact h10
  clear h10
  by_cases h11 : s.toList = [103, 111]
  · have Hn := Lib.hid (show keyB s = true by unfold keyB keys; rw [List.any_eq_true]; exact ⟨⟨#[103, 111]⟩, by simp, by rw [h11, ByteArray.toList_eq]; rfl⟩)
    have g : (s.toList == [103, 111]) = true := by rw [h11]; decide
    clear h11
    go_enter Try.func8, Try.ntmps8
    go_wp2_with fail
    go_ret
    exact ⟨ret_bool Hn.out.symm, rfl⟩
  have g11 : (s.toList == [103, 111]) = false := by rw [beq_eq_false_iff_ne]; exact h11
  clear h11
  by_cases h12 : s.toList = [103, 111, 116, 111]
  · have Hn := Lib.hid (show keyB s = true by unfold keyB keys; rw [List.any_eq_true]; exact ⟨⟨#[103, 111, 116, 111]⟩, by simp, by rw [h12, ByteArray.toList_eq]; rfl⟩)
    have g : (s.toList == [103, 111, 116, 111]) = true := by rw [h12]; decide
    clear h12
    go_enter Try.func8, Try.ntmps8
    go_wp2_with fail
    go_ret
    exact ⟨ret_bool Hn.out.symm, rfl⟩
  have g12 : (s.toList == [103, 111, 116, 111]) = false := by rw [beq_eq_false_iff_ne]; exact h12
  clear h12
  by_cases h13 : s.toList = [105, 102]
  · have Hn := Lib.hid (show keyB s = true by unfold keyB keys; rw [List.any_eq_true]; exact ⟨⟨#[105, 102]⟩, by simp, by rw [h13, ByteArray.toList_eq]; rfl⟩)
    have g : (s.toList == [105, 102]) = true := by rw [h13]; decide
    clear h13
    go_enter Try.func8, Try.ntmps8
    go_wp2_with fail
    go_ret
    exact ⟨ret_bool Hn.out.symm, rfl⟩
  have g13 : (s.toList == [105, 102]) = false := by rw [beq_eq_false_iff_ne]; exact h13
  clear h13
  by_cases h14 : s.toList = [105, 109, 112, 111, 114, 116]
  · have Hn := Lib.hid (show keyB s = true by unfold keyB keys; rw [List.any_eq_true]; exact ⟨⟨#[105, 109, 112, 111, 114, 116]⟩, by simp, by rw [h14, ByteArray.toList_eq]; rfl⟩)
    have g : (s.toList == [105, 109, 112, 111, 114, 116]) = true := by rw [h14]; decide
    clear h14
    go_enter Try.func8, Try.ntmps8
    go_wp2_with fail
    go_ret
    exact ⟨ret_bool Hn.out.symm, rfl⟩
  have g14 : (s.toList == [105, 109, 112, 111, 114, 116]) = false := by rw [beq_eq_false_iff_ne]; exact h14
  clear h14
  by_cases h15 : s.toList = [105, 110, 116, 101, 114, 102, 97, 99, 101]
  · have Hn := Lib.hid (show keyB s = true by unfold keyB keys; rw [List.any_eq_true]; exact ⟨⟨#[105, 110, 116, 101, 114, 102, 97, 99, 101]⟩, by simp, by rw [h15, ByteArray.toList_eq]; rfl⟩)
    have g : (s.toList == [105, 110, 116, 101, 114, 102, 97, 99, 101]) = true := by rw [h15]; decide
    clear h15
    go_enter Try.func8, Try.ntmps8
    go_wp2_with fail
    go_ret
    exact ⟨ret_bool Hn.out.symm, rfl⟩
  have g15 : (s.toList == [105, 110, 116, 101, 114, 102, 97, 99, 101]) = false := by rw [beq_eq_false_iff_ne]; exact h15
  clear h15
  by_cases h16 : s.toList = [109, 97, 112]
  · have Hn := Lib.hid (show keyB s = true by unfold keyB keys; rw [List.any_eq_true]; exact ⟨⟨#[109, 97, 112]⟩, by simp, by rw [h16, ByteArray.toList_eq]; rfl⟩)
    have g : (s.toList == [109, 97, 112]) = true := by rw [h16]; decide
    clear h16
    go_enter Try.func8, Try.ntmps8
    go_wp2_with fail
    go_ret
    exact ⟨ret_bool Hn.out.symm, rfl⟩
  have g16 : (s.toList == [109, 97, 112]) = false := by rw [beq_eq_false_iff_ne]; exact h16
  clear h16
  by_cases h17 : s.toList = [112, 97, 99, 107, 97, 103, 101]
  · have Hn := Lib.hid (show keyB s = true by unfold keyB keys; rw [List.any_eq_true]; exact ⟨⟨#[112, 97, 99, 107, 97, 103, 101]⟩, by simp, by rw [h17, ByteArray.toList_eq]; rfl⟩)
    have g : (s.toList == [112, 97, 99, 107, 97, 103, 101]) = true := by rw [h17]; decide
    clear h17
    go_enter Try.func8, Try.ntmps8
    go_wp2_with fail
    go_ret
    exact ⟨ret_bool Hn.out.symm, rfl⟩
  have g17 : (s.toList == [112, 97, 99, 107, 97, 103, 101]) = false := by rw [beq_eq_false_iff_ne]; exact h17
  clear h17
  by_cases h18 : s.toList = [114, 97, 110, 103, 101]
  · have Hn := Lib.hid (show keyB s = true by unfold keyB keys; rw [List.any_eq_true]; exact ⟨⟨#[114, 97, 110, 103, 101]⟩, by simp, by rw [h18, ByteArray.toList_eq]; rfl⟩)
    have g : (s.toList == [114, 97, 110, 103, 101]) = true := by rw [h18]; decide
    clear h18
    go_enter Try.func8, Try.ntmps8
    go_wp2_with fail
    go_ret
    exact ⟨ret_bool Hn.out.symm, rfl⟩
  have g18 : (s.toList == [114, 97, 110, 103, 101]) = false := by rw [beq_eq_false_iff_ne]; exact h18
  clear h18
  by_cases h19 : s.toList = [114, 101, 116, 117, 114, 110]
  · have Hn := Lib.hid (show keyB s = true by unfold keyB keys; rw [List.any_eq_true]; exact ⟨⟨#[114, 101, 116, 117, 114, 110]⟩, by simp, by rw [h19, ByteArray.toList_eq]; rfl⟩)
    have g : (s.toList == [114, 101, 116, 117, 114, 110]) = true := by rw [h19]; decide
    clear h19
    go_enter Try.func8, Try.ntmps8
    go_wp2_with fail
    go_ret
    exact ⟨ret_bool Hn.out.symm, rfl⟩
  have g19 : (s.toList == [114, 101, 116, 117, 114, 110]) = false := by rw [beq_eq_false_iff_ne]; exact h19
  clear h19
  by_cases h20 : s.toList = [115, 101, 108, 101, 99, 116]
  · have Hn := Lib.hid (show keyB s = true by unfold keyB keys; rw [List.any_eq_true]; exact ⟨⟨#[115, 101, 108, 101, 99, 116]⟩, by simp, by rw [h20, ByteArray.toList_eq]; rfl⟩)
    have g : (s.toList == [115, 101, 108, 101, 99, 116]) = true := by rw [h20]; decide
    clear h20
    go_enter Try.func8, Try.ntmps8
    go_wp2_with fail
    go_ret
    exact ⟨ret_bool Hn.out.symm, rfl⟩
  have g20 : (s.toList == [115, 101, 108, 101, 99, 116]) = false := by rw [beq_eq_false_iff_ne]; exact h20
  clear h20
  by_cases h21 : s.toList = [115, 116, 114, 117, 99, 116]
  · have Hn := Lib.hid (show keyB s = true by unfold keyB keys; rw [List.any_eq_true]; exact ⟨⟨#[115, 116, 114, 117, 99, 116]⟩, by simp, by rw [h21, ByteArray.toList_eq]; rfl⟩)
    have g : (s.toList == [115, 116, 114, 117, 99, 116]) = true := by rw [h21]; decide
    clear h21
    go_enter Try.func8, Try.ntmps8
    go_wp2_with fail
    go_ret
    exact ⟨ret_bool Hn.out.symm, rfl⟩
  have g21 : (s.toList == [115, 116, 114, 117, 99, 116]) = false := by rw [beq_eq_false_iff_ne]; exact h21
  clear h21
  by_cases h22 : s.toList = [115, 119, 105, 116, 99, 104]
  · have Hn := Lib.hid (show keyB s = true by unfold keyB keys; rw [List.any_eq_true]; exact ⟨⟨#[115, 119, 105, 116, 99, 104]⟩, by simp, by rw [h22, ByteArray.toList_eq]; rfl⟩)
    have g : (s.toList == [115, 119, 105, 116, 99, 104]) = true := by rw [h22]; decide
    clear h22
    go_enter Try.func8, Try.ntmps8
    go_wp2_with fail
    go_ret
    exact ⟨ret_bool Hn.out.symm, rfl⟩
  have g22 : (s.toList == [115, 119, 105, 116, 99, 104]) = false := by rw [beq_eq_false_iff_ne]; exact h22
  clear h22
  by_cases h23 : s.toList = [116, 121, 112, 101]
  · have Hn := Lib.hid (show keyB s = true by unfold keyB keys; rw [List.any_eq_true]; exact ⟨⟨#[116, 121, 112, 101]⟩, by simp, by rw [h23, ByteArray.toList_eq]; rfl⟩)
    have g : (s.toList == [116, 121, 112, 101]) = true := by rw [h23]; decide
    clear h23
    go_enter Try.func8, Try.ntmps8
    go_wp2_with fail
    go_ret
    exact ⟨ret_bool Hn.out.symm, rfl⟩
  have g23 : (s.toList == [116, 121, 112, 101]) = false := by rw [beq_eq_false_iff_ne]; exact h23
  clear h23
  by_cases h24 : s.toList = [118, 97, 114]
  · have Hn := Lib.hid (show keyB s = true by unfold keyB keys; rw [List.any_eq_true]; exact ⟨⟨#[118, 97, 114]⟩, by simp, by rw [h24, ByteArray.toList_eq]; rfl⟩)
    have g : (s.toList == [118, 97, 114]) = true := by rw [h24]; decide
    clear h24
    go_enter Try.func8, Try.ntmps8
    go_wp2_with fail
    go_ret
    exact ⟨ret_bool Hn.out.symm, rfl⟩
  have g24 : (s.toList == [118, 97, 114]) = false := by rw [beq_eq_false_iff_ne]; exact h24
  clear h24
  have Hn := Lib.hid (show keyB s = false by
    have e : ∀ x : List UInt8, (ByteArray.mk x.toArray).toList = x := fun x => by rw [ByteArray.toList_eq]
    unfold keyB keys
    simp only [List.any_cons, List.any_nil]
    rw [show (ByteArray.mk #[98, 114, 101, 97, 107]).toList = [98, 114, 101, 97, 107] from e [98, 114, 101, 97, 107], g0, show (ByteArray.mk #[99, 97, 115, 101]).toList = [99, 97, 115, 101] from e [99, 97, 115, 101], g1, show (ByteArray.mk #[99, 104, 97, 110]).toList = [99, 104, 97, 110] from e [99, 104, 97, 110], g2, show (ByteArray.mk #[99, 111, 110, 115, 116]).toList = [99, 111, 110, 115, 116] from e [99, 111, 110, 115, 116], g3, show (ByteArray.mk #[99, 111, 110, 116, 105, 110, 117, 101]).toList = [99, 111, 110, 116, 105, 110, 117, 101] from e [99, 111, 110, 116, 105, 110, 117, 101], g4, show (ByteArray.mk #[100, 101, 102, 97, 117, 108, 116]).toList = [100, 101, 102, 97, 117, 108, 116] from e [100, 101, 102, 97, 117, 108, 116], g5, show (ByteArray.mk #[100, 101, 102, 101, 114]).toList = [100, 101, 102, 101, 114] from e [100, 101, 102, 101, 114], g6, show (ByteArray.mk #[101, 108, 115, 101]).toList = [101, 108, 115, 101] from e [101, 108, 115, 101], g7, show (ByteArray.mk #[102, 97, 108, 108, 116, 104, 114, 111, 117, 103, 104]).toList = [102, 97, 108, 108, 116, 104, 114, 111, 117, 103, 104] from e [102, 97, 108, 108, 116, 104, 114, 111, 117, 103, 104], g8, show (ByteArray.mk #[102, 111, 114]).toList = [102, 111, 114] from e [102, 111, 114], g9, show (ByteArray.mk #[102, 117, 110, 99]).toList = [102, 117, 110, 99] from e [102, 117, 110, 99], g10, show (ByteArray.mk #[103, 111]).toList = [103, 111] from e [103, 111], g11, show (ByteArray.mk #[103, 111, 116, 111]).toList = [103, 111, 116, 111] from e [103, 111, 116, 111], g12, show (ByteArray.mk #[105, 102]).toList = [105, 102] from e [105, 102], g13, show (ByteArray.mk #[105, 109, 112, 111, 114, 116]).toList = [105, 109, 112, 111, 114, 116] from e [105, 109, 112, 111, 114, 116], g14, show (ByteArray.mk #[105, 110, 116, 101, 114, 102, 97, 99, 101]).toList = [105, 110, 116, 101, 114, 102, 97, 99, 101] from e [105, 110, 116, 101, 114, 102, 97, 99, 101], g15, show (ByteArray.mk #[109, 97, 112]).toList = [109, 97, 112] from e [109, 97, 112], g16, show (ByteArray.mk #[112, 97, 99, 107, 97, 103, 101]).toList = [112, 97, 99, 107, 97, 103, 101] from e [112, 97, 99, 107, 97, 103, 101], g17, show (ByteArray.mk #[114, 97, 110, 103, 101]).toList = [114, 97, 110, 103, 101] from e [114, 97, 110, 103, 101], g18, show (ByteArray.mk #[114, 101, 116, 117, 114, 110]).toList = [114, 101, 116, 117, 114, 110] from e [114, 101, 116, 117, 114, 110], g19, show (ByteArray.mk #[115, 101, 108, 101, 99, 116]).toList = [115, 101, 108, 101, 99, 116] from e [115, 101, 108, 101, 99, 116], g20, show (ByteArray.mk #[115, 116, 114, 117, 99, 116]).toList = [115, 116, 114, 117, 99, 116] from e [115, 116, 114, 117, 99, 116], g21, show (ByteArray.mk #[115, 119, 105, 116, 99, 104]).toList = [115, 119, 105, 116, 99, 104] from e [115, 119, 105, 116, 99, 104], g22, show (ByteArray.mk #[116, 121, 112, 101]).toList = [116, 121, 112, 101] from e [116, 121, 112, 101], g23, show (ByteArray.mk #[118, 97, 114]).toList = [118, 97, 114] from e [118, 97, 114], g24]
    rfl)
  go_enter Try.func8, Try.ntmps8
  go_wp2_with fail
  go_ret
  exact ⟨ret_bool Hn.out.symm, rfl⟩
set_option maxHeartbeats 4000000 in
set_option maxRecDepth 100000 in
theorem op_any (s : ByteArray) (w : World) :
    Calls Try.prog 10 #[.string s] w fun e w' => e = .returned (.bool (opB s)) ∧ w = w' := by
  by_cases h0 : s.toList = [43]
  · have Hn := Lib.hid (show opB s = true by unfold opB opers; rw [List.any_eq_true]; exact ⟨⟨#[43]⟩, by simp, by rw [h0, ByteArray.toList_eq]; rfl⟩)
    have g : (s.toList == [43]) = true := by rw [h0]; decide
    clear h0
    go_enter Try.func10, Try.ntmps10
    go_wp2_with fail
    go_ret
    exact ⟨ret_bool Hn.out.symm, rfl⟩
  have g0 : (s.toList == [43]) = false := by rw [beq_eq_false_iff_ne]; exact h0
  clear h0
  by_cases h1 : s.toList = [45]
  · have Hn := Lib.hid (show opB s = true by unfold opB opers; rw [List.any_eq_true]; exact ⟨⟨#[45]⟩, by simp, by rw [h1, ByteArray.toList_eq]; rfl⟩)
    have g : (s.toList == [45]) = true := by rw [h1]; decide
    clear h1
    go_enter Try.func10, Try.ntmps10
    go_wp2_with fail
    go_ret
    exact ⟨ret_bool Hn.out.symm, rfl⟩
  have g1 : (s.toList == [45]) = false := by rw [beq_eq_false_iff_ne]; exact h1
  clear h1
  by_cases h2 : s.toList = [42]
  · have Hn := Lib.hid (show opB s = true by unfold opB opers; rw [List.any_eq_true]; exact ⟨⟨#[42]⟩, by simp, by rw [h2, ByteArray.toList_eq]; rfl⟩)
    have g : (s.toList == [42]) = true := by rw [h2]; decide
    clear h2
    go_enter Try.func10, Try.ntmps10
    go_wp2_with fail
    go_ret
    exact ⟨ret_bool Hn.out.symm, rfl⟩
  have g2 : (s.toList == [42]) = false := by rw [beq_eq_false_iff_ne]; exact h2
  clear h2
  by_cases h3 : s.toList = [47]
  · have Hn := Lib.hid (show opB s = true by unfold opB opers; rw [List.any_eq_true]; exact ⟨⟨#[47]⟩, by simp, by rw [h3, ByteArray.toList_eq]; rfl⟩)
    have g : (s.toList == [47]) = true := by rw [h3]; decide
    clear h3
    go_enter Try.func10, Try.ntmps10
    go_wp2_with fail
    go_ret
    exact ⟨ret_bool Hn.out.symm, rfl⟩
  have g3 : (s.toList == [47]) = false := by rw [beq_eq_false_iff_ne]; exact h3
  clear h3
  by_cases h4 : s.toList = [37]
  · have Hn := Lib.hid (show opB s = true by unfold opB opers; rw [List.any_eq_true]; exact ⟨⟨#[37]⟩, by simp, by rw [h4, ByteArray.toList_eq]; rfl⟩)
    have g : (s.toList == [37]) = true := by rw [h4]; decide
    clear h4
    go_enter Try.func10, Try.ntmps10
    go_wp2_with fail
    go_ret
    exact ⟨ret_bool Hn.out.symm, rfl⟩
  have g4 : (s.toList == [37]) = false := by rw [beq_eq_false_iff_ne]; exact h4
  clear h4
  by_cases h5 : s.toList = [38]
  · have Hn := Lib.hid (show opB s = true by unfold opB opers; rw [List.any_eq_true]; exact ⟨⟨#[38]⟩, by simp, by rw [h5, ByteArray.toList_eq]; rfl⟩)
    have g : (s.toList == [38]) = true := by rw [h5]; decide
    clear h5
    go_enter Try.func10, Try.ntmps10
    go_wp2_with fail
    go_ret
    exact ⟨ret_bool Hn.out.symm, rfl⟩
  have g5 : (s.toList == [38]) = false := by rw [beq_eq_false_iff_ne]; exact h5
  clear h5
  by_cases h6 : s.toList = [124]
  · have Hn := Lib.hid (show opB s = true by unfold opB opers; rw [List.any_eq_true]; exact ⟨⟨#[124]⟩, by simp, by rw [h6, ByteArray.toList_eq]; rfl⟩)
    have g : (s.toList == [124]) = true := by rw [h6]; decide
    clear h6
    go_enter Try.func10, Try.ntmps10
    go_wp2_with fail
    go_ret
    exact ⟨ret_bool Hn.out.symm, rfl⟩
  have g6 : (s.toList == [124]) = false := by rw [beq_eq_false_iff_ne]; exact h6
  clear h6
  by_cases h7 : s.toList = [94]
  · have Hn := Lib.hid (show opB s = true by unfold opB opers; rw [List.any_eq_true]; exact ⟨⟨#[94]⟩, by simp, by rw [h7, ByteArray.toList_eq]; rfl⟩)
    have g : (s.toList == [94]) = true := by rw [h7]; decide
    clear h7
    go_enter Try.func10, Try.ntmps10
    go_wp2_with fail
    go_ret
    exact ⟨ret_bool Hn.out.symm, rfl⟩
  have g7 : (s.toList == [94]) = false := by rw [beq_eq_false_iff_ne]; exact h7
  clear h7
  by_cases h8 : s.toList = [60, 60]
  · have Hn := Lib.hid (show opB s = true by unfold opB opers; rw [List.any_eq_true]; exact ⟨⟨#[60, 60]⟩, by simp, by rw [h8, ByteArray.toList_eq]; rfl⟩)
    have g : (s.toList == [60, 60]) = true := by rw [h8]; decide
    clear h8
    go_enter Try.func10, Try.ntmps10
    go_wp2_with fail
    go_ret
    exact ⟨ret_bool Hn.out.symm, rfl⟩
  have g8 : (s.toList == [60, 60]) = false := by rw [beq_eq_false_iff_ne]; exact h8
  clear h8
  by_cases h9 : s.toList = [62, 62]
  · have Hn := Lib.hid (show opB s = true by unfold opB opers; rw [List.any_eq_true]; exact ⟨⟨#[62, 62]⟩, by simp, by rw [h9, ByteArray.toList_eq]; rfl⟩)
    have g : (s.toList == [62, 62]) = true := by rw [h9]; decide
    clear h9
    go_enter Try.func10, Try.ntmps10
    go_wp2_with fail
    go_ret
    exact ⟨ret_bool Hn.out.symm, rfl⟩
  have g9 : (s.toList == [62, 62]) = false := by rw [beq_eq_false_iff_ne]; exact h9
  clear h9
  by_cases h10 : s.toList = [38, 38]
  · have Hn := Lib.hid (show opB s = true by unfold opB opers; rw [List.any_eq_true]; exact ⟨⟨#[38, 38]⟩, by simp, by rw [h10, ByteArray.toList_eq]; rfl⟩)
    have g : (s.toList == [38, 38]) = true := by rw [h10]; decide
    clear h10
    go_enter Try.func10, Try.ntmps10
    go_wp2_with fail
    go_ret
    exact ⟨ret_bool Hn.out.symm, rfl⟩
  have g10 : (s.toList == [38, 38]) = false := by rw [beq_eq_false_iff_ne]; exact h10
  clear h10
  by_cases h11 : s.toList = [124, 124]
  · have Hn := Lib.hid (show opB s = true by unfold opB opers; rw [List.any_eq_true]; exact ⟨⟨#[124, 124]⟩, by simp, by rw [h11, ByteArray.toList_eq]; rfl⟩)
    have g : (s.toList == [124, 124]) = true := by rw [h11]; decide
    clear h11
    go_enter Try.func10, Try.ntmps10
    go_wp2_with fail
    go_ret
    exact ⟨ret_bool Hn.out.symm, rfl⟩
  have g11 : (s.toList == [124, 124]) = false := by rw [beq_eq_false_iff_ne]; exact h11
  clear h11
  by_cases h12 : s.toList = [61, 61]
  · have Hn := Lib.hid (show opB s = true by unfold opB opers; rw [List.any_eq_true]; exact ⟨⟨#[61, 61]⟩, by simp, by rw [h12, ByteArray.toList_eq]; rfl⟩)
    have g : (s.toList == [61, 61]) = true := by rw [h12]; decide
    clear h12
    go_enter Try.func10, Try.ntmps10
    go_wp2_with fail
    go_ret
    exact ⟨ret_bool Hn.out.symm, rfl⟩
  have g12 : (s.toList == [61, 61]) = false := by rw [beq_eq_false_iff_ne]; exact h12
  clear h12
  by_cases h13 : s.toList = [33, 61]
  · have Hn := Lib.hid (show opB s = true by unfold opB opers; rw [List.any_eq_true]; exact ⟨⟨#[33, 61]⟩, by simp, by rw [h13, ByteArray.toList_eq]; rfl⟩)
    have g : (s.toList == [33, 61]) = true := by rw [h13]; decide
    clear h13
    go_enter Try.func10, Try.ntmps10
    go_wp2_with fail
    go_ret
    exact ⟨ret_bool Hn.out.symm, rfl⟩
  have g13 : (s.toList == [33, 61]) = false := by rw [beq_eq_false_iff_ne]; exact h13
  clear h13
  by_cases h14 : s.toList = [60]
  · have Hn := Lib.hid (show opB s = true by unfold opB opers; rw [List.any_eq_true]; exact ⟨⟨#[60]⟩, by simp, by rw [h14, ByteArray.toList_eq]; rfl⟩)
    have g : (s.toList == [60]) = true := by rw [h14]; decide
    clear h14
    go_enter Try.func10, Try.ntmps10
    go_wp2_with fail
    go_ret
    exact ⟨ret_bool Hn.out.symm, rfl⟩
  have g14 : (s.toList == [60]) = false := by rw [beq_eq_false_iff_ne]; exact h14
  clear h14
  by_cases h15 : s.toList = [60, 61]
  · have Hn := Lib.hid (show opB s = true by unfold opB opers; rw [List.any_eq_true]; exact ⟨⟨#[60, 61]⟩, by simp, by rw [h15, ByteArray.toList_eq]; rfl⟩)
    have g : (s.toList == [60, 61]) = true := by rw [h15]; decide
    clear h15
    go_enter Try.func10, Try.ntmps10
    go_wp2_with fail
    go_ret
    exact ⟨ret_bool Hn.out.symm, rfl⟩
  have g15 : (s.toList == [60, 61]) = false := by rw [beq_eq_false_iff_ne]; exact h15
  clear h15
  by_cases h16 : s.toList = [62]
  · have Hn := Lib.hid (show opB s = true by unfold opB opers; rw [List.any_eq_true]; exact ⟨⟨#[62]⟩, by simp, by rw [h16, ByteArray.toList_eq]; rfl⟩)
    have g : (s.toList == [62]) = true := by rw [h16]; decide
    clear h16
    go_enter Try.func10, Try.ntmps10
    go_wp2_with fail
    go_ret
    exact ⟨ret_bool Hn.out.symm, rfl⟩
  have g16 : (s.toList == [62]) = false := by rw [beq_eq_false_iff_ne]; exact h16
  clear h16
  by_cases h17 : s.toList = [62, 61]
  · have Hn := Lib.hid (show opB s = true by unfold opB opers; rw [List.any_eq_true]; exact ⟨⟨#[62, 61]⟩, by simp, by rw [h17, ByteArray.toList_eq]; rfl⟩)
    have g : (s.toList == [62, 61]) = true := by rw [h17]; decide
    clear h17
    go_enter Try.func10, Try.ntmps10
    go_wp2_with fail
    go_ret
    exact ⟨ret_bool Hn.out.symm, rfl⟩
  have g17 : (s.toList == [62, 61]) = false := by rw [beq_eq_false_iff_ne]; exact h17
  clear h17
  by_cases h18 : s.toList = [33]
  · have Hn := Lib.hid (show opB s = true by unfold opB opers; rw [List.any_eq_true]; exact ⟨⟨#[33]⟩, by simp, by rw [h18, ByteArray.toList_eq]; rfl⟩)
    have g : (s.toList == [33]) = true := by rw [h18]; decide
    clear h18
    go_enter Try.func10, Try.ntmps10
    go_wp2_with fail
    go_ret
    exact ⟨ret_bool Hn.out.symm, rfl⟩
  have g18 : (s.toList == [33]) = false := by rw [beq_eq_false_iff_ne]; exact h18
  clear h18
  by_cases h19 : s.toList = [40]
  · have Hn := Lib.hid (show opB s = true by unfold opB opers; rw [List.any_eq_true]; exact ⟨⟨#[40]⟩, by simp, by rw [h19, ByteArray.toList_eq]; rfl⟩)
    have g : (s.toList == [40]) = true := by rw [h19]; decide
    clear h19
    go_enter Try.func10, Try.ntmps10
    go_wp2_with fail
    go_ret
    exact ⟨ret_bool Hn.out.symm, rfl⟩
  have g19 : (s.toList == [40]) = false := by rw [beq_eq_false_iff_ne]; exact h19
  clear h19
  by_cases h20 : s.toList = [41]
  · have Hn := Lib.hid (show opB s = true by unfold opB opers; rw [List.any_eq_true]; exact ⟨⟨#[41]⟩, by simp, by rw [h20, ByteArray.toList_eq]; rfl⟩)
    have g : (s.toList == [41]) = true := by rw [h20]; decide
    clear h20
    go_enter Try.func10, Try.ntmps10
    go_wp2_with fail
    go_ret
    exact ⟨ret_bool Hn.out.symm, rfl⟩
  have g20 : (s.toList == [41]) = false := by rw [beq_eq_false_iff_ne]; exact h20
  clear h20
  by_cases h21 : s.toList = [91]
  · have Hn := Lib.hid (show opB s = true by unfold opB opers; rw [List.any_eq_true]; exact ⟨⟨#[91]⟩, by simp, by rw [h21, ByteArray.toList_eq]; rfl⟩)
    have g : (s.toList == [91]) = true := by rw [h21]; decide
    clear h21
    go_enter Try.func10, Try.ntmps10
    go_wp2_with fail
    go_ret
    exact ⟨ret_bool Hn.out.symm, rfl⟩
  have g21 : (s.toList == [91]) = false := by rw [beq_eq_false_iff_ne]; exact h21
  clear h21
  by_cases h22 : s.toList = [93]
  · have Hn := Lib.hid (show opB s = true by unfold opB opers; rw [List.any_eq_true]; exact ⟨⟨#[93]⟩, by simp, by rw [h22, ByteArray.toList_eq]; rfl⟩)
    have g : (s.toList == [93]) = true := by rw [h22]; decide
    clear h22
    go_enter Try.func10, Try.ntmps10
    go_wp2_with fail
    go_ret
    exact ⟨ret_bool Hn.out.symm, rfl⟩
  have g22 : (s.toList == [93]) = false := by rw [beq_eq_false_iff_ne]; exact h22
  clear h22
  by_cases h23 : s.toList = [123]
  · have Hn := Lib.hid (show opB s = true by unfold opB opers; rw [List.any_eq_true]; exact ⟨⟨#[123]⟩, by simp, by rw [h23, ByteArray.toList_eq]; rfl⟩)
    have g : (s.toList == [123]) = true := by rw [h23]; decide
    clear h23
    go_enter Try.func10, Try.ntmps10
    go_wp2_with fail
    go_ret
    exact ⟨ret_bool Hn.out.symm, rfl⟩
  have g23 : (s.toList == [123]) = false := by rw [beq_eq_false_iff_ne]; exact h23
  clear h23
  by_cases h24 : s.toList = [125]
  · have Hn := Lib.hid (show opB s = true by unfold opB opers; rw [List.any_eq_true]; exact ⟨⟨#[125]⟩, by simp, by rw [h24, ByteArray.toList_eq]; rfl⟩)
    have g : (s.toList == [125]) = true := by rw [h24]; decide
    clear h24
    go_enter Try.func10, Try.ntmps10
    go_wp2_with fail
    go_ret
    exact ⟨ret_bool Hn.out.symm, rfl⟩
  have g24 : (s.toList == [125]) = false := by rw [beq_eq_false_iff_ne]; exact h24
  clear h24
  by_cases h25 : s.toList = [44]
  · have Hn := Lib.hid (show opB s = true by unfold opB opers; rw [List.any_eq_true]; exact ⟨⟨#[44]⟩, by simp, by rw [h25, ByteArray.toList_eq]; rfl⟩)
    have g : (s.toList == [44]) = true := by rw [h25]; decide
    clear h25
    go_enter Try.func10, Try.ntmps10
    go_wp2_with fail
    go_ret
    exact ⟨ret_bool Hn.out.symm, rfl⟩
  have g25 : (s.toList == [44]) = false := by rw [beq_eq_false_iff_ne]; exact h25
  clear h25
  by_cases h26 : s.toList = [46]
  · have Hn := Lib.hid (show opB s = true by unfold opB opers; rw [List.any_eq_true]; exact ⟨⟨#[46]⟩, by simp, by rw [h26, ByteArray.toList_eq]; rfl⟩)
    have g : (s.toList == [46]) = true := by rw [h26]; decide
    clear h26
    go_enter Try.func10, Try.ntmps10
    go_wp2_with fail
    go_ret
    exact ⟨ret_bool Hn.out.symm, rfl⟩
  have g26 : (s.toList == [46]) = false := by rw [beq_eq_false_iff_ne]; exact h26
  clear h26
  by_cases h27 : s.toList = [59]
  · have Hn := Lib.hid (show opB s = true by unfold opB opers; rw [List.any_eq_true]; exact ⟨⟨#[59]⟩, by simp, by rw [h27, ByteArray.toList_eq]; rfl⟩)
    have g : (s.toList == [59]) = true := by rw [h27]; decide
    clear h27
    go_enter Try.func10, Try.ntmps10
    go_wp2_with fail
    go_ret
    exact ⟨ret_bool Hn.out.symm, rfl⟩
  have g27 : (s.toList == [59]) = false := by rw [beq_eq_false_iff_ne]; exact h27
  clear h27
  by_cases h28 : s.toList = [61]
  · have Hn := Lib.hid (show opB s = true by unfold opB opers; rw [List.any_eq_true]; exact ⟨⟨#[61]⟩, by simp, by rw [h28, ByteArray.toList_eq]; rfl⟩)
    have g : (s.toList == [61]) = true := by rw [h28]; decide
    clear h28
    go_enter Try.func10, Try.ntmps10
    go_wp2_with fail
    go_ret
    exact ⟨ret_bool Hn.out.symm, rfl⟩
  have g28 : (s.toList == [61]) = false := by rw [beq_eq_false_iff_ne]; exact h28
  clear h28
  by_cases h29 : s.toList = [58, 61]
  · have Hn := Lib.hid (show opB s = true by unfold opB opers; rw [List.any_eq_true]; exact ⟨⟨#[58, 61]⟩, by simp, by rw [h29, ByteArray.toList_eq]; rfl⟩)
    have g : (s.toList == [58, 61]) = true := by rw [h29]; decide
    clear h29
    go_enter Try.func10, Try.ntmps10
    go_wp2_with fail
    go_ret
    exact ⟨ret_bool Hn.out.symm, rfl⟩
  have g29 : (s.toList == [58, 61]) = false := by rw [beq_eq_false_iff_ne]; exact h29
  clear h29
  by_cases h30 : s.toList = [58]
  · have Hn := Lib.hid (show opB s = true by unfold opB opers; rw [List.any_eq_true]; exact ⟨⟨#[58]⟩, by simp, by rw [h30, ByteArray.toList_eq]; rfl⟩)
    have g : (s.toList == [58]) = true := by rw [h30]; decide
    clear h30
    go_enter Try.func10, Try.ntmps10
    go_wp2_with fail
    go_ret
    exact ⟨ret_bool Hn.out.symm, rfl⟩
  have g30 : (s.toList == [58]) = false := by rw [beq_eq_false_iff_ne]; exact h30
  clear h30
  by_cases h31 : s.toList = [126]
  · have Hn := Lib.hid (show opB s = true by unfold opB opers; rw [List.any_eq_true]; exact ⟨⟨#[126]⟩, by simp, by rw [h31, ByteArray.toList_eq]; rfl⟩)
    have g : (s.toList == [126]) = true := by rw [h31]; decide
    clear h31
    go_enter Try.func10, Try.ntmps10
    go_wp2_with fail
    go_ret
    exact ⟨ret_bool Hn.out.symm, rfl⟩
  have g31 : (s.toList == [126]) = false := by rw [beq_eq_false_iff_ne]; exact h31
  clear h31
  by_cases h32 : s.toList = [46, 46, 46]
  · have Hn := Lib.hid (show opB s = true by unfold opB opers; rw [List.any_eq_true]; exact ⟨⟨#[46, 46, 46]⟩, by simp, by rw [h32, ByteArray.toList_eq]; rfl⟩)
    have g : (s.toList == [46, 46, 46]) = true := by rw [h32]; decide
    clear h32
    go_enter Try.func10, Try.ntmps10
    go_wp2_with fail
    go_ret
    exact ⟨ret_bool Hn.out.symm, rfl⟩
  have g32 : (s.toList == [46, 46, 46]) = false := by rw [beq_eq_false_iff_ne]; exact h32
  clear h32
  have Hn := Lib.hid (show opB s = false by
    have e : ∀ x : List UInt8, (ByteArray.mk x.toArray).toList = x := fun x => by rw [ByteArray.toList_eq]
    unfold opB opers
    simp only [List.any_cons, List.any_nil]
    rw [show (ByteArray.mk #[43]).toList = [43] from e [43], g0, show (ByteArray.mk #[45]).toList = [45] from e [45], g1, show (ByteArray.mk #[42]).toList = [42] from e [42], g2, show (ByteArray.mk #[47]).toList = [47] from e [47], g3, show (ByteArray.mk #[37]).toList = [37] from e [37], g4, show (ByteArray.mk #[38]).toList = [38] from e [38], g5, show (ByteArray.mk #[124]).toList = [124] from e [124], g6, show (ByteArray.mk #[94]).toList = [94] from e [94], g7, show (ByteArray.mk #[60, 60]).toList = [60, 60] from e [60, 60], g8, show (ByteArray.mk #[62, 62]).toList = [62, 62] from e [62, 62], g9, show (ByteArray.mk #[38, 38]).toList = [38, 38] from e [38, 38], g10, show (ByteArray.mk #[124, 124]).toList = [124, 124] from e [124, 124], g11, show (ByteArray.mk #[61, 61]).toList = [61, 61] from e [61, 61], g12, show (ByteArray.mk #[33, 61]).toList = [33, 61] from e [33, 61], g13, show (ByteArray.mk #[60]).toList = [60] from e [60], g14, show (ByteArray.mk #[60, 61]).toList = [60, 61] from e [60, 61], g15, show (ByteArray.mk #[62]).toList = [62] from e [62], g16, show (ByteArray.mk #[62, 61]).toList = [62, 61] from e [62, 61], g17, show (ByteArray.mk #[33]).toList = [33] from e [33], g18, show (ByteArray.mk #[40]).toList = [40] from e [40], g19, show (ByteArray.mk #[41]).toList = [41] from e [41], g20, show (ByteArray.mk #[91]).toList = [91] from e [91], g21, show (ByteArray.mk #[93]).toList = [93] from e [93], g22, show (ByteArray.mk #[123]).toList = [123] from e [123], g23, show (ByteArray.mk #[125]).toList = [125] from e [125], g24, show (ByteArray.mk #[44]).toList = [44] from e [44], g25, show (ByteArray.mk #[46]).toList = [46] from e [46], g26, show (ByteArray.mk #[59]).toList = [59] from e [59], g27, show (ByteArray.mk #[61]).toList = [61] from e [61], g28, show (ByteArray.mk #[58, 61]).toList = [58, 61] from e [58, 61], g29, show (ByteArray.mk #[58]).toList = [58] from e [58], g30, show (ByteArray.mk #[126]).toList = [126] from e [126], g31, show (ByteArray.mk #[46, 46, 46]).toList = [46, 46, 46] from e [46, 46, 46], g32]
    rfl)
  go_enter Try.func10, Try.ntmps10
  go_wp2_with fail
  go_ret
  exact ⟨ret_bool Hn.out.symm, rfl⟩
end Go.Proofs.Ytjhgibdebcapfaa
