/- Contracts: how many bytes the letter has that begins at a place. -/
import Derived.Test.YtkafkcmhekgheaaGreatDoorSrcBase
import Derived.Below
namespace Go.Proofs.YtkafkcmhekgheaaGreatDoor
open Go.RowKit

/-- A byte behind the first of a letter. -/
def tlB (s : ByteArray) (k : Nat) : Bool := decide (k < s.size ∧ 128 ≤ byteAt s k ∧ byteAt s k ≤ 191)
/-- How many bytes the letter has; 0: there is none. -/
def szAt (s : ByteArray) (k : Nat) : Int :=
  if byteAt s k < 128 then 1
  else if 194 ≤ byteAt s k ∧ byteAt s k ≤ 223 ∧ tlB s (k + 1) = true then 2
  else if 224 ≤ byteAt s k ∧ byteAt s k ≤ 239 ∧ tlB s (k + 1) = true ∧ tlB s (k + 2) = true then
    if byteAt s k = 224 ∧ byteAt s (k + 1) < 160 ∨ byteAt s k = 237 ∧ 159 < byteAt s (k + 1) then 0 else 3
  else if 240 ≤ byteAt s k ∧ byteAt s k ≤ 244 ∧ tlB s (k + 1) = true ∧ tlB s (k + 2) = true ∧ tlB s (k + 3) = true then
    if byteAt s k = 240 ∧ byteAt s (k + 1) < 144 ∨ byteAt s k = 244 ∧ 143 < byteAt s (k + 1) then 0 else 4
  else 0

theorem lt_of_tlB {s : ByteArray} {k : Nat} (h : tlB s k = true) : k < s.size := by
  unfold tlB at h
  rw [decide_eq_true_iff] at h
  exact h.1

set_option maxHeartbeats 400000 in
theorem tail_any (s : ByteArray) (p : Int) (w : World) (_hs : s.size ≤ 9223372036854775807) (h0 : 0 ≤ p) :
    Calls Tryz.prog 48 #[.string s, .int .i64 p] w fun e w' => e = .returned (.bool (tlB s p.toNat)) ∧ w = w' := by
  obtain ⟨k, rfl⟩ := Int.eq_ofNat_of_zero_le h0
  rw [Int.toNat_natCast]
  by_cases hk : k < s.size
  · have hb := byteAt_eq hk
    by_cases h1 : 128 ≤ (s[k].toNat : Int)
    · by_cases h2 : (s[k].toNat : Int) ≤ 191
      · have ht := Lib.hid (show tlB s k = true by simp [tlB, hb]; try omega)
        clear hb
        go_enter Tryz.func48, Tryz.ntmps48
        go_wp2_with fail
        go_ret
        exact ⟨ret_bool (by simp only [ht.out]; first | done | (simp; done) | (simp; omega)), rfl⟩
      · have ht := Lib.hid (show tlB s k = false by simp [tlB, hb]; try omega)
        clear hb
        go_enter Tryz.func48, Tryz.ntmps48
        go_wp2_with fail
        go_ret
        exact ⟨ret_bool (by simp only [ht.out]; first | done | (simp; done) | (simp; omega)), rfl⟩
    · have ht := Lib.hid (show tlB s k = false by simp [tlB, hb]; try omega)
      clear hb
      go_enter Tryz.func48, Tryz.ntmps48
      go_wp2_with fail
      go_ret
      exact ⟨ret_bool (by rw [ht.out]), rfl⟩
  · have ht := Lib.hid (show tlB s k = false by simp [tlB, hk])
    go_enter Tryz.func48, Tryz.ntmps48
    go_wp2_with fail
    go_ret
    exact ⟨ret_bool (by rw [ht.out]), rfl⟩

set_option maxHeartbeats 2000000 in
set_option maxRecDepth 100000 in
theorem size_tails (s : ByteArray) (k : Nat) (w : World) (hs : s.size ≤ 1000000) (hk : k < s.size) (h1 : tlB s (k + 1) = true) :
    Calls Tryz.prog 28 #[.string s, .int .i64 k] w fun e w' => e = .returned (.int .i64 (szAt s k)) ∧ w = w' := by
  have hb := Lib.hid (byteAt_eq hk)
  have hk1 := lt_of_tlB h1
  have hb1 := Lib.hid (byteAt_eq hk1)
  cases h2 : tlB s (k + 2)
  all_goals
    cases h3 : tlB s (k + 3)
    all_goals
      go_enter Tryz.func28, Tryz.ntmps28
      go_wp2_with (go_at_call 48; refine (tail_any s _ _ (by omega) (by omega)).mono ?_; rintro e w' ⟨rfl, rfl⟩)
      all_goals
        go_ret
        refine ⟨ret_int ?_, rfl⟩
        unfold szAt
        rw [hb.out, hb1.out, h1, h2, h3]
        simp only [Bool.false_eq_true, and_true, and_false, if_false]
        (repeat' split) <;> first | omega | exact Bool.noConfusion (h2.symm.trans ‹tlB s (k + 2) = true›) | exact Bool.noConfusion (h3.symm.trans ‹tlB s (k + 3) = true›) | exact Bool.noConfusion (h2.symm.trans ‹tlB s (k + 2) = false›) | exact Bool.noConfusion (h3.symm.trans ‹tlB s (k + 3) = false›)
set_option maxHeartbeats 1000000 in
set_option maxRecDepth 100000 in
theorem size_none (s : ByteArray) (k : Nat) (w : World) (hs : s.size ≤ 1000000) (hk : k < s.size) (h1 : tlB s (k + 1) = false) :
    Calls Tryz.prog 28 #[.string s, .int .i64 k] w fun e w' => e = .returned (.int .i64 (szAt s k)) ∧ w = w' := by
  have hb := Lib.hid (byteAt_eq hk)
  go_enter Tryz.func28, Tryz.ntmps28
  go_wp2_with (go_at_call 48; refine (tail_any s _ _ (by omega) (by omega)).mono ?_; rintro e w' ⟨rfl, rfl⟩)
  all_goals
    go_ret
    refine ⟨ret_int ?_, rfl⟩
    unfold szAt
    rw [hb.out, h1]
    simp only [Bool.false_eq_true, false_and, and_false, if_false]
    (repeat' split) <;> omega

theorem size_any (s : ByteArray) (k : Nat) (w : World) (hs : s.size ≤ 1000000) (hk : k < s.size) :
    Calls Tryz.prog 28 #[.string s, .int .i64 k] w fun e w' => e = .returned (.int .i64 (szAt s k)) ∧ w = w' := by
  cases h1 : tlB s (k + 1)
  · exact size_none s k w hs hk h1
  · exact size_tails s k w hs hk h1
end Go.Proofs.YtkafkcmhekgheaaGreatDoor

