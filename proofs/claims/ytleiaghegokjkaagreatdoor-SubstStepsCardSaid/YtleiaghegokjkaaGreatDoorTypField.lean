/- The reference's field, mark, named. -/
import Derived.Test.YtleiaghegokjkaaGreatDoorTypBase
import Derived.Deep.QuietTactic
import Derived.BigQuiet
namespace Go.Proofs.YtleiaghegokjkaaGreatDoor
open Go.RowKit
set_option linter.unusedSimpArgs false
set_option linter.unusedVariables false

theorem ret_str {a b : ByteArray} (h : a = b) : Ending.returned (.string a) = .returned (.string b) := by rw [h]
theorem idx_byte {s : ByteArray} {k : Nat} (h : k < s.size) : s.data[k]? = some s.data[k] := Array.getElem?_eq_getElem h
set_option maxHeartbeats 400000 in
theorem field_any (s : ByteArray) (w : World) (hs : s.size ≤ 9223372036854775807) :
    Calls Tryz.prog 55 #[.string s] w fun e w' => e = .returned (.string (fieldT s)) ∧ w = w' := by
  by_cases h0 : s.size = 0
  · have HR := Lib.hid (show s = fieldT s by unfold fieldT; rw [if_neg (by omega)])
    go_enter Tryz.func55, Tryz.ntmps55
    go_wp2_with fail
    go_ret
    exact ⟨ret_str HR.out, rfl⟩
  · have hk : 0 < s.size := by omega
    have hb := byteAt_eq hk
    by_cases h1 : byteAt s 0 = 43
    · have HR := Lib.hid (show s.extract 1 s.size = fieldT s by unfold fieldT; rw [if_pos ⟨hk, h1⟩])
      have h2 : (s[0].toNat : Int) = 43 := by rw [← hb]; exact h1
      clear h1 hb h0
      go_enter Tryz.func55, Tryz.ntmps55
      go_wp2_with fail
      go_ret
      exact ⟨ret_str HR.out, rfl⟩
    · have HR := Lib.hid (show s = fieldT s by unfold fieldT; rw [if_neg (by omega)])
      have h2 : ¬ (s[0].toNat : Int) = 43 := by rw [← hb]; exact h1
      clear h1 hb h0
      go_enter Tryz.func55, Tryz.ntmps55
      go_wp2_with fail
      go_ret
      exact ⟨ret_str HR.out, rfl⟩
set_option maxHeartbeats 400000 in
theorem mark_any (s : ByteArray) (w : World) :
    Calls Tryz.prog 56 #[.string s] w fun e w' => e = .returned (.bool (markB s)) ∧ w = w' := by
  unfold markB
  by_cases h1 : s.toList = [61]
  · have HR := Lib.hid (show true = (s.toList == [61] || s.toList == [126]) by rw [h1]; rfl)
    go_enter Tryz.func56, Tryz.ntmps56
    go_wp2_with fail
    go_ret
    exact ⟨ret_bool HR.out, rfl⟩
  · have h1' : (s.toList == [61]) = false := by rw [beq_eq_false_iff_ne]; exact h1
    have HR := Lib.hid (show (s.toList == [126]) = (s.toList == [61] || s.toList == [126]) by rw [h1', Bool.false_or])
    go_enter Tryz.func56, Tryz.ntmps56
    go_wp2_with fail
    go_ret
    exact ⟨ret_bool HR.out, rfl⟩
/-- The point's place, or none up to here. -/
def NoDot (s : ByteArray) (k : Nat) : Prop := ∀ j, j < k → byteAt s j ≠ 46
theorem dot_none {s : ByteArray} (h : NoDot s s.size) : dotAt s = none := by
  unfold dotAt
  rw [List.find?_eq_none]
  intro x hx
  rw [List.mem_range] at hx
  simpa using h x hx
theorem dot_some {s : ByteArray} {k : Nat} (hk : k < s.size) (h : NoDot s k) (hb : byteAt s k = 46) : dotAt s = some k := by
  unfold dotAt
  rw [List.find?_range_eq_some]
  refine ⟨by simpa using hb, List.mem_range.2 hk, fun j hj => ?_⟩
  simpa using h j hj
set_option maxHeartbeats 1000000 in
theorem named_any (s : ByteArray) (w : World) (hs : s.size ≤ 1000) :
    Calls Tryz.prog 38 #[.string s] w fun e w' => e = .returned (.bool (namedB s)) ∧ w = w' := by
  go_enter Tryz.func38, Tryz.ntmps38
  go_wp2_with fail
  go_loopw [3] (fun i wr => ∃ k : Nat, k ≤ s.size ∧ i = .int .i64 k ∧ Hid (NoDot s k) ∧ wr = w) (fun i _ => s.size - (intOf i).toNat)
  case atStart => exact ⟨0, Nat.zero_le _, rfl, Lib.hid (fun j hj => absurd hj (Nat.not_lt_zero _)), rfl⟩
  case round =>
    obtain ⟨k, hk, rfl, Hno, rfl⟩ := hrel
    by_cases hkl : k < s.size
    · have hb := byteAt_eq hkl
      by_cases hq : byteAt s k = 46
      · have h2 : (s[k].toNat : Int) = 46 := by rw [← hb]; exact hq
        have H1 := Lib.hid (refName_any (s.extract 0 k) wr (by rw [ByteArray.size_extract]; omega))
        have H2 := Lib.hid (refName_any (s.extract (k + 1) s.size) wr (by rw [ByteArray.size_extract]; omega))
        have HR := Lib.hid (show (nameB (s.extract 0 k) && nameB (s.extract (k + 1) s.size)) = namedB s by unfold namedB; rw [dot_some hkl Hno.out hq])
        clear hq hb
        cases h3 : nameB (s.extract 0 k) <;> rw [h3] at H1 HR <;> clear h3
        · rw [Bool.false_and] at HR
          go_wp2_with fail
          refine H1.out.mono ?_
          rintro e w' ⟨rfl, rfl⟩
          go_wp2_with fail
          go_ret
          exact ⟨ret_bool HR.out, rfl⟩
        · rw [Bool.true_and] at HR
          go_wp2_with fail
          refine H1.out.mono ?_
          rintro e w' ⟨rfl, rfl⟩
          go_wp2_with fail
          refine H2.out.mono ?_
          rintro e w' ⟨rfl, rfl⟩
          go_wp2_with fail
          go_ret
          exact ⟨ret_bool HR.out, rfl⟩
      · have h2 : ¬ (s[k].toNat : Int) = 46 := by rw [← hb]; exact hq
        have Hno2 := Lib.hid (show NoDot s (k + 1) from fun j hj => by
          rcases Nat.lt_or_eq_of_le (Nat.le_of_lt_succ hj) with h1 | h1
          · exact Hno.out j h1
          · rw [h1]; exact hq)
        clear hq hb
        go_wp2_with fail
        go_roundw
        case rel => exact ⟨k + 1, by omega, by go_num, Hno2, by first | rfl | trivial⟩
        case measure => simp [intOf]; omega
    · obtain rfl : k = s.size := by omega
      have HR := Lib.hid (show false = namedB s by unfold namedB; rw [dot_none Hno.out])
      go_wp2_with fail
      go_ret
      exact ⟨ret_bool HR.out, rfl⟩
end Go.Proofs.YtleiaghegokjkaaGreatDoor
