/- Digits: what a byte stands for; which texts are numbers; the bases. -/
import Derived.Test.YtondjnmpfpfpmaaDoorNatSame
namespace Go.Proofs.YtondjnmpfpfpmaaDoor
open Go.RowKit NM

/-- What a byte stands for; a great number, if it is no digit. -/
def dg (c : Int) : Int := if 48 ≤ c ∧ c ≤ 57 then c - 48 else if 97 ≤ c ∧ c ≤ 102 then c - 87 else if 65 ≤ c ∧ c ≤ 70 then c - 55 else 512

set_option maxHeartbeats 800000 in
theorem digit_any (c : Int) (w : World) (h0 : 0 ≤ c) (h1 : c < 256) :
    Calls Tryd.prog 49 #[.int .u8 c] w fun e w' => e = .returned (.int .i64 (dg c)) ∧ w = w' := by
  go_enter Tryd.func49, Tryd.ntmps49
  go_wp2_with fail
  all_goals
    go_ret
    refine ⟨ret_int ?_, rfl⟩
    unfold dg
    (repeat' split) <;> omega

/-- The byte of a text at a place, as a number. -/
def byteAt (s : ByteArray) (k : Nat) : Int := ((s.data[k]?.getD 0).toNat : Int)
theorem byteAt_eq {s : ByteArray} {k : Nat} (h : k < s.size) : byteAt s k = (s[k].toNat : Int) := by
  unfold byteAt
  rw [Array.getElem?_eq_getElem (by simpa using h)]
  rfl
/-- The digit at a place of a text. -/
def dAt (s : ByteArray) (k : Nat) : Int := dg (byteAt s k)
/-- A text of a base: one digit or more. -/
def toldB (s : ByteArray) (b : Int) : Bool := decide (0 < s.size ∧ ∀ k, k < s.size → dAt s k < b)

theorem told_bad {s : ByteArray} {b : Int} (k : Nat) (hk : k < s.size) (h : b ≤ dAt s k) : toldB s b = false := by
  unfold toldB
  rw [decide_eq_false_iff_not]
  intro ⟨_, h2⟩
  have := h2 k hk
  omega
theorem list_ne {s : ByteArray} (h : 0 < s.size) : s.toList.isEmpty = false := by
  rw [ByteArray.toList_eq, List.isEmpty_eq_false_iff]
  intro e
  have : s.data.toList.length = 0 := by rw [e]; rfl
  have h2 : s.data.toList.length = s.size := by simp
  omega
theorem list_nil {s : ByteArray} (h : s.size = 0) : s.toList.isEmpty = true := by
  rw [ByteArray.toList_eq, List.isEmpty_iff]
  exact List.eq_nil_of_length_eq_zero (by simpa using h)

set_option maxHeartbeats 800000 in
set_option maxRecDepth 100000 in
theorem told_any (s : ByteArray) (b : Int) (w : World) (hs : s.size ≤ 1000000) :
    Calls Tryd.prog 48 #[.string s, .int .i64 b] w fun e w' => e = .returned (.bool (toldB s b)) ∧ w = w' := by
  go_enter Tryd.func48, Tryd.ntmps48
  go_wp2_with fail
  go_loop [5, 8] (fun _ i => ∃ k : Nat, k ≤ s.size ∧ i = .int .i64 k ∧ Hid (∀ j, j < k → dAt s j < b)) (fun _ i => s.size - (intOf i).toNat)
  case atStart => exact ⟨0, Nat.zero_le _, rfl, Lib.hid (fun j hj => absurd hj (Nat.not_lt_zero _))⟩
  case round =>
    obtain ⟨k, hk, rfl, hok⟩ := hrel
    by_cases hlt : k < s.size
    · have hb := Lib.hid (byteAt_eq hlt)
      have hbb : (s[k].toNat : Int) < 256 := by have := UInt8.toNat_lt s[k]; omega
      have hd : dAt s k = dg (s[k].toNat : Int) := by unfold dAt; rw [hb.out]
      by_cases h : b ≤ dg (s[k].toNat : Int)
      · have hn := Lib.hid (told_bad (b := b) k hlt (by rw [hd]; exact h))
        clear hd
        go_wp2_with (go_at_call 49; refine (digit_any _ _ (by omega) hbb).mono ?_; rintro e w' ⟨rfl, rfl⟩)
        go_ret
        exact ⟨ret_bool hn.out.symm, rfl⟩
      · have hn := Lib.hid (show ∀ j, j < k + 1 → dAt s j < b from fun j hj => by
          by_cases e : j = k
          · rw [e, hd]; omega
          · exact hok.out j (by omega))
        clear hd
        go_wp2_with (go_at_call 49; refine (digit_any _ _ (by omega) hbb).mono ?_; rintro e w' ⟨rfl, rfl⟩)
        go_round
        case rel => exact ⟨k + 1, by omega, by go_num, hn⟩
        case measure => simp [intOf]; omega
    · have hk2 : k = s.size := by omega
      by_cases h0 : 0 < s.size
      · have hn := Lib.hid (show toldB s b = true by
          unfold toldB
          rw [decide_eq_true_iff]
          exact ⟨h0, fun j hj => hok.out j (by omega)⟩)
        have hne := list_ne h0
        go_wp2_with fail
        go_ret
        exact ⟨ret_bool (by rw [hn.out]), rfl⟩
      · have hn := Lib.hid (show toldB s b = false by
          unfold toldB
          rw [decide_eq_false_iff_not]
          exact fun h => h0 h.1)
        have hne := list_nil (s := s) (by omega)
        go_wp2_with fail
        go_ret
        exact ⟨ret_bool (by rw [hn.out]), rfl⟩
end Go.Proofs.YtondjnmpfpfpmaaDoor
