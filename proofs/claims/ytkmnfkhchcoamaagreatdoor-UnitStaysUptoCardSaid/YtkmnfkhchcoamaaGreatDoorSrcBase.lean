import Derived.Test.YtkmnfkhchcoamaaGreatDoorRows
import Derived.WalkKit
import Derived.WalkSpells
import Derived.WalkLawsBesides
import Derived.Lib.Hide
import Derived.Deep.QuietTactic
import Derived.BigQuiet
/- Contracts of the small functions of src and of the document's own answer: letters, names. -/
namespace Go.Proofs.YtkmnfkhchcoamaaGreatDoor
open Go.RowKit

/-- A byte that may begin a name. -/
def letB (c : Int) : Bool := decide ((97 ≤ c ∧ c ≤ 122) ∨ (65 ≤ c ∧ c ≤ 90) ∨ c = 95)
def upB (c : Int) : Bool := decide (65 ≤ c ∧ c ≤ 90)
def digB (c : Int) : Bool := decide (48 ≤ c ∧ c ≤ 57)

theorem ret_bool {a b : Bool} (h : a = b) : Ending.returned (.bool a) = .returned (.bool b) := by rw [h]
theorem ret_int {k : IntKind} {a b : Int} (h : a = b) : Ending.returned (.int k a) = .returned (.int k b) := by rw [h]

set_option maxHeartbeats 400000 in
theorem upper_any (c : Int) (w : World) :
    Calls Tryz.prog 87 #[.int .u8 c] w fun e w' => e = .returned (.bool (upB c)) ∧ w = w' := by
  go_enter Tryz.func87, Tryz.ntmps87
  go_wp2
  all_goals
    go_ret
    exact ⟨by simp [upB]; try omega, rfl⟩

set_option maxHeartbeats 400000 in
theorem letter_any (c : Int) (w : World) :
    Calls Tryz.prog 62 #[.int .u8 c] w fun e w' => e = .returned (.bool (letB c)) ∧ w = w' := by
  go_enter Tryz.func62, Tryz.ntmps62
  go_wp2_with (go_at_call 87; refine (upper_any _ _).mono ?_; rintro e w' ⟨rfl, rfl⟩)
  all_goals
    go_ret
    exact ⟨ret_bool (by rw [Bool.eq_iff_iff]; simp_all [letB, upB]; try omega), rfl⟩

set_option maxHeartbeats 400000 in
theorem refLetter_any (c : Int) (w : World) :
    Calls Tryz.prog 67 #[.int .u8 c] w fun e w' => e = .returned (.bool (letB c)) ∧ w = w' := by
  go_enter Tryz.func67, Tryz.ntmps67
  go_wp2
  all_goals
    go_ret
    exact ⟨ret_bool (by rw [Bool.eq_iff_iff]; simp_all [letB]; try omega), rfl⟩

/-- A byte that may stand in a name. -/
def inB (c : Int) : Bool := letB c || digB c
/-- The byte of a text at a place, as a number. -/
def byteAt (s : ByteArray) (k : Nat) : Int := ((s.data[k]?.getD 0).toNat : Int)
theorem byteAt_eq {s : ByteArray} {k : Nat} (h : k < s.size) : byteAt s k = (s[k].toNat : Int) := by
  unfold byteAt
  rw [Array.getElem?_eq_getElem (by simpa using h)]
  rfl
/-- A text that is a name. -/
def nameB (s : ByteArray) : Bool := decide (0 < s.size ∧ s.size ≤ 20 ∧ letB (byteAt s 0) = true ∧ ∀ k, k < s.size → inB (byteAt s k) = true)

theorem empty_false {s : ByteArray} (h : 0 < s.size) : s.toList.isEmpty = false := by
  rw [ByteArray.toList_eq, List.isEmpty_eq_false_iff]
  intro e
  have : s.data.toList.length = 0 := by rw [e]; rfl
  have h2 : s.data.toList.length = s.size := by simp
  omega
theorem list_ne {s : ByteArray} (h : 0 < s.size) : ¬ s.toList = [] := by
  have := empty_false h
  intro e
  rw [e] at this
  cases this
theorem empty_true {s : ByteArray} (h : s.size = 0) : s.toList = [] := by
  rw [ByteArray.toList_eq]
  exact List.eq_nil_of_length_eq_zero (by simpa using h)

theorem nameB_no (s : ByteArray) (h : ¬ (0 < s.size ∧ s.size ≤ 20 ∧ letB (byteAt s 0) = true)) : nameB s = false := by
  unfold nameB
  rw [decide_eq_false_iff_not]
  exact fun ⟨a, b, c, _⟩ => h ⟨a, b, c⟩
theorem nameB_bad (s : ByteArray) (k : Nat) (hk : k < s.size) (h : inB (byteAt s k) = false) : nameB s = false := by
  unfold nameB
  rw [decide_eq_false_iff_not]
  exact fun ⟨_, _, _, d⟩ => by have := d k hk; rw [h] at this; cases this
theorem nameB_yes (s : ByteArray) (a : 0 < s.size) (b : s.size ≤ 20) (c : letB (byteAt s 0) = true) (d : ∀ k, k < s.size → inB (byteAt s k) = true) : nameB s = true := by
  unfold nameB
  rw [decide_eq_true_iff]
  exact ⟨a, b, c, d⟩

/-- The first k bytes may stand in a name. -/
def OkTo (s : ByteArray) (k : Nat) : Prop := ∀ j, j < k → inB (byteAt s j) = true
theorem okTo_succ {s : ByteArray} {k : Nat} (h : OkTo s k) (hk : inB (byteAt s k) = true) : OkTo s (k + 1) := by
  intro j hj
  by_cases e : j = k
  · subst e; exact hk
  · exact h j (by omega)

set_option maxHeartbeats 400000 in
theorem name_any (s : ByteArray) (w : World) (hs : s.size ≤ 9223372036854775807) :
    Calls Tryz.prog 39 #[.string s] w fun e w' => e = .returned (.bool (nameB s)) ∧ w = w' := by
  by_cases h0 : s.size = 0
  · have e0 := empty_true h0
    have hn := Lib.hid (nameB_no s (by omega))
    clear h0
    go_enter Tryz.func39, Tryz.ntmps39
    go_wp2_with (go_at_call 62; refine (letter_any _ _).mono ?_; rintro e w' ⟨rfl, rfl⟩)
    go_ret
    exact ⟨ret_bool hn.out.symm, rfl⟩
  have h0' : 0 < s.size := by omega
  have e0 := empty_false h0'
  have e1 := list_ne h0'
  by_cases h1 : 20 < s.size
  · have hn := Lib.hid (nameB_no s (by omega))
    go_enter Tryz.func39, Tryz.ntmps39
    go_wp2_with (go_at_call 62; refine (letter_any _ _).mono ?_; rintro e w' ⟨rfl, rfl⟩)
    go_ret
    exact ⟨ret_bool hn.out.symm, rfl⟩
  have h1' : s.size ≤ 20 := by omega
  by_cases h2 : letB (byteAt s 0) = true
  · have h3 := h2
    rw [byteAt_eq h0'] at h3
    go_enter Tryz.func39, Tryz.ntmps39
    go_wp2_with (go_at_call 62; refine (letter_any _ _).mono ?_; rintro e w' ⟨rfl, rfl⟩)
    go_loop [3, 19] (fun _ i => ∃ k : Nat, k ≤ s.size ∧ i = .int .i64 k ∧ OkTo s k) (fun _ i => s.size - (intOf i).toNat)
    case atStart => exact ⟨0, Nat.zero_le _, rfl, fun j hj => absurd hj (Nat.not_lt_zero _)⟩
    case round =>
      obtain ⟨k, hk, rfl, hok⟩ := hrel
      by_cases hlt : k < s.size
      · have hb := byteAt_eq hlt
        by_cases hin : inB (byteAt s k) = true
        · have hnx := okTo_succ hok hin
          rw [hb] at hin
          simp only [inB, Bool.or_eq_true] at hin
          have Hb := Lib.hid hb
          clear hb
          cases hl : letB (s[k].toNat : Int)
          · have hd : digB (s[k].toNat : Int) = true := by simpa [hl] using hin
            simp only [digB, decide_eq_true_iff] at hd
            obtain ⟨hd1, hd2⟩ := hd
            clear hin
            go_wp2_with (go_at_call 62; refine (letter_any _ _).mono ?_; rintro e w' ⟨rfl, rfl⟩)
            go_round
            case rel => exact ⟨k + 1, by omega, by go_num, hnx⟩
            case measure => simp [intOf]; omega
          · clear hin
            go_wp2_with (go_at_call 62; refine (letter_any _ _).mono ?_; rintro e w' ⟨rfl, rfl⟩)
            go_round
            case rel => exact ⟨k + 1, by omega, by go_num, hnx⟩
            case measure => simp [intOf]; omega
        · have hn := Lib.hid (nameB_bad s k hlt (by simpa using hin))
          rw [hb] at hin
          simp only [inB, Bool.or_eq_true, not_or, Bool.not_eq_true, digB, decide_eq_false_iff_not] at hin
          obtain ⟨hl, hd⟩ := hin
          have Hb := Lib.hid hb
          clear hb
          by_cases hd1 : (s[k].toNat : Int) < 48
          · go_wp2_with (go_at_call 62; refine (letter_any _ _).mono ?_; rintro e w' ⟨rfl, rfl⟩)
            go_ret
            exact ⟨ret_bool hn.out.symm, rfl⟩
          · have hd2 : 57 < (s[k].toNat : Int) := by omega
            go_wp2_with (go_at_call 62; refine (letter_any _ _).mono ?_; rintro e w' ⟨rfl, rfl⟩)
            go_ret
            exact ⟨ret_bool hn.out.symm, rfl⟩
      · go_wp2_with (go_at_call 62; refine (letter_any _ _).mono ?_; rintro e w' ⟨rfl, rfl⟩)
        have : k = s.size := by omega
        subst this
        go_ret
        exact ⟨ret_bool (nameB_yes s h0' h1' h2 hok).symm, rfl⟩
  · have hn := Lib.hid (nameB_no s (fun h => h2 h.2.2))
    have h3 := h2
    rw [byteAt_eq h0'] at h3
    simp only [Bool.not_eq_true] at h3
    clear h2
    go_enter Tryz.func39, Tryz.ntmps39
    go_wp2_with (go_at_call 62; refine (letter_any _ _).mono ?_; rintro e w' ⟨rfl, rfl⟩)
    go_ret
    exact ⟨ret_bool hn.out.symm, rfl⟩
end Go.Proofs.YtkmnfkhchcoamaaGreatDoor


