/- Contracts of the small functions of src and of the document's own answer: letters, names. -/
import Derived.Test.YtkafkcmhekgheaaGreatDoorRows
import Derived.WalkKit
import Derived.WalkSpells
import Derived.WalkLawsBesides
import Derived.Lib.Hide
import Derived.Deep.QuietTactic
import Derived.BigQuiet
namespace Go.Proofs.YtkafkcmhekgheaaGreatDoor
open Go.RowKit

/-- A byte that may begin a name. -/
def letB (c : Int) : Bool := decide ((97 ≤ c ∧ c ≤ 122) ∨ (65 ≤ c ∧ c ≤ 90) ∨ c = 95)
def upB (c : Int) : Bool := decide (65 ≤ c ∧ c ≤ 90)
def digB (c : Int) : Bool := decide (48 ≤ c ∧ c ≤ 57)

theorem ret_bool {a b : Bool} (h : a = b) : Ending.returned (.bool a) = .returned (.bool b) := by rw [h]
theorem ret_int {k : IntKind} {a b : Int} (h : a = b) : Ending.returned (.int k a) = .returned (.int k b) := by rw [h]

/-- A byte that may stand in a name. -/
def inB (c : Int) : Bool := letB c || digB c
/-- The byte of a text at a place, as a number. -/
def byteAt (s : ByteArray) (k : Nat) : Int := ((s.data[k]?.getD 0).toNat : Int)
theorem byteAt_eq {s : ByteArray} {k : Nat} (h : k < s.size) : byteAt s k = (s[k].toNat : Int) := by
  unfold byteAt
  rw [Array.getElem?_eq_getElem (by simpa using h)]
  rfl
/-- A text that is a name. -/
def nameB (s : ByteArray) : Bool := decide (0 < s.size ∧ s.size ≤ 20 ∧ letB (byteAt s 0) = true ∧ ∀ k, k < s.size → inB (byteAt s k) = true)

theorem empty_false {s : ByteArray} (h : 0 < s.size) : s.toList.isEmpty = false := by
  rw [ByteArray.toList_eq, List.isEmpty_eq_false_iff]
  intro e
  have : s.data.toList.length = 0 := by rw [e]; rfl
  have h2 : s.data.toList.length = s.size := by simp
  omega
theorem list_ne {s : ByteArray} (h : 0 < s.size) : ¬ s.toList = [] := by
  have := empty_false h
  intro e
  rw [e] at this
  cases this
theorem empty_true {s : ByteArray} (h : s.size = 0) : s.toList = [] := by
  rw [ByteArray.toList_eq]
  exact List.eq_nil_of_length_eq_zero (by simpa using h)

theorem nameB_no (s : ByteArray) (h : ¬ (0 < s.size ∧ s.size ≤ 20 ∧ letB (byteAt s 0) = true)) : nameB s = false := by
  unfold nameB
  rw [decide_eq_false_iff_not]
  exact fun ⟨a, b, c, _⟩ => h ⟨a, b, c⟩
theorem nameB_bad (s : ByteArray) (k : Nat) (hk : k < s.size) (h : inB (byteAt s k) = false) : nameB s = false := by
  unfold nameB
  rw [decide_eq_false_iff_not]
  exact fun ⟨_, _, _, d⟩ => by have := d k hk; rw [h] at this; cases this
theorem nameB_yes (s : ByteArray) (a : 0 < s.size) (b : s.size ≤ 20) (c : letB (byteAt s 0) = true) (d : ∀ k, k < s.size → inB (byteAt s k) = true) : nameB s = true := by
  unfold nameB
  rw [decide_eq_true_iff]
  exact ⟨a, b, c, d⟩

/-- The first k bytes may stand in a name. -/
def OkTo (s : ByteArray) (k : Nat) : Prop := ∀ j, j < k → inB (byteAt s j) = true
theorem okTo_succ {s : ByteArray} {k : Nat} (h : OkTo s k) (hk : inB (byteAt s k) = true) : OkTo s (k + 1) := by
  intro j hj
  by_cases e : j = k
  · subst e; exact hk
  · exact h j (by omega)

end Go.Proofs.YtkafkcmhekgheaaGreatDoor

