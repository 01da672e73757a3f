import Derived.Test.YtkmnfkhchcoamaaGreatDoorTyA
/- madeB, kind by kind. -/
namespace Go.Proofs.YtkmnfkhchcoamaaGreatDoor
open Go.RowKit
set_option linter.unusedSimpArgs false
set_option linter.unusedVariables false

theorem kidsB_no {l : List Ty} {ks : List Int} {k : Nat} (hk : k < ks.length) (h : ¬ (0 ≤ ks.getD k 0 ∧ ks.getD k 0 < (l.length : Int))) : kidsB l ks = false := by
  unfold kidsB
  rw [Bool.eq_false_iff]
  intro ha
  rw [List.all_eq_true] at ha
  exact h (of_decide_eq_true (ha _ (getD_mem hk)))
theorem kidsB_yes {l : List Ty} {ks : List Int} (h : ∀ k, k < ks.length → (0 ≤ ks.getD k 0 ∧ ks.getD k 0 < (l.length : Int))) : kidsB l ks = true := by
  unfold kidsB
  rw [List.all_eq_true]
  intro x hx
  obtain ⟨j, hj, rfl⟩ := List.getElem_of_mem hx
  have := h j hj
  rw [getD_of hj] at this
  exact decide_eq_true this
theorem kidsB_in {l : List Ty} {ks : List Int} (h : kidsB l ks = true) : ∀ k ∈ ks, 0 ≤ k ∧ k < (l.length : Int) := by
  unfold kidsB at h
  rw [List.all_eq_true] at h
  exact fun k hk => of_decide_eq_true (h k hk)
section
variable {l : List Ty} {a n : Int} {s : ByteArray} {ws : List ByteArray} {ks : List Int}
theorem made_kids (h : kidsB l ks = false) : madeB l ⟨a, s, n, ws, ks⟩ = false := by
  unfold madeB
  rw [show kidsB l (⟨a, s, n, ws, ks⟩ : Ty).kids = false from h]; rfl
theorem made_many (h : 16 < ks.length) : madeB l ⟨a, s, n, ws, ks⟩ = false := by
  have hn : ks ≠ [] := by intro e; rw [e] at h; exact absurd h (by simp)
  rw [Bool.eq_false_iff]
  intro g
  unfold madeB at g
  rw [Bool.and_eq_true] at g
  have g := g.2
  repeat' split at g
  all_goals (simp [bareB, hn] at g <;> omega)
theorem made_name (h8 : ¬ a = 8) (h : ¬ s.size = 0) : madeB l ⟨a, s, n, ws, ks⟩ = false := by
  rw [Bool.eq_false_iff]
  intro g
  unfold madeB at g
  rw [Bool.and_eq_true] at g
  have g := g.2
  repeat' split at g
  all_goals first | omega | (exfalso; simp only [bareB, Bool.and_eq_true, decide_eq_true_eq] at g; first | exact h g.1.1 | exact h g.1.1.1 | exact h g.1 | omega) | (simp [bareB, h] at g)
theorem made_words (h6 : ¬ a = 6) (h7 : ¬ a = 7) (h : 0 < ws.length) : madeB l ⟨a, s, n, ws, ks⟩ = false := by
  have hw : ws ≠ [] := by intro e; rw [e] at h; exact absurd h (by simp)
  rw [Bool.eq_false_iff]
  intro g
  unfold madeB at g
  rw [Bool.and_eq_true] at g
  have g := g.2
  repeat' split at g
  all_goals (simp [bareB, hw] at g <;> simp at * <;> omega)
theorem made_other (h1 : ¬ a = 1) (h2 : ¬ a = 2) (h3 : ¬ a = 3) (h4 : ¬ a = 4) (h5 : ¬ a = 5) (h6 : ¬ a = 6) (h7 : ¬ a = 7) (h8 : ¬ a = 8) (h9 : ¬ a = 9) : madeB l ⟨a, s, n, ws, ks⟩ = false := by
  simp [madeB, h1, h2, h3, h4, h5, h6, h7, h8, h9]
variable (hk : kidsB l ks = true) (hs : s.size = 0) (hw : ws = [])
include hk
theorem made1 (hs : s.size = 0) (hw : ws = []) : madeB l ⟨1, s, n, ws, ks⟩ = decide (ks.length = 1 ∧ n = 0) := by simp [madeB, bareB, hk, hs, hw]
theorem made2 (hs : s.size = 0) (hw : ws = []) : madeB l ⟨2, s, n, ws, ks⟩ = decide (ks.length = 1 ∧ n = 0) := by simp [madeB, bareB, hk, hs, hw]
theorem made3 (hs : s.size = 0) (hw : ws = []) : madeB l ⟨3, s, n, ws, ks⟩ = decide (ks.length = 1 ∧ 0 ≤ n ∧ n ≤ 2147483648) := by simp [madeB, bareB, hk, hs, hw]
theorem made4 (hs : s.size = 0) (hw : ws = []) : madeB l ⟨4, s, n, ws, ks⟩ = decide (ks.length = 2 ∧ n = 0) := by simp [madeB, bareB, hk, hs, hw]
theorem made5 (hs : s.size = 0) (hw : ws = []) : madeB l ⟨5, s, n, ws, ks⟩ = decide (ks.length ≤ 16 ∧ (n = 0 ∨ n = 1 ∧ 0 < ks.length)) := by simp [madeB, bareB, hk, hs, hw]
theorem made6 (hs : s.size = 0) : madeB l ⟨6, s, n, ws, ks⟩ = (decide (n = 0 ∧ ks.length ≤ 16 ∧ ws.length = ks.length) && fieldsB ws) := by simp [madeB, bareB, hk, hs]
theorem made7 (hs : s.size = 0) : madeB l ⟨7, s, n, ws, ks⟩ = (decide (0 ≤ n ∧ n ≤ 3 ∧ ks.length ≤ 16 ∧ ws.length = ks.length) && elemsB l n ws ks) := by simp [madeB, bareB, hk, hs]
theorem made8 : madeB l ⟨8, s, n, ws, ks⟩ = (namedB s && decide (ks.length ≤ 16 ∧ n = 0 ∧ ws = [])) := by simp [madeB, bareB, hk]
theorem made9 (hs : s.size = 0) (hw : ws = []) : madeB l ⟨9, s, n, ws, ks⟩ = decide (ks.length = 0 ∧ 0 ≤ n ∧ n < 16) := by simp [madeB, bareB, hk, hs, hw]
end
end Go.Proofs.YtkmnfkhchcoamaaGreatDoor

