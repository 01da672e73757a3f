/- The reference's Text of a fraction. -/
import Derived.Test.YthmhljfaenekfaaRatRefL
namespace Go.Proofs.Ythmhljfaenekfaa
open Go.RowKit NM

/-- The text of a fraction. -/
def fracStr (neg : Bool) (N D : Nat) : ByteArray :=
  let s := if neg then (⟨#[45]⟩ : ByteArray) ++ numStr N else numStr N
  if D = 1 then s else (s ++ ⟨#[47]⟩) ++ numStr D
theorem fracStr_rat (x : Rat) : fracStr (decide (x.num < 0)) x.num.natAbs x.den = ratStr x := by
  unfold fracStr ratStr
  simp only [ByteArray.append_assoc]

set_option maxHeartbeats 1600000 in
set_option maxRecDepth 100000 in
theorem textF_fun (neg : Bool) (N D : Nat) (bad : Bool) (w : World) (hN : Far N) (hD : Far D) :
    Calls Try.prog 15 #[fracV neg N D bad] w fun e w' => e = .returned (.string (fracStr neg N D)) ∧ Below w.heap.size w w' := by
  have z1 := numStr_size (N := (N : Int)) hN.lt
  have z2 := numStr_size (N := (D : Int)) hD.lt
  have hz := Lib.hid (show fracStr neg N D = if D = 1 then (if neg then (⟨#[45]⟩ : ByteArray) ++ numStr N else numStr N) else ((if neg then (⟨#[45]⟩ : ByteArray) ++ numStr N else numStr N) ++ ⟨#[47]⟩) ++ numStr D from rfl)
  rw [hz.out]
  have h49 : (numStr D).toList == [49] ↔ D = 1 := by
    by_cases h : D = 1
    · have := list_is49 (q := numStr D) (b := true) (fun _ => (str_one D).1 h) (fun h => by cases h)
      exact ⟨fun _ => h, fun _ => this⟩
    · have := list_is49 (q := numStr D) (b := false) (fun h => by cases h) (fun _ => (str_one D).2 h)
      exact ⟨fun h2 => (by rw [this] at h2; cases h2), fun h2 => absurd h2 h⟩
  have b0 : Below w.heap.size w (w.alloc (.cells #[.bool neg, .string (numStr N), .string (numStr D), .bool bad] 37)) := (Below.refl _ _).alloc (Nat.le_refl _) _
  unfold fracV
  clear hz hN hD
  generalize numStr (N : Int) = s1 at *
  generalize numStr (D : Int) = s2 at *
  have hadd : ∀ w : World, (Op.stringOp .add ⟨#[45]⟩ s1).run Try.prog w = .ok (.string (⟨#[45]⟩ ++ s1)) w := fun w => run_string_add_sum w _ _ (by show 1 + _ ≤ _; omega)
  have hadd2 : ∀ w : World, (Op.stringOp .add s1 ⟨#[47]⟩).run Try.prog w = .ok (.string (s1 ++ ⟨#[47]⟩)) w := fun w => run_string_add_sum w _ _ (by show _ + 1 ≤ _; omega)
  have hadd3 : ∀ w : World, (Op.stringOp .add (s1 ++ ⟨#[47]⟩) s2).run Try.prog w = .ok (.string ((s1 ++ ⟨#[47]⟩) ++ s2)) w := fun w => run_string_add_sum w _ _ (by rw [ByteArray.size_append]; show (_ + 1) + _ ≤ _; omega)
  have hadd4 : ∀ w : World, (Op.stringOp .add (⟨#[45]⟩ ++ s1) ⟨#[47]⟩).run Try.prog w = .ok (.string ((⟨#[45]⟩ ++ s1) ++ ⟨#[47]⟩)) w := fun w => run_string_add_sum w _ _ (by rw [ByteArray.size_append]; show (1 + _) + 1 ≤ _; omega)
  have hadd5 : ∀ w : World, (Op.stringOp .add ((⟨#[45]⟩ ++ s1) ++ ⟨#[47]⟩) s2).run Try.prog w = .ok (.string (((⟨#[45]⟩ ++ s1) ++ ⟨#[47]⟩) ++ s2)) w := fun w => run_string_add_sum w _ _ (by rw [ByteArray.size_append, ByteArray.size_append]; show ((1 + _) + 1) + _ ≤ _; omega)
  clear z1 z2
  by_cases h : D = 1
  · have hl : (s2.toList == [49]) = true := h49.2 h
    have hl2 : (s2.toList != [49]) = false := by rw [bne, hl]; rfl
    rw [if_pos h]
    clear h h49
    cases neg
    all_goals
      go_enter Try.func15, Try.ntmps15
      go_wp2_with fail
      go_ret
      exact ⟨rfl, b0⟩
  · have hl : (s2.toList == [49]) = false := by
      cases hb : (s2.toList == [49])
      · rfl
      · exact absurd (h49.1 hb) h
    have hl2 : (s2.toList != [49]) = true := by rw [bne, hl]; rfl
    rw [if_neg h]
    clear h h49
    cases neg
    all_goals
      go_enter Try.func15, Try.ntmps15
      go_wp2_with fail
      go_ret
      exact ⟨rfl, b0⟩
end Go.Proofs.Ythmhljfaenekfaa
