/- The reference's larger, smaller, Less. -/
import Derived.Test.YthmhljfaenekfaaRatRefM
namespace Go.Proofs.Ythmhljfaenekfaa
open Go.RowKit NM

set_option maxHeartbeats 800000 in
theorem larger_fun (A B : Nat) (w : World) (hA : Far A) (hB : Far B) :
    Calls Try.prog 54 #[.string (numStr A), .string (numStr B)] w fun e w' => e = .returned (.string (numStr ((max A B : Nat) : Int))) ∧ w = w' := by
  have HC := fun w => cmp_fun (A : Int) (B : Int) w (by omega) (by omega) hA.lt hB.lt
  by_cases h : B ≤ A
  · have hm := Lib.hid (show max A B = A by omega)
    obtain ⟨g, hg, hg0⟩ : ∃ g, sgn (A : Int) (B : Int) = g ∧ 0 ≤ g := ⟨_, rfl, sgn_ge (by omega)⟩
    rw [hg] at HC
    have HC := Lib.hid HC
    rw [hm.out]
    clear hg h hA hB hm
    go_enter Try.func54, Try.ntmps54
    go_wp2_with fail
    refine (HC.out _).mono ?_
    rintro e w' ⟨rfl, rfl⟩
    go_wp2_with fail
    go_ret
    exact ⟨rfl, rfl⟩
  · have hm := Lib.hid (show max A B = B by omega)
    rw [sgn_less (by omega)] at HC
    have HC := Lib.hid HC
    rw [hm.out]
    clear h hA hB hm
    go_enter Try.func54, Try.ntmps54
    go_wp2_with fail
    refine (HC.out _).mono ?_
    rintro e w' ⟨rfl, rfl⟩
    go_wp2_with fail
    go_ret
    exact ⟨rfl, rfl⟩
set_option maxHeartbeats 800000 in
theorem smaller_fun (A B : Nat) (w : World) (hA : Far A) (hB : Far B) :
    Calls Try.prog 55 #[.string (numStr A), .string (numStr B)] w fun e w' => e = .returned (.string (numStr ((min A B : Nat) : Int))) ∧ w = w' := by
  have HC := fun w => cmp_fun (A : Int) (B : Int) w (by omega) (by omega) hA.lt hB.lt
  by_cases h : B ≤ A
  · have hm := Lib.hid (show min A B = B by omega)
    obtain ⟨g, hg, hg0⟩ : ∃ g, sgn (A : Int) (B : Int) = g ∧ 0 ≤ g := ⟨_, rfl, sgn_ge (by omega)⟩
    rw [hg] at HC
    have HC := Lib.hid HC
    rw [hm.out]
    clear hg h hA hB hm
    go_enter Try.func55, Try.ntmps55
    go_wp2_with fail
    refine (HC.out _).mono ?_
    rintro e w' ⟨rfl, rfl⟩
    go_wp2_with fail
    go_ret
    exact ⟨rfl, rfl⟩
  · have hm := Lib.hid (show min A B = A by omega)
    rw [sgn_less (by omega)] at HC
    have HC := Lib.hid HC
    rw [hm.out]
    clear h hA hB hm
    go_enter Try.func55, Try.ntmps55
    go_wp2_with fail
    refine (HC.out _).mono ?_
    rintro e w' ⟨rfl, rfl⟩
    go_wp2_with fail
    go_ret
    exact ⟨rfl, rfl⟩
set_option maxHeartbeats 800000 in
theorem less_fun (neg : Bool) (N D : Nat) (bad : Bool) (w : World) :
    Calls Try.prog 26 #[fracV neg N D bad] w fun e w' => e = .returned (fracV (!neg) N D bad) ∧ Below w.heap.size w w' := by
  unfold fracV
  generalize numStr (N : Int) = s1
  generalize numStr (D : Int) = s2
  go_enter Try.func26, Try.ntmps26
  go_wp2_with fail
  refine bodyPost_ret (v := .agg #[.bool (!neg), .string s1, .string s2, .bool bad]) (by simp [results, Try.results26, go_sem]) rfl ⟨rfl, ?_⟩
  exact ((Below.refl _ _).alloc (Nat.le_refl _) _).alloc (by simp) _
end Go.Proofs.Ythmhljfaenekfaa
