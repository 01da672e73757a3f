/- The reference's Div: begun. -/
import Derived.Test.YtondjnmpfpfpmaaDoorNatRefParse
namespace Go.Proofs.YtondjnmpfpfpmaaDoor
open Go.RowKit NM

theorem dstr_digit (d : Int) (ds : List Int) : dstr (d :: ds) = dstr ds ++ ⟨#[b8 d]⟩ := by
  apply ByteArray.ext
  simp [dstr, strOfNums, b8]
/-- A digit more behind a text, without zeros ahead. -/
theorem trim_digit (s : ByteArray) (A d : Int) (w : World) (h : DecStr s A) (hA : A < big) (d0 : 0 ≤ d) (d1 : d < 10) :
    Calls Tryd.prog 40 #[.string (s ++ ⟨#[b8 d]⟩)] w fun e w' => (∃ s, e = .returned (.string s) ∧ DecStr s (d + 10 * A)) ∧ w = w' := by
  obtain ⟨ds, hd, rfl⟩ := h
  have hl := dec_small hd hA
  have h1 := trim_dec (d :: ds) w (by intro x hx; rcases List.mem_cons.1 hx with rfl | hx; exact ⟨d0, d1⟩; exact hd.1 x hx) (by simp) (by simp; omega)
  rw [dstr_digit] at h1
  have e : dv (d :: ds) = d + 10 * A := by rw [dv, hd.2.1]
  rw [e] at h1
  exact h1

/-- Long division by digits: one digit more. -/
theorem div_digit {P B d : Int} (hB : 0 < B) : (d + 10 * P) / B = (d + 10 * (P % B)) / B + 10 * (P / B) ∧ (d + 10 * P) % B = (d + 10 * (P % B)) % B := by
  have h := Int.mul_ediv_add_emod P B
  have e : d + 10 * P = (d + 10 * (P % B)) + B * (10 * (P / B)) := by
    rw [Int.mul_left_comm]
    omega
  rw [e]
  refine ⟨?_, ?_⟩
  · rw [Int.add_mul_ediv_left _ _ (by omega)]
  · rw [Int.add_mul_emod_self_left]
/-- Taken off as often as it goes. -/
theorem off_done {r0 r B n : Int} (hB : 0 < B) (h : r0 = r + n * B) (h0 : 0 ≤ r) (h1 : r < B) : r0 / B = n ∧ r0 % B = r := by
  subst h
  refine ⟨?_, ?_⟩
  · rw [Int.add_mul_ediv_right _ _ (by omega), Int.ediv_eq_zero_of_lt h0 h1, Int.zero_add]
  · rw [Int.add_mul_emod_self_right, Int.emod_eq_of_lt h0 h1]
theorem off_few {r B n : Int} (hB : 0 < B) (h : r + n * B < 10 * B) (h0 : B ≤ r) : n < 9 := by
  have h1 : (n + 1) * B < 10 * B := by rw [Int.add_mul]; omega
  have := Int.lt_of_mul_lt_mul_right h1 (by omega)
  omega
end Go.Proofs.YtondjnmpfpfpmaaDoor
