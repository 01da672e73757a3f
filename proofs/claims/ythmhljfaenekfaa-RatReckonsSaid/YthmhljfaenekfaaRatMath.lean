/- Fractions: plain mathematics. -/
import Derived.Test.YthmhljfaenekfaaNA
namespace NM

def sg (neg : Bool) (N : Nat) : Int := if neg then -(N : Int) else N
/-- The number of a sign and a fraction. -/
def frac (neg : Bool) (N D : Nat) : Rat := mkRat (sg neg N) D

theorem sg_abs (neg : Bool) (N : Nat) : (sg neg N).natAbs = N := by cases neg <;> simp [sg]
theorem frac_self (x : Rat) : frac (decide (x.num < 0)) x.num.natAbs x.den = x := by
  have h : sg (decide (x.num < 0)) x.num.natAbs = x.num := by
    unfold sg
    by_cases h : x.num < 0
    · rw [decide_eq_true h, if_pos rfl]; omega
    · rw [decide_eq_false h, if_neg (by simp)]; omega
  rw [frac, h, Rat.mkRat_self]
theorem frac_den (neg : Bool) {N D : Nat} (hD : 0 < D) : (frac neg N D).den = D / Nat.gcd N D := by
  rw [frac, Rat.den_mkRat, if_neg (by omega), sg_abs, Nat.gcd_comm]
theorem frac_num (neg : Bool) {N D : Nat} (hD : 0 < D) : (frac neg N D).num = sg neg (N / Nat.gcd N D) := by
  rw [frac, Rat.num_mkRat, if_neg (by omega), sg_abs, Nat.gcd_comm]
  have hd : ((Nat.gcd N D : Nat) : Int) ∣ (N : Int) := Int.natCast_dvd_natCast.2 (Nat.gcd_dvd_left N D)
  cases neg
  · simp [sg]
  · simp only [sg, if_pos]
    rw [Int.neg_ediv_of_dvd hd, Int.natCast_ediv]
theorem frac_abs (neg : Bool) {N D : Nat} (hD : 0 < D) : (frac neg N D).num.natAbs = N / Nat.gcd N D := by
  rw [frac_num neg hD, sg_abs]
theorem frac_neg (neg : Bool) {N D : Nat} (hD : 0 < D) : decide ((frac neg N D).num < 0) = (neg && decide (0 < N / Nat.gcd N D)) := by
  rw [frac_num neg hD, Bool.eq_iff_iff]
  generalize N / Nat.gcd N D = k
  cases neg <;> simp [sg] <;> omega

theorem sum_same (neg : Bool) (N1 D1 N2 D2 : Nat) (h1 : 0 < D1) (h2 : 0 < D2) : frac neg (N1 * D2 + N2 * D1) (D1 * D2) = frac neg N1 D1 + frac neg N2 D2 := by
  rw [frac, frac, frac, Rat.mkRat_add_mkRat _ _ (by omega) (by omega)]
  congr 1
  cases neg
  · simp [sg]
  · simp only [sg, if_pos, Int.neg_mul]
    push_cast
    omega
theorem sum_ahead (na nb : Bool) (N1 D1 N2 D2 : Nat) (h1 : 0 < D1) (h2 : 0 < D2) (hn : na ≠ nb) (h : N2 * D1 ≤ N1 * D2) : frac na (N1 * D2 - N2 * D1) (D1 * D2) = frac na N1 D1 + frac nb N2 D2 := by
  rw [frac, frac, frac, Rat.mkRat_add_mkRat _ _ (by omega) (by omega)]
  congr 1
  have e : ((N1 * D2 - N2 * D1 : Nat) : Int) = (N1 : Int) * D2 - (N2 : Int) * D1 := by
    rw [Int.ofNat_sub h]; push_cast; rfl
  cases na <;> cases nb <;> simp_all [sg, Int.neg_mul] <;> omega
theorem sum_behind (na nb : Bool) (N1 D1 N2 D2 : Nat) (h1 : 0 < D1) (h2 : 0 < D2) (hn : na ≠ nb) (h : N1 * D2 ≤ N2 * D1) : frac nb (N2 * D1 - N1 * D2) (D1 * D2) = frac na N1 D1 + frac nb N2 D2 := by
  rw [Nat.mul_comm D1 D2, sum_ahead nb na N2 D2 N1 D1 h2 h1 (Ne.symm hn) h, Rat.add_comm]
theorem frac_flip (neg : Bool) (N D : Nat) : frac (!neg) N D = - frac neg N D := by
  rw [frac, frac, Rat.neg_mkRat]
  congr 1
  cases neg <;> simp [sg]
theorem prod_frac (na nb : Bool) (N1 D1 N2 D2 : Nat) : frac (na != nb) (N1 * N2) (D1 * D2) = frac na N1 D1 * frac nb N2 D2 := by
  rw [frac, frac, frac, Rat.mkRat_mul_mkRat]
  congr 1
  cases na <;> cases nb <;> simp [sg, Int.neg_mul, Int.mul_neg]
theorem inv_frac (neg : Bool) {N D : Nat} (hN : 0 < N) (hD : 0 < D) : frac neg D N = (frac neg N D)⁻¹ := by
  have h : frac neg N D * frac neg D N = 1 := by
    rw [← prod_frac]
    have e : (neg != neg) = false := by cases neg <;> rfl
    rw [e, frac, sg, Nat.mul_comm D N]
    have h2 : 0 < N * D := Nat.mul_pos hN hD
    simp only [Bool.false_eq_true, if_false]
    have h3 : mkRat ((N * D : Nat) : Int) (N * D) = mkRat 1 1 := (Rat.mkRat_eq_iff (by omega) (by omega)).2 (by omega)
    rw [h3]
    rfl
  have hne : frac neg N D ≠ 0 := by
    intro h0
    rw [h0, Rat.zero_mul] at h
    exact absurd h (by decide)
  have h3 := Rat.inv_mul_cancel _ hne
  calc frac neg D N = ((frac neg N D)⁻¹ * frac neg N D) * frac neg D N := by rw [h3, Rat.one_mul]
    _ = (frac neg N D)⁻¹ * (frac neg N D * frac neg D N) := Rat.mul_assoc _ _ _
    _ = (frac neg N D)⁻¹ := by rw [h, Rat.mul_one]
end NM
