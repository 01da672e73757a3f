/- Rounding, as plain mathematics: how the nearest floating number's bits rise with the number. -/
import Derived.Test.YtlkadnaoacoicaaRows
namespace Go.Proofs.Ytlkadnaoacoicaa

/-- 2 to the part of an exponent that is above 0. -/
def up (e : Int) : Nat := 2 ^ e.toNat
theorem up_pos (e : Int) : 0 < up e := Nat.pow_pos (by decide)
theorem up_le {a b : Int} (h : a ≤ b) : up a ≤ up b := Nat.pow_le_pow_right (by decide) (by omega)
theorem up_shift (x : Int) (k : Nat) : up (x + k) * up (-x) = 2 ^ k * (up x * up (-(x + k))) := by
  unfold up
  rw [← Nat.pow_add, ← Nat.pow_add, ← Nat.pow_add]
  congr 1
  omega
/-- 2^L is not more than N / D, and 2^(L + 1) is. -/
structure IsLog (N D : Nat) (L : Int) : Prop where
  lo : D * up L ≤ N * up (-L)
  hi : N * up (-(L + 1)) < D * up (L + 1)
theorem log_later {N D : Nat} {y z : Int} (h : N * up (-y) < D * up y) (hyz : y ≤ z) : N * up (-z) < D * up z := by
  have h1 : N * up (-z) ≤ N * up (-y) := Nat.mul_le_mul_left _ (up_le (by omega))
  have h2 : D * up y ≤ D * up z := Nat.mul_le_mul_left _ (up_le hyz)
  omega
theorem IsLog.mono {N1 D1 N2 D2 : Nat} {L1 L2 : Int} (h1 : IsLog N1 D1 L1) (h2 : IsLog N2 D2 L2) (h : N1 * D2 ≤ N2 * D1) (hD1 : 0 < D1) : L1 ≤ L2 := by
  rcases Int.lt_or_le L2 L1 with hl | hl
  · exfalso
    have a := log_later h2.hi (show L2 + 1 ≤ L1 by omega)
    have b := h1.lo
    have c : D1 * (N2 * up (-L1)) < D1 * (D2 * up L1) := Nat.mul_lt_mul_of_pos_left a hD1
    have d : D2 * (D1 * up L1) ≤ D2 * (N1 * up (-L1)) := Nat.mul_le_mul_left _ b
    have e : D1 * (D2 * up L1) = D2 * (D1 * up L1) := Nat.mul_left_comm _ _ _
    have f : (N1 * D2) * up (-L1) ≤ (N2 * D1) * up (-L1) := Nat.mul_le_mul_right _ h
    have g1 : D2 * (N1 * up (-L1)) = (N1 * D2) * up (-L1) := by rw [← Nat.mul_assoc, Nat.mul_comm D2]
    have g2 : D1 * (N2 * up (-L1)) = (N2 * D1) * up (-L1) := by rw [← Nat.mul_assoc, Nat.mul_comm D1]
    omega
  · exact hl
theorem log_lo {N D : Nat} {x : Int} {k : Nat} (h : D * up (x + k) ≤ N * up (-(x + k))) : 2 ^ k * (D * up x) ≤ N * up (-x) := by
  have h1 : (D * up (x + k)) * up (-x) ≤ (N * up (-(x + k))) * up (-x) := Nat.mul_le_mul_right _ h
  rw [Nat.mul_assoc, up_shift] at h1
  have e1 : D * (2 ^ k * (up x * up (-(x + k)))) = (2 ^ k * (D * up x)) * up (-(x + k)) := by
    simp only [Nat.mul_assoc, Nat.mul_left_comm]
  have e2 : (N * up (-(x + k))) * up (-x) = (N * up (-x)) * up (-(x + k)) := Nat.mul_right_comm _ _ _
  rw [e1, e2] at h1
  exact Nat.le_of_mul_le_mul_right h1 (up_pos _)
theorem log_hi {N D : Nat} {x : Int} {k : Nat} (h : N * up (-(x + k)) < D * up (x + k)) : N * up (-x) < 2 ^ k * (D * up x) := by
  rcases Nat.lt_or_ge (N * up (-x)) (2 ^ k * (D * up x)) with h2 | h2
  · exact h2
  · exfalso
    have h1 : (2 ^ k * (D * up x)) * up (-(x + k)) ≤ (N * up (-x)) * up (-(x + k)) := Nat.mul_le_mul_right _ h2
    have e1 : D * (2 ^ k * (up x * up (-(x + k)))) = (2 ^ k * (D * up x)) * up (-(x + k)) := by
      simp only [Nat.mul_assoc, Nat.mul_left_comm]
    have e2 : (N * up (-(x + k))) * up (-x) = (N * up (-x)) * up (-(x + k)) := Nat.mul_right_comm _ _ _
    rw [← e1, ← e2, ← up_shift, ← Nat.mul_assoc] at h1
    have h3 := Nat.le_of_mul_le_mul_right h1 (up_pos _)
    omega

/-- A / (2 B), rounded, a half to the even one. -/
def rnd (A B : Nat) : Nat := A / B / 2 + (if A / B % 2 = 1 ∧ (A % B ≠ 0 ∨ A / B / 2 % 2 = 1) then 1 else 0)
theorem rnd_ge {A B k : Nat} (hB : 0 < B) (hk : 0 < k) : k ≤ rnd A B ↔ (2 * k - 1) * B < A ∨ ((2 * k - 1) * B = A ∧ k % 2 = 0) := by
  have hA := Nat.div_add_mod A B
  have hr := Nat.mod_lt A hB
  unfold rnd
  generalize A / B = q at *
  generalize A % B = r at *
  subst hA
  rcases Nat.lt_trichotomy q (2 * k - 1) with h | h | h
  · have h1 : (q + 1) * B ≤ (2 * k - 1) * B := Nat.mul_le_mul_right _ (by omega)
    have h2 : (q + 1) * B = B * q + B := by rw [Nat.succ_mul, Nat.mul_comm]
    constructor
    · intro h3
      exfalso
      split at h3 <;> omega
    · rintro (h3 | ⟨h3, _⟩) <;> omega
  · subst h
    have e : (2 * k - 1) * B = B * (2 * k - 1) := Nat.mul_comm _ _
    rw [e]
    constructor
    · intro h3
      split at h3
      · rename_i hc
        rcases hc.2 with h4 | h4
        · left; omega
        · rcases Nat.eq_zero_or_pos r with h5 | h5
          · right; exact ⟨by omega, by omega⟩
          · left; omega
      · omega
    · intro h3
      split
      · omega
      · rename_i hc
        exfalso
        apply hc
        refine ⟨by omega, ?_⟩
        rcases h3 with h3 | ⟨h3, h4⟩
        · left; omega
        · right; omega
  · have h1 : (2 * k) * B ≤ q * B := Nat.mul_le_mul_right _ (by omega)
    have h2 : (2 * k - 1) * B + B = (2 * k) * B := by
      rw [← Nat.succ_mul]
      congr 1
      omega
    have h3 : q * B = B * q := Nat.mul_comm _ _
    constructor
    · intro _
      left
      omega
    · intro _
      split <;> omega
theorem rnd_mono {A1 B1 A2 B2 : Nat} (h1 : 0 < B1) (h2 : 0 < B2) (h : A1 * B2 ≤ A2 * B1) : rnd A1 B1 ≤ rnd A2 B2 := by
  rcases Nat.eq_zero_or_pos (rnd A1 B1) with h0 | h0
  · omega
  · have h3 := (rnd_ge h1 h0).1 (Nat.le_refl _)
    rw [rnd_ge h2 h0]
    generalize 2 * rnd A1 B1 - 1 = c at *
    have e1 : c * B1 * B2 = c * B2 * B1 := Nat.mul_right_comm _ _ _
    rcases h3 with h3 | ⟨h3, h4⟩
    · left
      have h5 : c * B1 * B2 < A1 * B2 := Nat.mul_lt_mul_of_pos_right h3 h2
      exact Nat.lt_of_mul_lt_mul_right (show c * B2 * B1 < A2 * B1 by omega)
    · have h5 : c * B1 * B2 = A1 * B2 := by rw [h3]
      have h6 : c * B2 * B1 ≤ A2 * B1 := by omega
      have h7 := Nat.le_of_mul_le_mul_right h6 h1
      rcases Nat.lt_or_ge (c * B2) A2 with h8 | h8
      · exact .inl h8
      · exact .inr ⟨by omega, h4⟩
theorem rnd_low {A B h : Nat} (hB : 0 < B) (h0 : 0 < h) (hA : (2 * h) * B ≤ A) : h ≤ rnd A B := by
  rw [rnd_ge hB h0]
  left
  have h2 : (2 * h - 1) * B + B = (2 * h) * B := by
    rw [← Nat.succ_mul]
    congr 1
    omega
  omega
theorem rnd_high {A B h : Nat} (hB : 0 < B) (hA : A < (2 * h) * B) : rnd A B ≤ h := by
  rcases Nat.lt_or_ge h (rnd A B) with h1 | h1
  · exfalso
    have h2 := (rnd_ge (k := h + 1) hB (by omega)).1 h1
    have h3 : (2 * h) * B ≤ (2 * (h + 1) - 1) * B := Nat.mul_le_mul_right _ (by omega)
    omega
  · exact h1

/-- The least exponent that a size's numbers have, or that of a number. -/
def lead (L : Int) (mant least : Nat) : Int := max (L - mant + 1) (-(least : Int))
/-- The bits, without a sign. -/
def bitv (N D : Nat) (L : Int) (mant least : Nat) : Nat :=
  rnd (N * up (-(lead L mant least - 1))) (D * up (lead L mant least - 1)) + (lead L mant least + least).toNat * 2 ^ (mant - 1)
theorem bitv_mono {N1 D1 N2 D2 : Nat} {L1 L2 : Int} {mant least : Nat} (hm : 0 < mant) (l1 : IsLog N1 D1 L1) (l2 : IsLog N2 D2 L2) (hD1 : 0 < D1) (hD2 : 0 < D2) (h : N1 * D2 ≤ N2 * D1) : bitv N1 D1 L1 mant least ≤ bitv N2 D2 L2 mant least := by
  have hL := l1.mono l2 h hD1
  have e12 : lead L1 mant least ≤ lead L2 mant least := by unfold lead; omega
  have p1 : 2 ^ mant = 2 * 2 ^ (mant - 1) := by rw [Nat.mul_comm, ← Nat.pow_succ]; congr 1; omega
  have p2 : 2 ^ (mant + 1) = 2 * (2 * 2 ^ (mant - 1)) := by rw [Nat.pow_succ, p1, Nat.mul_comm]
  have p0 : 0 < 2 ^ (mant - 1) := Nat.pow_pos (by decide)
  have lo2 : -(least : Int) < lead L2 mant least → 2 ^ (mant - 1) ≤ rnd (N2 * up (-(lead L2 mant least - 1))) (D2 * up (lead L2 mant least - 1)) := fun hh => by
    have e : L2 = (lead L2 mant least - 1) + mant := by unfold lead at hh ⊢; omega
    have := l2.lo
    rw [e] at this
    have := log_lo this
    rw [p1] at this
    exact rnd_low (Nat.mul_pos hD2 (up_pos _)) p0 this
  have hi1 : rnd (N1 * up (-(lead L1 mant least - 1))) (D1 * up (lead L1 mant least - 1)) ≤ 2 * 2 ^ (mant - 1) := by
    have := log_later l1.hi (show L1 + 1 ≤ (lead L1 mant least - 1) + (mant + 1 : Nat) by unfold lead; omega)
    have := log_hi this
    rw [p2] at this
    exact rnd_high (Nat.mul_pos hD1 (up_pos _)) this
  have g1 : -(least : Int) ≤ lead L1 mant least := by unfold lead; omega
  unfold bitv
  generalize lead L1 mant least = x at *
  generalize lead L2 mant least = y at *
  generalize 2 ^ (mant - 1) = hd at *
  rcases Int.lt_or_eq_of_le e12 with hxy | hxy
  · have a := lo2 (by omega)
    have b : ((x + least).toNat + 1) * hd ≤ (y + least).toNat * hd := Nat.mul_le_mul_right _ (by omega)
    have c : ((x + least).toNat + 1) * hd = (x + least).toNat * hd + hd := Nat.succ_mul _ _
    omega
  · subst hxy
    have : rnd (N1 * up (-(x - 1))) (D1 * up (x - 1)) ≤ rnd (N2 * up (-(x - 1))) (D2 * up (x - 1)) := by
      apply rnd_mono (Nat.mul_pos hD1 (up_pos _)) (Nat.mul_pos hD2 (up_pos _))
      have e1 : N1 * up (-(x - 1)) * (D2 * up (x - 1)) = N1 * D2 * (up (-(x - 1)) * up (x - 1)) := Nat.mul_mul_mul_comm _ _ _ _
      have e2 : N2 * up (-(x - 1)) * (D1 * up (x - 1)) = N2 * D1 * (up (-(x - 1)) * up (x - 1)) := Nat.mul_mul_mul_comm _ _ _ _
      rw [e1, e2]
      exact Nat.mul_le_mul_right _ h
    omega
end Go.Proofs.Ytlkadnaoacoicaa
