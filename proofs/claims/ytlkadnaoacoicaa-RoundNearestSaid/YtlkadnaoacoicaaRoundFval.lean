/- The number of bits, m times 2^e: its bits are those, and exact; what is exact is the number of its bits. -/
import Derived.Test.YtlkadnaoacoicaaRoundBits2
namespace Go.Proofs.Ytlkadnaoacoicaa
open Go.RowKit NM

/-- m and e of bits without a sign; and their number. -/
def fman (b mant : Nat) : Nat := b % 2 ^ (mant - 1) + (if b / 2 ^ (mant - 1) = 0 then 0 else 2 ^ (mant - 1))
def fexp (b mant least : Nat) : Int := (if b / 2 ^ (mant - 1) = 0 then 1 else (b / 2 ^ (mant - 1) : Nat)) - 1 - least
def fval (neg : Bool) (b mant least : Nat) : Rat := frac neg (fman b mant * up (fexp b mant least)) (up (-(fexp b mant least)))

theorem frac_ratio (neg : Bool) {N D : Nat} (hD : 0 < D) : (frac neg N D).num.natAbs * D = N * (frac neg N D).den := by
  rw [frac_abs neg hD, frac_den neg hD]
  obtain ⟨a, ha⟩ := Nat.gcd_dvd_left N D
  obtain ⟨b, hb⟩ := Nat.gcd_dvd_right N D
  have hg : 0 < Nat.gcd N D := Nat.gcd_pos_of_pos_right _ hD
  generalize Nat.gcd N D = g at *
  subst ha hb
  rw [Nat.mul_div_cancel_left _ hg, Nat.mul_div_cancel_left _ hg, Nat.mul_left_comm, Nat.mul_assoc]
theorem frac_same (neg : Bool) {N1 D1 N2 D2 : Nat} (h1 : 0 < D1) (h2 : 0 < D2) (h : N1 * D2 = N2 * D1) : frac neg N1 D1 = frac neg N2 D2 := by
  unfold frac
  rw [Rat.mkRat_eq_iff (by omega) (by omega)]
  have hc : (N1 : Int) * D2 = (N2 : Int) * D1 := by exact_mod_cast h
  unfold sg
  split
  · rw [Int.neg_mul, Int.neg_mul, hc]
  · exact hc
theorem frac_zero (neg : Bool) (D : Nat) : frac neg 0 D = 0 := by
  unfold frac sg
  split <;> simp
theorem log_ratio {N1 D1 N2 D2 : Nat} {L : Int} (h : N1 * D2 = N2 * D1) (hD1 : 0 < D1) (hD2 : 0 < D2) (l : IsLog N1 D1 L) : IsLog N2 D2 L := by
  constructor
  · have a : D2 * (D1 * up L) ≤ D2 * (N1 * up (-L)) := Nat.mul_le_mul_left _ l.lo
    have e1 : D2 * (D1 * up L) = D1 * (D2 * up L) := Nat.mul_left_comm _ _ _
    have e2 : D2 * (N1 * up (-L)) = D1 * (N2 * up (-L)) := by
      rw [← Nat.mul_assoc, ← Nat.mul_assoc, Nat.mul_comm D2, h, Nat.mul_comm D1]
    rw [e1, e2] at a
    exact Nat.le_of_mul_le_mul_left a hD1
  · have a : D2 * (N1 * up (-(L + 1))) < D2 * (D1 * up (L + 1)) := Nat.mul_lt_mul_of_pos_left l.hi hD2
    have e1 : D2 * (D1 * up (L + 1)) = D1 * (D2 * up (L + 1)) := Nat.mul_left_comm _ _ _
    have e2 : D2 * (N1 * up (-(L + 1))) = D1 * (N2 * up (-(L + 1))) := by
      rw [← Nat.mul_assoc, ← Nat.mul_assoc, Nat.mul_comm D2, h, Nat.mul_comm D1]
    rw [e1, e2] at a
    exact Nat.lt_of_mul_lt_mul_left a
theorem bitv_ratio {N1 D1 N2 D2 : Nat} {L : Int} {mant least : Nat} (hm : 0 < mant) (h : N1 * D2 = N2 * D1) (hD1 : 0 < D1) (hD2 : 0 < D2) (l : IsLog N1 D1 L) : bitv N1 D1 L mant least = bitv N2 D2 L mant least := by
  have l2 := log_ratio h hD1 hD2 l
  have a := bitv_mono (least := least) hm l l2 hD1 hD2 (Nat.le_of_eq h)
  have b := bitv_mono (least := least) hm l2 l hD2 hD1 (Nat.le_of_eq h.symm)
  omega
theorem exact_iff {N D : Nat} {L : Int} {mant least : Nat} (hD : 0 < D) : exactv N D L mant least = true ↔ ∃ q, N * up (-(lead L mant least - 1)) = q * (2 * (D * up (lead L mant least - 1))) := by
  unfold exactv
  have hB : 0 < D * up (lead L mant least - 1) := Nat.mul_pos hD (up_pos _)
  generalize N * up (-(lead L mant least - 1)) = A
  generalize D * up (lead L mant least - 1) = B at *
  rw [Bool.and_eq_true, decide_eq_true_iff, decide_eq_true_iff]
  constructor
  · rintro ⟨h1, h2⟩
    refine ⟨A / B / 2, ?_⟩
    have := Nat.div_add_mod A B
    rw [h2, Nat.add_zero] at this
    rw [← Nat.mul_assoc, show A / B / 2 * 2 = A / B by omega, Nat.mul_comm, this]
  · rintro ⟨q, rfl⟩
    rw [← Nat.mul_assoc, Nat.mul_div_cancel _ hB]
    exact ⟨by omega, Nat.mul_mod_left _ _⟩
theorem exact_ratio {N1 D1 N2 D2 : Nat} {L : Int} {mant least : Nat} (h : N1 * D2 = N2 * D1) (hD1 : 0 < D1) (hD2 : 0 < D2) (he : exactv N1 D1 L mant least = true) : exactv N2 D2 L mant least = true := by
  obtain ⟨q, hq⟩ := (exact_iff hD1).1 he
  rw [exact_iff hD2]
  refine ⟨q, ?_⟩
  generalize up (-(lead L mant least - 1)) = a at *
  generalize up (lead L mant least - 1) = b at *
  have e : D1 * (N2 * a) = D1 * (q * (2 * (D2 * b))) := by
    have e1 : D1 * (N2 * a) = D2 * (N1 * a) := by rw [← Nat.mul_assoc, ← Nat.mul_assoc, Nat.mul_comm D1, ← h, Nat.mul_comm D2]
    rw [e1, hq]
    simp only [Nat.mul_left_comm]
  exact Nat.eq_of_mul_eq_mul_left hD1 e
theorem log_earlier {N D : Nat} {y z : Int} (h : D * up y ≤ N * up (-y)) (hyz : z ≤ y) : D * up z ≤ N * up (-z) := by
  rcases Nat.lt_or_ge (N * up (-z)) (D * up z) with h1 | h1
  · have := log_later h1 hyz
    omega
  · exact h1
theorem fval_man {b mant : Nat} (hm : 0 < mant) : fman b mant < 2 ^ mant := by
  have p1 : 2 ^ mant = 2 * 2 ^ (mant - 1) := by rw [Nat.mul_comm, ← Nat.pow_succ]; congr 1; omega
  have p0 : 0 < 2 ^ (mant - 1) := Nat.pow_pos (by decide)
  unfold fman
  have := Nat.mod_lt b p0
  split <;> omega
/-- The bits of the number of bits are those, and exact. -/
theorem fval_bits {b mant least : Nat} {L : Int} (hm : 0 < mant) (l : IsLog (fman b mant * up (fexp b mant least)) (up (-(fexp b mant least))) L) :
    bitv (fman b mant * up (fexp b mant least)) (up (-(fexp b mant least))) L mant least = b ∧ exactv (fman b mant * up (fexp b mant least)) (up (-(fexp b mant least))) L mant least = true := by
  have p1 : 2 ^ mant = 2 * 2 ^ (mant - 1) := by rw [Nat.mul_comm, ← Nat.pow_succ]; congr 1; omega
  have p0 : 0 < 2 ^ (mant - 1) := Nat.pow_pos (by decide)
  have hlo : ∀ k : Nat, fexp b mant least + k ≤ L → 2 ^ k ≤ fman b mant := fun k hk => by
    have h1 := log_lo (log_earlier l.lo hk)
    have e1 : 2 ^ k * (up (-(fexp b mant least)) * up (fexp b mant least)) = 2 ^ k * (up (fexp b mant least) * up (-(fexp b mant least))) := by rw [Nat.mul_comm (up (-(fexp b mant least)))]
    rw [e1, Nat.mul_assoc (fman b mant)] at h1
    exact Nat.le_of_mul_le_mul_right h1 (Nat.mul_pos (up_pos _) (up_pos _))
  have hhi : ∀ k : Nat, L + 1 ≤ fexp b mant least + k → fman b mant < 2 ^ k := fun k hk => by
    have h1 := log_hi (log_later l.hi hk)
    have e1 : 2 ^ k * (up (-(fexp b mant least)) * up (fexp b mant least)) = 2 ^ k * (up (fexp b mant least) * up (-(fexp b mant least))) := by rw [Nat.mul_comm (up (-(fexp b mant least)))]
    rw [e1, Nat.mul_assoc (fman b mant)] at h1
    exact Nat.lt_of_mul_lt_mul_right h1
  have hM := fval_man (b := b) hm
  have hdm := Nat.div_add_mod b (2 ^ (mant - 1))
  have hmod := Nat.mod_lt b p0
  have hlead : lead L mant least = fexp b mant least := by
    by_cases hE : b / 2 ^ (mant - 1) = 0
    · have e1 : fexp b mant least = -(least : Int) := by unfold fexp; rw [if_pos hE]; omega
      have e2 : fman b mant < 2 ^ (mant - 1) := by unfold fman; rw [if_pos hE]; omega
      have h3 : ¬ (fexp b mant least + (mant - 1 : Nat) ≤ L) := fun h => by have := hlo _ h; omega
      have hl : lead L mant least = max (L - mant + 1) (-(least : Int)) := rfl
      rw [e1] at h3 ⊢
      omega
    · have e1 : fexp b mant least = (b / 2 ^ (mant - 1) : Nat) - 1 - least := by unfold fexp; rw [if_neg hE]
      have e2 : 2 ^ (mant - 1) ≤ fman b mant := by unfold fman; rw [if_neg hE]; omega
      have h3 : ¬ (fexp b mant least + (mant : Nat) ≤ L) := fun h => by have := hlo _ h; omega
      have h4 : ¬ (L + 1 ≤ fexp b mant least + (mant - 1 : Nat)) := fun h => by have := hhi _ h; omega
      have hl : lead L mant least = max (L - mant + 1) (-(least : Int)) := rfl
      have hE2 : 0 < b / 2 ^ (mant - 1) := Nat.pos_of_ne_zero hE
      omega
  have hA : fman b mant * up (fexp b mant least) * up (-(fexp b mant least - 1)) = fman b mant * (2 * (up (-(fexp b mant least)) * up (fexp b mant least - 1))) := by
    have h1 := up_shift (fexp b mant least - 1) 1
    have e1 : fexp b mant least - 1 + (1 : Nat) = fexp b mant least := by omega
    rw [e1] at h1
    rw [Nat.mul_assoc, h1, Nat.pow_one, Nat.mul_comm (up (fexp b mant least - 1))]
  refine ⟨?_, (exact_iff (up_pos _)).2 ⟨fman b mant, by rw [hlead]; exact hA⟩⟩
  unfold bitv
  rw [hlead, hA]
  have hB : 0 < up (-(fexp b mant least)) * up (fexp b mant least - 1) := Nat.mul_pos (up_pos _) (up_pos _)
  have hr : rnd (fman b mant * (2 * (up (-(fexp b mant least)) * up (fexp b mant least - 1)))) (up (-(fexp b mant least)) * up (fexp b mant least - 1)) = fman b mant := by
    unfold rnd
    rw [← Nat.mul_assoc, Nat.mul_div_cancel _ hB, Nat.mul_mod_left, if_neg (by omega)]
    omega
  rw [hr]
  by_cases hE : b / 2 ^ (mant - 1) = 0
  · have e1 : fexp b mant least = -(least : Int) := by unfold fexp; rw [if_pos hE]; omega
    have e2 : fman b mant = b % 2 ^ (mant - 1) := by unfold fman; rw [if_pos hE, Nat.add_zero]
    rw [e1, e2, show (-(least : Int) + least).toNat = 0 by omega, Nat.zero_mul]
    rw [hE, Nat.mul_zero] at hdm
    omega
  · have e1 : fexp b mant least = (b / 2 ^ (mant - 1) : Nat) - 1 - least := by unfold fexp; rw [if_neg hE]
    have e2 : fman b mant = b % 2 ^ (mant - 1) + 2 ^ (mant - 1) := by unfold fman; rw [if_neg hE]
    rw [e1, e2]
    obtain ⟨k, hk⟩ : ∃ k, b / 2 ^ (mant - 1) = k + 1 := ⟨_, (Nat.succ_pred_eq_of_ne_zero hE).symm⟩
    rw [hk] at hdm ⊢
    rw [show (((k + 1 : Nat) : Int) - 1 - least + least).toNat = k by omega]
    rw [Nat.mul_succ, Nat.mul_comm] at hdm
    omega
/-- What is exact is the number of its bits. -/
theorem exact_fval {N D : Nat} {L : Int} {mant least : Nat} (hm : 0 < mant) (hD : 0 < D) (l : IsLog N D L) (he : exactv N D L mant least = true) :
    N * up (-(fexp (bitv N D L mant least) mant least)) = fman (bitv N D L mant least) mant * up (fexp (bitv N D L mant least) mant least) * D := by
  have p1 : 2 ^ mant = 2 * 2 ^ (mant - 1) := by rw [Nat.mul_comm, ← Nat.pow_succ]; congr 1; omega
  have p2 : 2 ^ (mant + 1) = 2 * (2 * 2 ^ (mant - 1)) := by rw [Nat.pow_succ, p1, Nat.mul_comm]
  have p0 : 0 < 2 ^ (mant - 1) := Nat.pow_pos (by decide)
  obtain ⟨q, hq⟩ := (exact_iff hD).1 he
  obtain ⟨f1, _, f3⟩ := lead_facts (least := least) hm hD l
  have hB : 0 < D * up (lead L mant least - 1) := Nat.mul_pos hD (up_pos _)
  have hr : rnd (N * up (-(lead L mant least - 1))) (D * up (lead L mant least - 1)) = q := by
    unfold rnd
    rw [hq, ← Nat.mul_assoc, Nat.mul_div_cancel _ hB, Nat.mul_mod_left, if_neg (by omega)]
    omega
  have hq2 : q < 2 * 2 ^ (mant - 1) := by
    rw [hq, ← Nat.mul_assoc, Nat.mul_div_cancel _ hB, p2] at f1
    omega
  have g1 : -(least : Int) ≤ lead L mant least := by unfold lead; omega
  have key : fman (bitv N D L mant least) mant = q ∧ fexp (bitv N D L mant least) mant least = lead L mant least := by
    have eb : bitv N D L mant least = q + (lead L mant least + least).toNat * 2 ^ (mant - 1) := by unfold bitv; rw [hr]
    rw [hr] at f3
    rw [eb]
    unfold fman fexp
    clear hq hr eb f1 p1 p2 hB l he
    generalize lead L mant least = x at *
    generalize 2 ^ (mant - 1) = h at *
    rcases Nat.lt_or_ge q h with h1 | h1
    · have ex : x = -(least : Int) := by
        rcases Int.lt_or_eq_of_le g1 with h2 | h2
        · have := f3 h2; omega
        · exact h2.symm
      rw [show (x + least).toNat = 0 by omega, Nat.zero_mul, Nat.add_zero, Nat.div_eq_of_lt h1, Nat.mod_eq_of_lt h1, if_pos rfl, if_pos rfl]
      omega
    · obtain ⟨r, rfl⟩ : ∃ r, q = h + r := ⟨q - h, by omega⟩
      have hr : r < h := by omega
      have e1 : h + r + (x + least).toNat * h = r + ((x + least).toNat + 1) * h := by rw [Nat.succ_mul]; omega
      have e2 : (r + ((x + least).toNat + 1) * h) / h = (x + least).toNat + 1 := by rw [Nat.add_mul_div_right _ _ p0, Nat.div_eq_of_lt hr]; omega
      have e3 : (r + ((x + least).toNat + 1) * h) % h = r := by rw [Nat.add_mul_mod_self_right, Nat.mod_eq_of_lt hr]
      rw [e1, e2, e3, if_neg (by omega), if_neg (by omega)]
      omega
  obtain ⟨k1, k2⟩ := key
  rw [k1, k2]
  have h1 := up_shift (lead L mant least - 1) 1
  have e1 : lead L mant least - 1 + (1 : Nat) = lead L mant least := by omega
  rw [e1, Nat.pow_one] at h1
  have hp := up_pos (lead L mant least - 1)
  generalize up (lead L mant least - 1) = a at *
  generalize up (-(lead L mant least - 1)) = b at *
  generalize up (lead L mant least) = c at *
  generalize up (-(lead L mant least)) = d at *
  have h2 : (2 * a) * (N * d) = (2 * a) * (q * c * D) := by
    have h3 : c * (N * b) = c * (q * (2 * (D * a))) := by rw [hq]
    have h4 : c * (N * b) = (2 * a) * (N * d) := by
      rw [Nat.mul_left_comm, h1, ← Nat.mul_assoc 2, Nat.mul_left_comm]
    rw [← h4, h3]
    simp only [Nat.mul_assoc, Nat.mul_left_comm, Nat.mul_comm]
  exact Nat.eq_of_mul_eq_mul_left (by omega) h2
end Go.Proofs.Ytlkadnaoacoicaa
