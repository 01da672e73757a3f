/- The nearest floating number, as plain mathematics: what the search for it ends at. -/
import Derived.Test.YtlkadnaoacoicaaRoundFval
namespace Go.Proofs.Ytlkadnaoacoicaa
open Go.RowKit NM

/-- The fraction of bits. -/
def vn (b mant least : Nat) : Nat := fman b mant * up (fexp b mant least)
def vd (b mant least : Nat) : Nat := up (-(fexp b mant least))
theorem vd_pos (b mant least : Nat) : 0 < vd b mant least := up_pos _
/-- Bits by their mantissa and their place. -/
theorem bits_parts {b mant : Nat} (least : Nat) (hm : 0 < mant) : ∃ t : Nat, fexp b mant least = (t : Int) - least ∧ b = fman b mant + t * 2 ^ (mant - 1) ∧ fman b mant < 2 * 2 ^ (mant - 1) ∧ (0 < t → 2 ^ (mant - 1) ≤ fman b mant) := by
  have p0 : 0 < 2 ^ (mant - 1) := Nat.pow_pos (by decide)
  have p1 : 2 ^ mant = 2 * 2 ^ (mant - 1) := by rw [Nat.mul_comm, ← Nat.pow_succ]; congr 1; omega
  have hM := fval_man (b := b) hm
  rw [p1] at hM
  have hdm := Nat.div_add_mod b (2 ^ (mant - 1))
  by_cases hE : b / 2 ^ (mant - 1) = 0
  · refine ⟨0, by unfold fexp; rw [if_pos hE]; omega, ?_, hM, fun h => absurd h (Nat.lt_irrefl 0)⟩
    have e2 : fman b mant = b % 2 ^ (mant - 1) := by unfold fman; rw [if_pos hE, Nat.add_zero]
    rw [e2]
    rw [hE, Nat.mul_zero] at hdm
    omega
  · obtain ⟨k, hk⟩ : ∃ k, b / 2 ^ (mant - 1) = k + 1 := ⟨_, (Nat.succ_pred_eq_of_ne_zero hE).symm⟩
    have e2 : fman b mant = b % 2 ^ (mant - 1) + 2 ^ (mant - 1) := by unfold fman; rw [if_neg hE]
    refine ⟨k, by unfold fexp; rw [if_neg hE, hk]; omega, ?_, hM, fun _ => by omega⟩
    rw [hk, Nat.mul_succ, Nat.mul_comm] at hdm
    omega
/-- The number of q + t h is q times 2^(t - least). -/
theorem val_parts {q t mant least : Nat} (hq : q ≤ 2 * 2 ^ (mant - 1)) (ht : 0 < t → 2 ^ (mant - 1) ≤ q) :
    vn (q + t * 2 ^ (mant - 1)) mant least * up (-((t : Int) - least)) = q * up ((t : Int) - least) * vd (q + t * 2 ^ (mant - 1)) mant least := by
  have p0 : 0 < 2 ^ (mant - 1) := Nat.pow_pos (by decide)
  unfold vn vd
  rcases Nat.lt_or_ge q (2 ^ (mant - 1)) with h1 | h1
  · obtain rfl : t = 0 := by
      rcases Nat.eq_zero_or_pos t with h | h
      · exact h
      · have := ht h; omega
    rw [Nat.zero_mul, Nat.add_zero]
    have e1 : fman q mant = q := by unfold fman; rw [Nat.div_eq_of_lt h1, if_pos rfl, Nat.mod_eq_of_lt h1]; rfl
    have e2 : fexp q mant least = ((0 : Nat) : Int) - least := by unfold fexp; rw [Nat.div_eq_of_lt h1, if_pos rfl]; omega
    rw [e1, e2]
  · rcases Nat.lt_or_eq_of_le hq with h2 | h2
    · obtain ⟨r, rfl⟩ : ∃ r, q = 2 ^ (mant - 1) + r := ⟨q - 2 ^ (mant - 1), by omega⟩
      have hr : r < 2 ^ (mant - 1) := by omega
      have e0 : 2 ^ (mant - 1) + r + t * 2 ^ (mant - 1) = r + (t + 1) * 2 ^ (mant - 1) := by rw [Nat.succ_mul]; omega
      have d1 : (r + (t + 1) * 2 ^ (mant - 1)) / 2 ^ (mant - 1) = t + 1 := by rw [Nat.add_mul_div_right _ _ p0, Nat.div_eq_of_lt hr]; omega
      have d2 : (r + (t + 1) * 2 ^ (mant - 1)) % 2 ^ (mant - 1) = r := by rw [Nat.add_mul_mod_self_right, Nat.mod_eq_of_lt hr]
      have e1 : fman (r + (t + 1) * 2 ^ (mant - 1)) mant = 2 ^ (mant - 1) + r := by unfold fman; rw [d1, d2, if_neg (by omega)]; omega
      have e2 : fexp (r + (t + 1) * 2 ^ (mant - 1)) mant least = (t : Int) - least := by unfold fexp; rw [d1, if_neg (by omega)]; omega
      rw [e0, e1, e2]
    · subst h2
      have e0 : 2 * 2 ^ (mant - 1) + t * 2 ^ (mant - 1) = 0 + (t + 2) * 2 ^ (mant - 1) := by rw [Nat.zero_add, ← Nat.add_mul]; congr 1; omega
      have d1 : (0 + (t + 2) * 2 ^ (mant - 1)) / 2 ^ (mant - 1) = t + 2 := by rw [Nat.add_mul_div_right _ _ p0, Nat.zero_div]; omega
      have d2 : (0 + (t + 2) * 2 ^ (mant - 1)) % 2 ^ (mant - 1) = 0 := by rw [Nat.add_mul_mod_self_right, Nat.zero_mod]
      have e1 : fman (0 + (t + 2) * 2 ^ (mant - 1)) mant = 2 ^ (mant - 1) := by unfold fman; rw [d1, d2, if_neg (by omega)]; omega
      have e2 : fexp (0 + (t + 2) * 2 ^ (mant - 1)) mant least = (t : Int) - least + (1 : Nat) := by unfold fexp; rw [d1, if_neg (by omega)]; omega
      rw [e0, e1, e2, Nat.mul_assoc, up_shift]
      simp only [Nat.pow_one, Nat.mul_assoc, Nat.mul_left_comm]
/-- What the search ends at: the bits, and whether they are the number itself. -/
structure NearEnds (N D mant least lo : Nat) : Prop where
  low : vn lo mant least * D ≤ N * vd lo mant least
  high : N * vd (lo + 1) mant least < vn (lo + 1) mant least * D
/-- How the two distances compare: what is added to lo. -/
def nearer (N D mant least lo : Nat) : Nat :=
  if (vn (lo + 1) mant least * D - N * vd (lo + 1) mant least) * vd lo mant least < (N * vd lo mant least - vn lo mant least * D) * vd (lo + 1) mant least ∨ ((N * vd lo mant least - vn lo mant least * D) * vd (lo + 1) mant least = (vn (lo + 1) mant least * D - N * vd (lo + 1) mant least) * vd lo mant least ∧ lo % 2 = 1) then 1 else 0
theorem NearEnds.scaled {N D mant least lo q t : Nat} (h : NearEnds N D mant least lo) (e1 : fman lo mant = q) (e2 : fexp lo mant least = (t : Int) - least) (e3 : lo = q + t * 2 ^ (mant - 1)) (hq : q < 2 * 2 ^ (mant - 1)) (ht : 0 < t → 2 ^ (mant - 1) ≤ q) :
    q * up ((t : Int) - least) * D ≤ N * up (-((t : Int) - least)) ∧ N * up (-((t : Int) - least)) < (q + 1) * up ((t : Int) - least) * D := by
  constructor
  · have h1 := h.low
    unfold vn vd at h1
    rw [e1, e2] at h1
    exact h1
  · have h1 := h.high
    have h2 := val_parts (q := q + 1) (t := t) (mant := mant) (least := least) (by omega) (fun h => by have := ht h; omega)
    have e4 : lo + 1 = q + 1 + t * 2 ^ (mant - 1) := by omega
    rw [e4] at h1
    have hv := vd_pos (q + 1 + t * 2 ^ (mant - 1)) mant least
    generalize vn (q + 1 + t * 2 ^ (mant - 1)) mant least = x at *
    generalize vd (q + 1 + t * 2 ^ (mant - 1)) mant least = y at *
    have hu := up_pos (-((t : Int) - least))
    generalize up (-((t : Int) - least)) = d at *
    generalize up ((t : Int) - least) = c at *
    have h3 : y * (N * d) < y * ((q + 1) * c * D) := by
      have a1 : N * y * d < x * D * d := Nat.mul_lt_mul_of_pos_right h1 hu
      have a2 : x * D * d = y * ((q + 1) * c * D) := by
        rw [Nat.mul_right_comm, h2]
        simp only [Nat.mul_comm, Nat.mul_left_comm]
      have a3 : N * y * d = y * (N * d) := by simp only [Nat.mul_assoc, Nat.mul_left_comm]
      omega
    exact Nat.lt_of_mul_lt_mul_left h3
theorem cmp_scaled {x y a b k l : Nat} (hk : 0 < k) (hl : 0 < l) (h : x * k = l * a) (h2 : y * k = l * b) : (x < y ↔ a < b) ∧ (x = y ↔ a = b) := by
  constructor
  · constructor
    · intro h3
      have := Nat.mul_lt_mul_of_pos_right h3 hk
      rw [h, h2] at this
      exact Nat.lt_of_mul_lt_mul_left this
    · intro h3
      have := Nat.mul_lt_mul_of_pos_left h3 hl
      rw [← h, ← h2] at this
      exact Nat.lt_of_mul_lt_mul_right this
  · constructor
    · intro h3
      rw [h3, h2] at h
      exact (Nat.eq_of_mul_eq_mul_left hl h).symm
    · intro h3
      rw [h3, ← h2] at h
      exact Nat.eq_of_mul_eq_mul_right hk h
/-- The end of the search is where the bits are. -/
theorem NearEnds.bits {N D mant least lo : Nat} {L : Int} (hm : 1 < mant) (hD : 0 < D) (h : NearEnds N D mant least lo) (l : IsLog N D L) :
    bitv N D L mant least = lo + nearer N D mant least lo ∧ (exactv N D L mant least = true ↔ N * vd lo mant least - vn lo mant least * D = 0) := by
  have hm0 : 0 < mant := by omega
  have p0 : 0 < 2 ^ (mant - 1) := Nat.pow_pos (by decide)
  obtain ⟨t, e2, e3, hq, ht⟩ := bits_parts (b := lo) least hm0
  generalize e1 : fman lo mant = q at *
  obtain ⟨s1, s2⟩ := h.scaled e1 e2 e3 hq ht
  have hlo : ∀ k : Nat, (t : Int) - least + k ≤ L → 2 ^ k * (D * up ((t : Int) - least)) ≤ N * up (-((t : Int) - least)) := fun k hk => log_lo (log_earlier l.lo hk)
  have hhi : ∀ k : Nat, L + 1 ≤ (t : Int) - least + k → N * up (-((t : Int) - least)) < 2 ^ k * (D * up ((t : Int) - least)) := fun k hk => log_hi (log_later l.hi hk)
  have hu := up_pos ((t : Int) - least)
  have hDu : 0 < D * up ((t : Int) - least) := Nat.mul_pos hD hu
  have r1 : q * (D * up ((t : Int) - least)) ≤ N * up (-((t : Int) - least)) := by rw [Nat.mul_comm D, ← Nat.mul_assoc]; exact s1
  have r2 : N * up (-((t : Int) - least)) < (q + 1) * (D * up ((t : Int) - least)) := by rw [Nat.mul_comm D, ← Nat.mul_assoc]; exact s2
  have p1 : 2 ^ mant = 2 * 2 ^ (mant - 1) := by rw [Nat.mul_comm, ← Nat.pow_succ]; congr 1; omega
  have hlead : lead L mant least = (t : Int) - least := by
    have hl : lead L mant least = max (L - mant + 1) (-(least : Int)) := rfl
    have a1 : ¬ ((t : Int) - least + (mant : Nat) ≤ L) := fun hk => by
      have := Nat.lt_of_le_of_lt (hlo _ hk) r2
      have := Nat.lt_of_mul_lt_mul_right this
      omega
    rcases Nat.eq_zero_or_pos t with h0 | h0
    · subst h0
      omega
    · have a2 : ¬ (L + 1 ≤ (t : Int) - least + (mant - 1 : Nat)) := fun hk => by
        have := Nat.lt_of_le_of_lt r1 (hhi _ hk)
        have := Nat.lt_of_mul_lt_mul_right this
        have := ht h0
        omega
      omega
  -- twice as fine
  have hsh := up_shift ((t : Int) - least - 1) 1
  rw [show (t : Int) - least - 1 + (1 : Nat) = (t : Int) - least by omega, Nat.pow_one] at hsh
  have hw := up_pos ((t : Int) - least - 1)
  have hd := up_pos (-((t : Int) - least))
  have hvd := vd_pos (lo + 1) mant least
  have hv := val_parts (q := q + 1) (t := t) (mant := mant) (least := least) (by omega) (fun h => by have := ht h; omega)
  rw [show q + 1 + t * 2 ^ (mant - 1) = lo + 1 by omega] at hv
  have hlN : vn lo mant least = q * up ((t : Int) - least) := by unfold vn; rw [e1, e2]
  have hlD : vd lo mant least = up (-((t : Int) - least)) := by unfold vd; rw [e2]
  have hhi2 := h.high
  have hA : ∀ c : Nat, (N * up (-((t : Int) - least - 1)) < c * (D * up ((t : Int) - least - 1)) ↔ 2 * (N * up (-((t : Int) - least))) < c * (D * up ((t : Int) - least))) ∧ (N * up (-((t : Int) - least - 1)) = c * (D * up ((t : Int) - least - 1)) ↔ 2 * (N * up (-((t : Int) - least))) = c * (D * up ((t : Int) - least))) := fun c =>
    cmp_scaled (k := up ((t : Int) - least)) (l := up ((t : Int) - least - 1)) hu hw
      (by
        have : N * up (-((t : Int) - least - 1)) * up ((t : Int) - least) = N * (up ((t : Int) - least) * up (-((t : Int) - least - 1))) := by rw [Nat.mul_assoc, Nat.mul_comm (up (-((t : Int) - least - 1)))]
        rw [this, hsh]
        simp only [Nat.mul_left_comm])
      (by simp only [Nat.mul_comm, Nat.mul_assoc, Nat.mul_left_comm])
  unfold bitv
  rw [exact_iff hD, hlead]
  have hB : 0 < D * up ((t : Int) - least - 1) := Nat.mul_pos hD hw
  rw [show ((t : Int) - least + least).toNat = t by omega]
  unfold nearer
  rw [hlN, hlD]
  generalize N * up (-((t : Int) - least - 1)) = A at *
  generalize D * up ((t : Int) - least - 1) = B at *
  generalize up ((t : Int) - least) = c at *
  generalize up (-((t : Int) - least)) = d at *
  generalize vn (lo + 1) mant least = x at *
  generalize vd (lo + 1) mant least = y at *
  have hpar : lo % 2 = q % 2 := by
    have : 2 ^ (mant - 1) = 2 * 2 ^ (mant - 2) := by rw [Nat.mul_comm, ← Nat.pow_succ]; congr 1; omega
    rw [e3, this, Nat.mul_left_comm, Nat.add_mul_mod_self_left]
  have g1 := hA (2 * q)
  have g2 := hA (2 * q + 1)
  have g3 := hA (2 * (q + 1))
  have k1 : (x * D - N * y) * d = ((q + 1) * (D * c) - N * d) * y := by
    have a1 : x * D * d = (q + 1) * (D * c) * y := by
      have a2 : x * D * d = x * d * D := Nat.mul_right_comm _ _ _
      rw [a2, hv]
      simp only [Nat.mul_comm, Nat.mul_assoc, Nat.mul_left_comm]
    rw [Nat.sub_mul, Nat.sub_mul, a1, Nat.mul_right_comm N y]
  have k2 : q * c * D = q * (D * c) := by rw [Nat.mul_comm D, Nat.mul_assoc]
  rw [k1, k2, hpar]
  have r4 := rnd_high (A := A) (h := q + 1) hB (g3.1.2 (by have : 2 * (q + 1) * (D * c) = 2 * ((q + 1) * (D * c)) := Nat.mul_assoc _ _ _; omega))
  have low : 2 * q * B ≤ A := by
    rcases Nat.lt_or_ge A (2 * q * B) with h1 | h1
    · have h2 := g1.1.1 h1
      have : 2 * q * (D * c) = 2 * (q * (D * c)) := Nat.mul_assoc _ _ _
      omega
    · exact h1
  have r5 : q ≤ rnd A B := by
    rcases Nat.eq_zero_or_pos q with h0 | h0
    · omega
    · exact rnd_low hB h0 low
  have r6 := rnd_ge (A := A) (k := q + 1) hB (Nat.succ_pos _)
  rw [show 2 * (q + 1) - 1 = 2 * q + 1 by omega] at r6
  have m1 : (q + 1) * (D * c) = q * (D * c) + D * c := Nat.succ_mul _ _
  have m2 : (2 * q + 1) * (D * c) = 2 * (q * (D * c)) + D * c := by rw [Nat.succ_mul, Nat.mul_assoc]
  have m3 : 2 * q * (D * c) = 2 * (q * (D * c)) := Nat.mul_assoc _ _ _
  rw [m2] at g2
  rw [m3] at g1
  rw [m1] at r2 ⊢
  have c1 : ((q * (D * c) + D * c - N * d) * y < (N * d - q * (D * c)) * y) ↔ q * (D * c) + D * c - N * d < N * d - q * (D * c) := ⟨fun h => Nat.lt_of_mul_lt_mul_right h, fun h => Nat.mul_lt_mul_of_pos_right h hvd⟩
  have c2 : ((N * d - q * (D * c)) * y = (q * (D * c) + D * c - N * d) * y) ↔ N * d - q * (D * c) = q * (D * c) + D * c - N * d := ⟨fun h => Nat.eq_of_mul_eq_mul_right hvd h, fun h => by rw [h]⟩
  constructor
  · split
    · rename_i hc
      have : q + 1 ≤ rnd A B := r6.2 (by
        rw [c1, c2] at hc
        rcases hc with hc | ⟨hc, ho⟩
        · left
          rcases Nat.lt_trichotomy A ((2 * q + 1) * B) with h1 | h1 | h1
          · have := g2.1.1 h1; omega
          · have := g2.2.1 h1; omega
          · exact h1
        · right
          exact ⟨(g2.2.2 (by omega)).symm, by omega⟩)
      omega
    · rename_i hc
      have : ¬ (q + 1 ≤ rnd A B) := fun hk => hc (by
        rw [c1, c2]
        rcases r6.1 hk with h1 | ⟨h1, h2⟩
        · left
          have a1 : ¬ (2 * (N * d) < 2 * (q * (D * c)) + D * c) := fun h => by have := g2.1.2 h; omega
          have a2 : ¬ (2 * (N * d) = 2 * (q * (D * c)) + D * c) := fun h => by have := g2.2.2 h; omega
          omega
        · right
          have := g2.2.1 h1.symm
          exact ⟨by omega, by omega⟩)
      omega
  · constructor
    · rintro ⟨q', hq'⟩
      have hh : q' = q := by
        rcases Nat.lt_trichotomy q' q with h1 | h1 | h1
        · have h2 : (q' + 1) * (2 * B) ≤ q * (2 * B) := Nat.mul_le_mul_right _ h1
          have h3 : q * (2 * B) = 2 * q * B := by rw [Nat.mul_comm 2 q, Nat.mul_assoc]
          have h4 : (q' + 1) * (2 * B) = q' * (2 * B) + 2 * B := Nat.succ_mul _ _
          omega
        · exact h1
        · have h2 : (q + 1) * (2 * B) ≤ q' * (2 * B) := Nat.mul_le_mul_right _ h1
          have h3 : (q + 1) * (2 * B) = 2 * (q + 1) * B := by rw [Nat.mul_comm 2 (q + 1), Nat.mul_assoc]
          have h4 := g3.1.2 (by have : 2 * (q + 1) * (D * c) = 2 * ((q + 1) * (D * c)) := Nat.mul_assoc _ _ _; omega)
          omega
      subst hh
      have := g1.2.1 (by rw [hq', Nat.mul_comm 2 q', Nat.mul_assoc])
      omega
    · intro h0
      refine ⟨q, ?_⟩
      rw [g1.2.2 (by omega), Nat.mul_comm 2 q, Nat.mul_assoc]
end Go.Proofs.Ytlkadnaoacoicaa
