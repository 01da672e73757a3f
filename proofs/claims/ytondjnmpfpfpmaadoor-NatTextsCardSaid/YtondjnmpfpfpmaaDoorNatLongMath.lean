/- Long division: plain mathematics of one round. -/
import Derived.Test.YtondjnmpfpfpmaaDoorNatGive
import Derived.Lib.ItoaNum
namespace Go.Proofs.YtondjnmpfpfpmaaDoor
open Go.RowKit NM

theorem lb_zero {us : List Int} (uu : U32s us) {t : Nat} (h : val us < pw t) (j : Nat) (hj : t ≤ j) : lb us j = 0 := by
  by_cases hl : j < us.length
  · have h1 := val_split us j (by omega)
    have h2 := val_drop hl
    have h3 := val_nonneg (U32s_take uu j)
    have h4 := val_nonneg (U32s_drop uu (j + 1))
    obtain ⟨a, _⟩ := lb_range uu j
    have hp := pw_pos j
    have hm := pw_mono hj
    by_cases h0 : lb us j = 0
    · exact h0
    · have h5 : pw j * 1 ≤ pw j * val (us.drop j) := Int.mul_le_mul_of_nonneg_left (by omega) (by omega)
      omega
  · exact lb_none (by omega)

theorem same_low {p a b x y : Int} (hp : 0 < p) (a0 : 0 ≤ a) (a1 : a < p) (b0 : 0 ≤ b) (b1 : b < p) (h : a + p * x = b + p * y) : x = y := by
  have h1 : (a + p * x) / p = x := by rw [Int.add_mul_ediv_left _ _ (by omega), Int.ediv_eq_zero_of_lt a0 a1, Int.zero_add]
  have h2 : (b + p * y) / p = y := by rw [Int.add_mul_ediv_left _ _ (by omega), Int.ediv_eq_zero_of_lt b0 b1, Int.zero_add]
  rw [← h1, ← h2, h]

/-- The segment of the row that a round looks at. -/
def seg (us : List Int) (i m : Nat) : List Int := (us.drop i).take (m + 1)

/-- What is known at the head of a round for place i. -/
structure Rnd (us vs : List Int) (i m : Nat) : Prop where
  uu : U32s us
  uv : U32s vs
  lv : vs.length = m
  m2 : 2 ≤ m
  lu : i + (m + 1) ≤ us.length
  top : 2147483648 ≤ lb vs (m - 1)
  lt : val us < pw (i + 1) * val vs

theorem Rnd.vlt {us vs : List Int} {i m : Nat} (h : Rnd us vs i m) : val vs < pw m := by
  have := val_lt h.uv
  rw [h.lv] at this
  exact this
theorem Rnd.zero {us vs : List Int} {i m : Nat} (h : Rnd us vs i m) (j : Nat) (hj : i + (m + 1) ≤ j) : lb us j = 0 := by
  refine lb_zero h.uu (t := i + (m + 1)) ?_ j hj
  have h1 := h.vlt
  have h2 : pw (i + 1) * val vs ≤ pw (i + 1) * pw m := Int.mul_le_mul_of_nonneg_left (by omega) (by have := pw_pos (i + 1); omega)
  rw [← pw_add, show i + 1 + m = i + (m + 1) by omega] at h2
  have := h.lt
  omega
theorem Rnd.val {us vs : List Int} {i m : Nat} (h : Rnd us vs i m) : NM.val us = NM.val (us.take i) + pw i * NM.val (seg us i m) ∧ 0 ≤ NM.val (us.take i) ∧ NM.val (us.take i) < pw i ∧ U32s (seg us i m) ∧ (seg us i m).length = m + 1 :=
  seg_val h.uu i m h.lu h.zero
theorem Rnd.pair {us vs : List Int} {i m : Nat} (h : Rnd us vs i m) : Pair (seg us i m) vs (m - 2) := by
  obtain ⟨e, l0, l1, u, l⟩ := h.val
  have m2 := h.m2
  refine ⟨u, h.uv, by omega, by rw [h.lv]; omega, by rw [show m - 2 + 1 = m - 1 by omega]; exact h.top, ?_⟩
  have h1 := h.lt
  rw [e, pw_succ', Int.mul_assoc] at h1
  exact le_of_mul (pw_pos i) (show pw i * NM.val (seg us i m) < pw i * (4294967296 * NM.val vs) by omega)

/-- Behind take. -/
theorem Rnd.took {us vs us1 : List Int} {i m : Nat} (h : Rnd us vs i m) {g bo : Int} (hg : GuessOk (seg us i m) vs g) (ht : TakeOk us vs i m g bo us1) :
    (bo = 0 ∧ g = NM.val (seg us i m) / NM.val vs ∧ NM.val us1 = NM.val us - pw i * (NM.val (seg us i m) / NM.val vs * NM.val vs)) ∨
    (bo = 1 ∧ g = NM.val (seg us i m) / NM.val vs + 1 ∧ ∀ co us2, GiveOk us1 vs i m co us2 → NM.val us2 = NM.val us - pw i * (NM.val (seg us i m) / NM.val vs * NM.val vs)) := by
  obtain ⟨e, l0, l1, u, l⟩ := h.val
  obtain ⟨t1, t2, t3, t4, t5⟩ := ht
  obtain ⟨g0, g1, g2, g3⟩ := hg
  have hp := pw_pos i
  have hV := h.pair.pos
  have hpm : NM.val vs < pw (m + 1) := by have := h.vlt; have := pw_mono (show m ≤ m + 1 by omega); omega
  have hs1 := seg_val t2 i m (by have := h.lu; omega) (fun j hj => by rw [t5 j hj]; exact h.zero j hj)
  obtain ⟨e1, k0, k1, u1, n1⟩ := hs1
  have hx : NM.val ((us1.drop i).take (m + 1)) = NM.val (seg us i m) + (0 - g * NM.val vs + pw (m + 1) * bo) := by
    refine same_low hp k0 k1 l0 l1 ?_
    rw [← e1, t4, e, Int.mul_add (pw i) (NM.val (seg us i m))]
    omega
  have s0 := val_nonneg u1
  have s1 := val_lt u1
  rw [n1] at s1
  have hm := Int.mul_ediv_add_emod (NM.val (seg us i m)) (NM.val vs)
  have hr0 := Int.emod_nonneg (NM.val (seg us i m)) (show NM.val vs ≠ 0 by omega)
  have hr1 := Int.emod_lt_of_pos (NM.val (seg us i m)) hV
  rw [Int.mul_comm] at hm
  obtain ⟨Q, hQ⟩ : ∃ Q, NM.val (seg us i m) / NM.val vs = Q := ⟨_, rfl⟩
  rw [hQ] at g2 g3 hm ⊢
  rcases (show g = Q ∨ g = Q + 1 by omega) with hgq | hgq
  · left
    have hb : bo = 0 := by
      rcases t3 with h3 | h3
      · exact h3
      · rw [h3, hgq] at hx
        omega
    refine ⟨hb, hgq, ?_⟩
    rw [t4, hb, hgq, Int.mul_zero, Int.add_zero, Int.mul_sub]
    omega
  · right
    have hgv : g * NM.val vs = Q * NM.val vs + NM.val vs := by rw [hgq, Int.add_mul, Int.one_mul]
    have hb : bo = 1 := by
      rcases t3 with h3 | h3
      · rw [h3] at hx
        omega
      · exact h3
    refine ⟨hb, hgq, fun co us2 hgive => ?_⟩
    obtain ⟨v1, v2, v3, v4, v5⟩ := hgive
    have hs2 := seg_val v2 i m (by have := h.lu; omega) (fun j hj => by rw [v5 j hj, t5 j hj]; exact h.zero j hj)
    obtain ⟨e2, j0, j1, u2, n2⟩ := hs2
    have hy : NM.val ((us2.drop i).take (m + 1)) = NM.val ((us1.drop i).take (m + 1)) + (0 - -1 * NM.val vs + pw (m + 1) * (-co + 0)) := by
      refine same_low hp j0 j1 k0 k1 ?_
      rw [← e2, v4, e1, Int.mul_add (pw i) (NM.val ((us1.drop i).take (m + 1)))]
      omega
    have z1 := val_lt u2
    rw [n2] at z1
    rw [hx, hb, hgv] at hy
    have hco : co = 1 := by
      rcases v3 with h3 | h3
      · rw [h3] at hy
        omega
      · exact h3
    rw [v4, t4, hb, hco, hgv]
    have e9 : NM.val us + pw i * (0 - (Q * NM.val vs + NM.val vs) + pw (m + 1) * 1) + pw i * (0 - -1 * NM.val vs + pw (m + 1) * (-1 + 0)) = NM.val us + pw i * (0 - Q * NM.val vs) := by
      rw [Int.add_assoc, ← Int.mul_add]
      congr 2
      omega
    rw [e9, Int.mul_sub]
    omega

/-- What is left is less than V, from place i on. -/
theorem Rnd.next {us vs : List Int} {i m : Nat} (h : Rnd us vs i m) {X : Int} (hX : X = NM.val us - pw i * (NM.val (seg us i m) / NM.val vs * NM.val vs)) : X < pw i * NM.val vs ∧ 0 ≤ NM.val (seg us i m) / NM.val vs ∧ NM.val (seg us i m) / NM.val vs < 4294967296 := by
  obtain ⟨e, l0, l1, u, l⟩ := h.val
  have hV := h.pair.pos
  have hm := Int.mul_ediv_add_emod (NM.val (seg us i m)) (NM.val vs)
  have hr1 := Int.emod_lt_of_pos (NM.val (seg us i m)) hV
  rw [Int.mul_comm] at hm
  refine ⟨?_, h.pair.q_nonneg, h.pair.q_lt⟩
  have h1 : X = NM.val (us.take i) + pw i * (NM.val (seg us i m) % NM.val vs) := by
    rw [hX, e]
    have : pw i * NM.val (seg us i m) = pw i * (NM.val (seg us i m) / NM.val vs * NM.val vs) + pw i * (NM.val (seg us i m) % NM.val vs) := by rw [← Int.mul_add, hm]
    omega
  have h2 : pw i * (NM.val (seg us i m) % NM.val vs + 1) ≤ pw i * NM.val vs := Int.mul_le_mul_of_nonneg_left (by omega) (by have := pw_pos i; omega)
  rw [Int.mul_add] at h2
  omega

/-- A number's highest limb, and its bits. -/
theorem bitLen_facts {x : Int} (h0 : 0 < x) (h1 : x < 4294967296) : 1 ≤ Lib.bitLen x.toNat ∧ Lib.bitLen x.toNat ≤ 32 ∧ (2 : Int) ^ (Lib.bitLen x.toNat - 1) ≤ x ∧ x < 2 ^ Lib.bitLen x.toNat := by
  have hb := Lib.bitLenAux_bounds 64 x.toNat (by omega) (by omega)
  have hl := Lib.bitLen_le x.toNat 32 (by omega) (by omega)
  unfold Lib.bitLen at hl ⊢
  refine ⟨hb.1, hl, ?_, ?_⟩
  · have : ((2 ^ (Lib.bitLenAux 64 x.toNat - 1) : Nat) : Int) ≤ (x.toNat : Int) := by exact_mod_cast hb.2.1
    rw [Int.natCast_pow, show ((2 : Nat) : Int) = 2 from rfl] at this
    omega
  · have : (x.toNat : Int) < ((2 ^ Lib.bitLenAux 64 x.toNat : Nat) : Int) := by exact_mod_cast hb.2.2
    rw [Int.natCast_pow, show ((2 : Nat) : Int) = 2 from rfl] at this
    omega
end Go.Proofs.YtondjnmpfpfpmaaDoor
