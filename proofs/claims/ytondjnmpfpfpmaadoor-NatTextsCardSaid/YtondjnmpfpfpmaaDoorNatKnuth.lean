/-
  The guess of a quotient's limb: plain mathematics.
-/
import Derived.Test.YtondjnmpfpfpmaaDoorNatMath
namespace NM

theorem le_of_mul {p x y : Int} (hp : 0 < p) (h : p * x < p * y) : x < y := Int.lt_of_mul_lt_mul_left h (by omega)

/-- No quotient is greater than the first guess. -/
theorem knuth_a {p lu lv u2 top v1 v2 q : Int} (hp : 0 < p) (lu1 : lu < p) (lv0 : 0 ≤ lv) (u21 : u2 < 4294967296) (v20 : 0 ≤ v2) (q0 : 0 ≤ q)
    (h : q * (lv + p * (v2 + 4294967296 * v1)) ≤ lu + p * (u2 + 4294967296 * top)) : q * v1 ≤ top := by
  have h1 : q * (lv + p * (v2 + 4294967296 * v1)) = q * lv + p * (q * v2) + p * (4294967296 * (q * v1)) := by
    rw [Int.mul_add, Int.mul_add, Int.mul_add, ← Int.add_assoc]
    congr 1
    · congr 1; ac_rfl
    · ac_rfl
  have h2 : 0 ≤ q * lv := Int.mul_nonneg q0 lv0
  have h3 : 0 ≤ p * (q * v2) := Int.mul_nonneg (by omega) (Int.mul_nonneg q0 v20)
  have h4 : p * (u2 + 4294967296 * top) + p * 1 ≤ p * (4294967296 * (top + 1)) := by
    rw [← Int.mul_add]
    exact Int.mul_le_mul_of_nonneg_left (by omega) (by omega)
  have h5 := le_of_mul hp (show p * (4294967296 * (q * v1)) < p * (4294967296 * (top + 1)) by omega)
  omega
/-- Where the program goes one down, the guess was too great. -/
theorem knuth_b {p lu lv u2 top v1 v2 g left : Int} (hp : 0 < p) (lu1 : lu < p) (lv0 : 0 ≤ lv) (g0 : 0 ≤ g)
    (ht : g * v1 + left = top) (h : left * 4294967296 + u2 < g * v2) : lu + p * (u2 + 4294967296 * top) < g * (lv + p * (v2 + 4294967296 * v1)) := by
  have h1 : g * (lv + p * (v2 + 4294967296 * v1)) = g * lv + p * (g * v2 + 4294967296 * (g * v1)) := by
    rw [Int.mul_add, ← Int.mul_assoc g p, Int.mul_comm g p, Int.mul_assoc p, Int.mul_add g, ← Int.mul_assoc g, Int.mul_comm g 4294967296, Int.mul_assoc 4294967296]
  have h2 : 0 ≤ g * lv := Int.mul_nonneg g0 lv0
  have h3 : p * (u2 + 4294967296 * top) + p * 1 ≤ p * (g * v2 + 4294967296 * (g * v1)) := by
    rw [← Int.mul_add]
    exact Int.mul_le_mul_of_nonneg_left (by omega) (by omega)
  omega
/-- Where it stops, the guess is at most 1 too great. -/
theorem knuth_c {p lu lv u2 top v1 v2 g left : Int} (hp : 0 < p) (lu0 : 0 ≤ lu) (lv1 : lv < p) (g1 : 1 ≤ g) (g2 : g < 4294967296) (v20 : 0 ≤ v2) (v10 : 2147483648 ≤ v1)
    (ht : g * v1 + left = top) (h : g * v2 ≤ left * 4294967296 + u2) : (g - 1) * (lv + p * (v2 + 4294967296 * v1)) ≤ lu + p * (u2 + 4294967296 * top) := by
  have h1 : (g - 1) * (lv + p * (v2 + 4294967296 * v1)) ≤ (g - 1) * (p * (v2 + 4294967296 * v1 + 1)) := by
    refine Int.mul_le_mul_of_nonneg_left ?_ (by omega)
    rw [Int.mul_add p _ 1]
    omega
  have h2 : (g - 1) * (p * (v2 + 4294967296 * v1 + 1)) = p * ((g - 1) * (v2 + 4294967296 * v1 + 1)) := by ac_rfl
  have h3 : (g - 1) * (v2 + 4294967296 * v1 + 1) = g * v2 + 4294967296 * (g * v1) + g - (v2 + 4294967296 * v1) - 1 := by
    rw [Int.sub_mul, Int.mul_add, Int.mul_add, ← Int.mul_assoc, Int.mul_comm g 4294967296, Int.mul_assoc]
    omega
  have h4 : p * ((g - 1) * (v2 + 4294967296 * v1 + 1)) ≤ p * (u2 + 4294967296 * top) :=
    Int.mul_le_mul_of_nonneg_left (by omega) (by omega)
  omega
/-- The three highest limbs of a number, the two highest of another. -/
theorem val_top3 {us : List Int} {k : Nat} (h : us.length = k + 3) : val us = val (us.take k) + pw k * (lb us k + 4294967296 * (lb us (k + 2) * 4294967296 + lb us (k + 1))) := by
  have h1 := val_step (xs := us) (k := k + 2) (by omega)
  have h2 := val_step (xs := us) (k := k + 1) (by omega)
  have h3 := val_step (xs := us) (k := k) (by omega)
  rw [val_take_all (by omega)] at h1
  rw [h1, h2, h3, pw_succ', show pw (k + 2) = pw k * 4294967296 * 4294967296 by rw [show k + 2 = (k + 1) + 1 from rfl, pw_succ', pw_succ'], Int.mul_add, Int.mul_add, Int.mul_add]
  rw [show pw k * 4294967296 * 4294967296 * lb us (k + 2) = pw k * (4294967296 * (lb us (k + 2) * 4294967296)) by ac_rfl, show pw k * 4294967296 * lb us (k + 1) = pw k * (4294967296 * lb us (k + 1)) by ac_rfl]
  omega
theorem val_top2 {vs : List Int} {k : Nat} (h : vs.length = k + 2) : val vs = val (vs.take k) + pw k * (lb vs k + 4294967296 * lb vs (k + 1)) := by
  have h2 := val_step (xs := vs) (k := k + 1) (by omega)
  have h3 := val_step (xs := vs) (k := k) (by omega)
  rw [val_take_all (by omega)] at h2
  rw [h2, h3, pw_succ', Int.mul_add, show pw k * 4294967296 * lb vs (k + 1) = pw k * (4294967296 * lb vs (k + 1)) by ac_rfl]
  omega
theorem top_le {us vs : List Int} {k : Nat} (uu : U32s us) (uv : U32s vs) (hu : us.length = k + 3) (hv : vs.length = k + 2) (h : val us < 4294967296 * val vs) : lb us (k + 2) ≤ lb vs (k + 1) := by
  have p := pw_pos k
  have e1 := val_top3 hu
  have e2 := val_top2 hv
  have l1 := val_nonneg (U32s_take uu k)
  have l2 := val_lt (U32s_take uv k)
  rw [List.length_take, Nat.min_eq_left (by omega)] at l2
  obtain ⟨a1, _⟩ := lb_range uu (k + 1)
  obtain ⟨a0, _⟩ := lb_range uu k
  obtain ⟨_, d0⟩ := lb_range uv k
  have h1 : pw k * (4294967296 * (4294967296 * lb us (k + 2))) ≤ val us := by
    have : pw k * (4294967296 * (4294967296 * lb us (k + 2))) ≤ pw k * (lb us k + 4294967296 * (lb us (k + 2) * 4294967296 + lb us (k + 1))) := Int.mul_le_mul_of_nonneg_left (by omega) (by omega)
    omega
  have h2 : pw k * (lb vs k + 4294967296 * lb vs (k + 1)) + pw k * 1 ≤ pw k * (4294967296 * (lb vs (k + 1) + 1)) := by
    rw [← Int.mul_add]
    exact Int.mul_le_mul_of_nonneg_left (by omega) (by omega)
  have h3 : pw k * (4294967296 * (4294967296 * (lb vs (k + 1) + 1))) = 4294967296 * (pw k * (4294967296 * (lb vs (k + 1) + 1))) := by ac_rfl
  have h4 := le_of_mul p (show pw k * (4294967296 * (4294967296 * lb us (k + 2))) < pw k * (4294967296 * (4294967296 * (lb vs (k + 1) + 1))) by omega)
  omega

/-- All that is known of the two numbers whose quotient is guessed. -/
structure Pair (us vs : List Int) (k : Nat) : Prop where
  uu : U32s us
  uv : U32s vs
  lu : us.length = k + 3
  lv : vs.length = k + 2
  top : 2147483648 ≤ lb vs (k + 1)
  lt : val us < 4294967296 * val vs

theorem Pair.pos {us vs : List Int} {k : Nat} (h : Pair us vs k) : 0 < val vs := by
  have := val_nonneg h.uu
  have := h.lt
  omega
theorem Pair.q_lt {us vs : List Int} {k : Nat} (h : Pair us vs k) : val us / val vs < 4294967296 := Int.ediv_lt_of_lt_mul h.pos h.lt
theorem Pair.q_nonneg {us vs : List Int} {k : Nat} (h : Pair us vs k) : 0 ≤ val us / val vs := Int.ediv_nonneg (val_nonneg h.uu) (by have := h.pos; omega)
theorem Pair.first {us vs : List Int} {k : Nat} (h : Pair us vs k) : val us / val vs ≤ (lb us (k + 2) * 4294967296 + lb us (k + 1)) / lb vs (k + 1) := by
  have l1 := val_lt (U32s_take h.uu k)
  have l2 := val_nonneg (U32s_take h.uv k)
  rw [List.length_take, Nat.min_eq_left (by have := h.lu; omega)] at l1
  have hm : val us / val vs * val vs ≤ val us := Int.ediv_mul_le _ (by have := h.pos; omega)
  rw [Int.le_ediv_iff_mul_le (by have := h.top; omega)]
  refine knuth_a (pw_pos k) l1 l2 (lb_range h.uu k).2 (lb_range h.uv k).1 h.q_nonneg ?_
  rw [← val_top3 h.lu, ← val_top2 h.lv]
  exact hm
theorem Pair.less {us vs : List Int} {k : Nat} (h : Pair us vs k) {g l : Int} (g0 : 0 ≤ g) (ht : g * lb vs (k + 1) + l = lb us (k + 2) * 4294967296 + lb us (k + 1)) (hc : l * 4294967296 + lb us k < g * lb vs k) : val us / val vs < g := by
  have l1 := val_lt (U32s_take h.uu k)
  have l2 := val_nonneg (U32s_take h.uv k)
  rw [List.length_take, Nat.min_eq_left (by have := h.lu; omega)] at l1
  refine Int.ediv_lt_of_lt_mul h.pos ?_
  rw [val_top3 h.lu, val_top2 h.lv]
  exact knuth_b (pw_pos k) l1 l2 g0 ht hc
theorem Pair.good {us vs : List Int} {k : Nat} (h : Pair us vs k) {g l : Int} (g0 : 0 ≤ g) (g2 : g < 4294967296) (ht : g * lb vs (k + 1) + l = lb us (k + 2) * 4294967296 + lb us (k + 1)) (hc : g * lb vs k ≤ l * 4294967296 + lb us k) : g ≤ val us / val vs + 1 := by
  have hq := h.q_nonneg
  by_cases g1 : 1 ≤ g
  · have l1 := val_nonneg (U32s_take h.uu k)
    have l2 := val_lt (U32s_take h.uv k)
    rw [List.length_take, Nat.min_eq_left (by have := h.lv; omega)] at l2
    have h1 := knuth_c (pw_pos k) l1 l2 g1 g2 (lb_range h.uv k).1 h.top ht hc
    rw [← val_top3 h.lu, ← val_top2 h.lv] at h1
    have := (Int.le_ediv_iff_mul_le h.pos).2 h1
    omega
  · omega
/-- Behind a step down that makes the rest too great for a limb. -/
theorem Pair.broke {us vs : List Int} {k : Nat} (h : Pair us vs k) {g l : Int} (g0 : 0 ≤ g) (hl : 4294967296 ≤ l) (ht : g * lb vs (k + 1) + l = lb us (k + 2) * 4294967296 + lb us (k + 1)) : g < 4294967296 ∧ g ≤ val us / val vs + 1 := by
  have t := top_le h.uu h.uv h.lu h.lv h.lt
  have v0 := h.top
  obtain ⟨_, b1⟩ := lb_range h.uu (k + 1)
  obtain ⟨u2, _⟩ := lb_range h.uu k
  obtain ⟨c0, d0⟩ := lb_range h.uv k
  have h1 : g * lb vs (k + 1) < 4294967296 * lb vs (k + 1) := by omega
  have hg := Int.lt_of_mul_lt_mul_right h1 (by omega)
  refine ⟨hg, h.good g0 hg ht ?_⟩
  have := (prod_bound g0 hg c0 d0).2
  omega
end NM
