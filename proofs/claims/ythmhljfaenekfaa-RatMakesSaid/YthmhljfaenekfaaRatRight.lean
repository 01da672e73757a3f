/- Which numbers may be. -/
import Derived.Test.YthmhljfaenekfaaRatNum
namespace Go.Proofs.Ythmhljfaenekfaa
open Go.RowKit NM

def rawB (neg : Bool) (N D : Nat) : Bool := decide (0 < D) && (!(neg && decide (N = 0)) && decide (Nat.gcd N D = 1))
/-- A struct that is no number. -/
def BadR (w : World) (r : Value) : Prop := ∃ neg v u xs ys, r = .agg #[.bool neg, v, u] ∧ Sl w v xs ∧ Sl w u ys ∧ (rightB xs && (rightB ys && rawB neg (val xs).toNat (val ys).toNat)) = false
theorem BadR.below {w w' : World} {r : Value} (h : BadR w r) (hb : Below w.heap.size w w') : BadR w' r := by
  obtain ⟨neg, v, u, xs, ys, h1, h2, h3, h4⟩ := h
  exact ⟨neg, v, u, xs, ys, h1, h2.below hb, h3.below hb, h4⟩
theorem gcd_abs (x : Rat) : Nat.gcd x.num.natAbs x.den = 1 := x.reduced
theorem frac_raw {neg : Bool} {N D : Nat} (h : rawB neg N D = true) : (frac neg N D).num.natAbs = N ∧ (frac neg N D).den = D ∧ decide ((frac neg N D).num < 0) = neg := by
  simp only [rawB, Bool.and_eq_true, decide_eq_true_iff, Bool.not_eq_true'] at h
  obtain ⟨h1, h2, h3⟩ := h
  rw [frac_abs neg h1, frac_den neg h1, frac_neg neg h1, h3]
  refine ⟨Nat.div_one _, Nat.div_one _, ?_⟩
  rw [Nat.div_one]
  cases neg
  · rfl
  · simp at h2 ⊢; omega
theorem rat_raw (x : Rat) : rawB (decide (x.num < 0)) x.num.natAbs x.den = true := by
  have h1 := x.den_nz
  have h2 := gcd_abs x
  simp only [rawB, h2, Bool.and_eq_true, decide_eq_true_iff, Bool.not_eq_true', decide_true, Bool.and_true]
  refine ⟨by omega, ?_⟩
  rw [Bool.and_eq_false_iff, decide_eq_false_iff_not, decide_eq_false_iff_not]
  omega
/-- What comes in is a number, or none. -/
theorem rat_ways (w : World) (neg : Bool) (v u : Value) (xs ys : List Int) (h1 : Sl w v xs) (h2 : Sl w u ys) : (∃ x, RatN w (.agg #[.bool neg, v, u]) x) ∨ BadR w (.agg #[.bool neg, v, u]) := by
  by_cases h : (rightB xs && (rightB ys && rawB neg (val xs).toNat (val ys).toNat)) = true
  · simp only [Bool.and_eq_true] at h
    obtain ⟨a1, a2, a3⟩ := h
    have n1 : Num w v (val xs) := ⟨xs, h1, a1, rfl⟩
    have n2 : Num w u (val ys) := ⟨ys, h2, a2, rfl⟩
    have r1 := n1.range.1
    have r2 := n2.range.1
    obtain ⟨k1, k2, k3⟩ := frac_raw a3
    refine .inl ⟨frac neg (val xs).toNat (val ys).toNat, v, u, by rw [k3], ?_, ?_⟩
    · rw [k1, show (((val xs).toNat : Nat) : Int) = val xs by omega]; exact n1
    · rw [k2, show (((val ys).toNat : Nat) : Int) = val ys by omega]; exact n2
  · exact .inr ⟨neg, v, u, xs, ys, rfl, h1, h2, by simpa using h⟩

set_option maxHeartbeats 1600000 in
set_option maxRecDepth 100000 in
theorem right_raw (neg : Bool) (v u : Value) (N D : Nat) (w : World) (h1 : Num w v N) (h2 : Num w u D) :
    Calls Try.prog 10 #[.agg #[.bool neg, v, u]] w fun e w' => e = .returned (.bool (rawB neg N D)) ∧ Below w.heap.size w w' := by
  have b0 : Below w.heap.size w (w.alloc (.cells #[.bool neg, v, u] 25)) := (Below.refl _ _).alloc (Nat.le_refl _) _
  have k1 := h1.below b0
  have k2 := h2.below b0
  obtain ⟨ao, an, ac, rfl, -, an0, -, -⟩ := h1.len
  obtain ⟨bo, bn, bc, rfl, -, bn0, -, -⟩ := h2.len
  clear h1 h2
  have R1 := Lib.hid (right_num k1)
  have R2 := Lib.hid (right_num k2)
  have hG := Lib.hid (greatest_num _ _ N D _ k1 k2)
  by_cases hD : D = 0
  · obtain rfl : bn = 0 := bn0.2 (by omega)
    have hz := Lib.hid (show rawB neg N D = false by simp [rawB, hD])
    clear an0 bn0 hD k1 k2 hG
    go_enter Try.func10, Try.ntmps10
    go_wp2_with fail
    refine R1.out.mono ?_
    rintro e w' ⟨rfl, rfl⟩
    go_wp2_with fail
    refine R2.out.mono ?_
    rintro e w' ⟨rfl, rfl⟩
    go_wp2_with fail
    go_ret
    exact ⟨ret_bool hz.out.symm, b0⟩
  have hbn : ((bn : Int) == 0) = false := by rw [beq_eq_false_iff_ne]; intro h; exact hD (by have := bn0.1 (by omega); omega)
  by_cases hN : N = 0
  · obtain rfl : an = 0 := an0.2 (by omega)
    cases neg
    · have hz := Lib.hid (show rawB false N D = decide (((Nat.gcd N D : Nat) : Int) = 1) by simp [rawB, Nat.pos_of_ne_zero hD]; omega)
      clear an0 bn0 hD k1 k2 hN
      go_enter Try.func10, Try.ntmps10
      go_wp2_with fail
      refine R1.out.mono ?_
      rintro e w' ⟨rfl, rfl⟩
      go_wp2_with fail
      refine R2.out.mono ?_
      rintro e w' ⟨rfl, rfl⟩
      go_wp2_with fail
      refine hG.out.mono ?_
      rintro e w2 ⟨⟨g, rfl, hg⟩, b1⟩
      have B := b0.trans (b1.mono b0.size)
      have HO := Lib.hid (one_num g _ w2 hg)
      clear hg b1 hG
      go_wp2_with fail
      refine HO.out.mono ?_
      rintro e w' ⟨rfl, rfl⟩
      go_wp2_with fail
      go_ret
      exact ⟨ret_bool hz.out.symm, B⟩
    · have hz := Lib.hid (show rawB true N D = false by simp [rawB, hN])
      clear an0 bn0 hD k1 k2 hG hN
      go_enter Try.func10, Try.ntmps10
      go_wp2_with fail
      refine R1.out.mono ?_
      rintro e w' ⟨rfl, rfl⟩
      go_wp2_with fail
      refine R2.out.mono ?_
      rintro e w' ⟨rfl, rfl⟩
      go_wp2_with fail
      go_ret
      exact ⟨ret_bool hz.out.symm, b0⟩
  · have han : ((an : Int) == 0) = false := by rw [beq_eq_false_iff_ne]; intro h; exact hN (by have := an0.1 (by omega); omega)
    have hz := Lib.hid (show rawB neg N D = decide (((Nat.gcd N D : Nat) : Int) = 1) by
      simp [rawB, Nat.pos_of_ne_zero hD, hN]; omega)
    clear an0 bn0 hD k1 k2 hN
    go_enter Try.func10, Try.ntmps10
    go_wp2_with fail
    refine R1.out.mono ?_
    rintro e w' ⟨rfl, rfl⟩
    go_wp2_with fail
    refine R2.out.mono ?_
    rintro e w' ⟨rfl, rfl⟩
    go_wp2_with fail
    refine hG.out.mono ?_
    rintro e w2 ⟨⟨g, rfl, hg⟩, b1⟩
    have B := b0.trans (b1.mono b0.size)
    have HO := Lib.hid (one_num g _ w2 hg)
    clear hg b1 hG
    go_wp2_with fail
    refine HO.out.mono ?_
    rintro e w' ⟨rfl, rfl⟩
    go_wp2_with fail
    go_ret
    exact ⟨ret_bool hz.out.symm, B⟩

theorem right_rat {w : World} {r : Value} {x : Rat} (h : RatN w r x) :
    Calls Try.prog 10 #[r] w fun e w' => e = .returned (.bool true) ∧ Below w.heap.size w w' := by
  obtain ⟨n, d, rfl, h1, h2⟩ := h
  have := right_raw (decide (x.num < 0)) n d _ _ w h1 h2
  rw [rat_raw x] at this
  exact this

set_option maxHeartbeats 1600000 in
set_option maxRecDepth 100000 in
theorem right_not {w : World} {r : Value} (h : BadR w r) :
    Calls Try.prog 10 #[r] w fun e w' => e = .returned (.bool false) ∧ Below w.heap.size w w' := by
  obtain ⟨neg, v, u, xs, ys, rfl, h1, h2, h3⟩ := h
  have b0 : Below w.heap.size w (w.alloc (.cells #[.bool neg, v, u] 25)) := (Below.refl _ _).alloc (Nat.le_refl _) _
  cases hx : rightB xs
  · have R1 := Lib.hid (right_bad ⟨xs, h1.below b0, hx⟩)
    clear h1 h2 h3 hx
    go_enter Try.func10, Try.ntmps10
    go_wp2_with fail
    refine R1.out.mono ?_
    rintro e w' ⟨rfl, rfl⟩
    go_wp2_with fail
    go_ret
    exact ⟨rfl, b0⟩
  · cases hy : rightB ys
    · have R1 := Lib.hid (right_num (⟨xs, h1.below b0, hx, rfl⟩ : Num _ v (val xs)))
      have R2 := Lib.hid (right_bad ⟨ys, h2.below b0, hy⟩)
      clear h1 h2 h3 hx hy
      go_enter Try.func10, Try.ntmps10
      go_wp2_with fail
      refine R1.out.mono ?_
      rintro e w' ⟨rfl, rfl⟩
      go_wp2_with fail
      refine R2.out.mono ?_
      rintro e w' ⟨rfl, rfl⟩
      go_wp2_with fail
      go_ret
      exact ⟨rfl, b0⟩
    · have n1 : Num w v (val xs) := ⟨xs, h1, hx, rfl⟩
      have n2 : Num w u (val ys) := ⟨ys, h2, hy, rfl⟩
      have r1 := n1.range.1
      have r2 := n2.range.1
      rw [show val xs = (((val xs).toNat : Nat) : Int) by omega] at n1
      rw [show val ys = (((val ys).toNat : Nat) : Int) by omega] at n2
      have := right_raw neg v u _ _ w n1 n2
      rw [hx, hy, Bool.true_and, Bool.true_and] at h3
      rw [h3] at this
      exact this
end Go.Proofs.Ythmhljfaenekfaa
