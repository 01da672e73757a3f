/- The reference's Right, Of. -/
import Derived.Test.YthmhljfaenekfaaRatCommon
namespace Go.Proofs.Ythmhljfaenekfaa
open Go.RowKit NM

theorem far_num {w : World} {v : Value} {N : Nat} (h : Num w v N) : Far N := by
  have h1 := h.range
  have h2 : 10 * pw 16 < big := by unfold big; decide +kernel
  unfold Far
  omega
theorem str_one (g : Nat) : (g = 1 → numStr g = ⟨#[49]⟩) ∧ (g ≠ 1 → numStr g ≠ ⟨#[49]⟩) := by
  constructor
  · intro h; rw [h]; exact numStr_one
  · intro h h2
    have := numStr_inj (A := g) (B := 1) (by omega) (by omega) (by rw [h2, numStr_one])
    omega
theorem list_is49 {q : ByteArray} {b : Bool} (h : b = true → q = ⟨#[49]⟩) (h2 : b = false → q ≠ ⟨#[49]⟩) : (q.toList == [49]) = b := by
  cases b
  · rw [beq_eq_false_iff_ne]
    intro h3
    apply h2 rfl
    rw [ByteArray.toList_eq] at h3
    apply ByteArray.ext
    apply Array.toList_inj.1
    rw [h3]
  · rw [h rfl]
    decide +kernel

set_option maxHeartbeats 3200000 in
set_option maxRecDepth 100000 in
theorem refR_raw (neg : Bool) (v u : Value) (N D : Nat) (w : World) (h1 : Num w v N) (h2 : Num w u D) :
    Calls Try.prog 11 #[.agg #[.bool neg, v, u]] w fun e w' => e = .returned (.bool (rawB neg N D)) ∧ Below w.heap.size w w' := by
  have b0 : Below w.heap.size w (w.alloc (.cells #[.bool neg, v, u] 25)) := (Below.refl _ _).alloc (Nat.le_refl _) _
  have ha := BlockAt.new w #[.bool neg, v, u] 25
  have k1 := h1.below b0
  have k2 := h2.below b0
  have f1 := far_num h1
  have f2 := far_num h2
  obtain ⟨ao, an, ac, rfl, -, an0, -, -⟩ := h1.len
  obtain ⟨bo, bn, bc, rfl, -, bn0, -, -⟩ := h2.len
  clear h1 h2
  have R1 := Lib.hid (refright_num k1)
  have R2 := Lib.hid (refright_num k2)
  by_cases hD : D = 0
  · obtain rfl : bn = 0 := bn0.2 (by omega)
    have hz := Lib.hid (show rawB neg N D = false by simp [rawB, hD])
    clear an0 bn0 hD k1 k2 ha f1 f2
    go_enter Try.func11, Try.ntmps11
    go_wp2_with fail
    refine R1.out.mono ?_
    rintro e w' ⟨rfl, rfl⟩
    go_wp2_with fail
    refine R2.out.mono ?_
    rintro e w' ⟨rfl, rfl⟩
    go_wp2_with fail
    go_ret
    exact ⟨ret_bool hz.out.symm, b0⟩
  have hbn : ((bn : Int) == 0) = false := by rw [beq_eq_false_iff_ne]; intro h; exact hD (by have := bn0.1 (by omega); omega)
  by_cases hNn : N = 0 ∧ neg = true
  · obtain ⟨hN, rfl⟩ := hNn
    obtain rfl : an = 0 := an0.2 (by omega)
    have hz := Lib.hid (show rawB true N D = false by simp [rawB, hN])
    clear an0 bn0 hD k1 k2 hN ha f1 f2
    go_enter Try.func11, Try.ntmps11
    go_wp2_with fail
    refine R1.out.mono ?_
    rintro e w' ⟨rfl, rfl⟩
    go_wp2_with fail
    refine R2.out.mono ?_
    rintro e w' ⟨rfl, rfl⟩
    go_wp2_with fail
    go_ret
    exact ⟨ret_bool hz.out.symm, b0⟩
  have hz := Lib.hid (show rawB neg N D = decide (Nat.gcd N D = 1) by
    have : (neg && decide (N = 0)) = false := by
      cases neg
      · rfl
      · simp at hNn ⊢; exact hNn
    simp [rawB, Nat.pos_of_ne_zero hD, this])
  have hcase : (neg = true ∧ ((an : Int) == 0) = false) ∨ (neg = false ∧ an = 0) ∨ (neg = false ∧ ((an : Int) == 0) = false) := by
    by_cases ha0 : an = 0
    · refine .inr (.inl ⟨?_, ha0⟩)
      cases neg
      · rfl
      · exact absurd ⟨by have := an0.1 ha0; omega, rfl⟩ hNn
    · have hb : ((an : Int) == 0) = false := by rw [beq_eq_false_iff_ne]; omega
      cases neg
      · exact .inr (.inr ⟨rfl, hb⟩)
      · exact .inl ⟨rfl, hb⟩
  have hl := list_is49 (q := numStr (Nat.gcd N D : Nat)) (b := decide (Nat.gcd N D = 1)) (fun h => (str_one _).1 (by simpa using h)) (fun h => (str_one _).2 (by simpa using h))
  have HC := Lib.hid (fun w => common_fun N D w f1 f2)
  obtain ⟨g, hg⟩ : ∃ g, numStr (Nat.gcd N D : Nat) = g := ⟨_, rfl⟩
  rw [hg] at hl HC
  obtain ⟨z, hzz⟩ : ∃ z, decide (Nat.gcd N D = 1) = z := ⟨_, rfl⟩
  rw [hzz] at hl hz
  obtain ⟨tn, htn⟩ : ∃ s, numStr N = s := ⟨_, rfl⟩
  obtain ⟨td, htd⟩ : ∃ s, numStr D = s := ⟨_, rfl⟩
  have T1 := Lib.hid (fun (W : World) (h : Num W (.slice ao an ac) N) => reftext_fun h)
  have T2 := Lib.hid (fun (W : World) (h : Num W (.slice bo bn bc) D) => reftext_fun h)
  rw [htn] at T1 HC
  rw [htd] at T2 HC
  have K1 := Lib.hid k1
  have K2 := Lib.hid k2
  clear an0 bn0 hD hNn f1 f2 hg hzz htn htd k1 k2
  have tok1 : True := trivial
  rcases hcase with ⟨rfl, han⟩ | ⟨rfl, rfl⟩ | ⟨rfl, han⟩
  all_goals
    go_enter Try.func11, Try.ntmps11
    go_wp2_with fail
    refine R1.out.mono ?_
    rintro e w' ⟨rfl, rfl⟩
    go_wp2_with fail
    refine R2.out.mono ?_
    rintro e w' ⟨rfl, rfl⟩
    go_wp2_with fail
    clear R1 R2
    have ha := ha.below ((Below.refl _ _).drew)
    have K1 := K1.out.below ((Below.refl _ _).drew)
    have K2 := K2.out.below ((Below.refl _ _).drew)
    have B := b0.drew
    clear b0
    obtain ⟨c0, c1, c2⟩ := block3 ha
    go_region_with (first
      | (go_at_call 20; have _t := tok1; clear _t tok1; have tok2 : True := trivial; refine (T1.out _ K1).mono ?_; rintro e W2 ⟨rfl, bq⟩; have ha := ha.below bq; have K2 := K2.below bq; have B := B.trans (bq.mono B.size); clear bq; obtain ⟨c0, c1, c2⟩ := block3 ha)
      | (go_at_call 20; have _t := tok2; refine (T2.out _ K2).mono ?_; rintro e W3 ⟨rfl, bq⟩; have ha := ha.below bq; have B := B.trans (bq.mono B.size); clear bq; obtain ⟨c0, c1, c2⟩ := block3 ha)
      | (go_at_call 41; refine (HC.out _).mono ?_; rintro e W4 ⟨rfl, bq⟩; have ha := ha.below bq; have B := B.trans (bq.mono B.size); clear bq; obtain ⟨c0, c1, c2⟩ := block3 ha))
    all_goals
      go_wp2_with fail
      go_ret
      exact ⟨ret_bool hz.out.symm, B⟩

theorem refR_rat {w : World} {r : Value} {x : Rat} (h : RatN w r x) :
    Calls Try.prog 11 #[r] w fun e w' => e = .returned (.bool true) ∧ Below w.heap.size w w' := by
  obtain ⟨n, d, rfl, h1, h2⟩ := h
  have := refR_raw (decide (x.num < 0)) n d _ _ w h1 h2
  rw [rat_raw x] at this
  exact this
set_option maxHeartbeats 1600000 in
set_option maxRecDepth 100000 in
theorem refR_not {w : World} {r : Value} (h : BadR w r) :
    Calls Try.prog 11 #[r] w fun e w' => e = .returned (.bool false) ∧ Below w.heap.size w w' := by
  obtain ⟨neg, v, u, xs, ys, rfl, h1, h2, h3⟩ := h
  have b0 : Below w.heap.size w (w.alloc (.cells #[.bool neg, v, u] 25)) := (Below.refl _ _).alloc (Nat.le_refl _) _
  cases hx : rightB xs
  · have R1 := Lib.hid (refright_bad ⟨xs, h1.below b0, hx⟩)
    clear h1 h2 h3 hx
    go_enter Try.func11, Try.ntmps11
    go_wp2_with fail
    refine R1.out.mono ?_
    rintro e w' ⟨rfl, rfl⟩
    go_wp2_with fail
    go_ret
    exact ⟨rfl, b0⟩
  · cases hy : rightB ys
    · have R1 := Lib.hid (refright_num (⟨xs, h1.below b0, hx, rfl⟩ : Num _ v (val xs)))
      have R2 := Lib.hid (refright_bad ⟨ys, h2.below b0, hy⟩)
      clear h1 h2 h3 hx hy
      go_enter Try.func11, Try.ntmps11
      go_wp2_with fail
      refine R1.out.mono ?_
      rintro e w' ⟨rfl, rfl⟩
      go_wp2_with fail
      refine R2.out.mono ?_
      rintro e w' ⟨rfl, rfl⟩
      go_wp2_with fail
      go_ret
      exact ⟨rfl, b0⟩
    · have n1 : Num w v (val xs) := ⟨xs, h1, hx, rfl⟩
      have n2 : Num w u (val ys) := ⟨ys, h2, hy, rfl⟩
      have r1 := n1.range.1
      have r2 := n2.range.1
      rw [show val xs = (((val xs).toNat : Nat) : Int) by omega] at n1
      rw [show val ys = (((val ys).toNat : Nat) : Int) by omega] at n2
      have := refR_raw neg v u _ _ w n1 n2
      rw [hx, hy, Bool.true_and, Bool.true_and] at h3
      rw [h3] at this
      exact this
end Go.Proofs.Ythmhljfaenekfaa
