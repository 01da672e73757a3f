/- The sum of two. -/
import Derived.Test.YthmhljfaenekfaaRatRight
import Derived.Deep.RegionWith
namespace Go.Proofs.Ythmhljfaenekfaa
open Go.RowKit NM

/-- What sum keeps: its two arguments, its result's block. -/
structure SumAt (w W : World) (na nb : Bool) (n1 d1 n2 d2 : Value) (N1 D1 N2 D2 : Nat) : Prop where
  bl : Below w.heap.size w W
  a : BlockAt W w.heap.size #[.bool na, n1, d1] 25
  b : BlockAt W (w.heap.size + 1) #[.bool nb, n2, d2] 25
  r : BlockAt W (w.heap.size + 2) #[.bool false, .slice none 0 0, .slice none 0 0] 25
  n1 : Num W n1 N1
  d1 : Num W d1 D1
  n2 : Num W n2 N2
  d2 : Num W d2 D2
theorem SumAt.later {w W W2 : World} {na nb : Bool} {n1 d1 n2 d2 : Value} {N1 D1 N2 D2 : Nat} (h : SumAt w W na nb n1 d1 n2 d2 N1 D1 N2 D2) (hb : Below W.heap.size W W2) : SumAt w W2 na nb n1 d1 n2 d2 N1 D1 N2 D2 :=
  ⟨h.bl.trans (hb.mono h.bl.size), h.a.below hb, h.b.below hb, h.r.below hb, h.n1.below hb, h.d1.below hb, h.n2.below hb, h.d2.below hb⟩
theorem SumAt.start (w : World) (na nb : Bool) (n1 d1 n2 d2 : Value) (N1 D1 N2 D2 : Nat) (h1 : Num w n1 N1) (h2 : Num w d1 D1) (h3 : Num w n2 N2) (h4 : Num w d2 D2) :
    SumAt w (((w.alloc (.cells #[.bool na, n1, d1] 25)).alloc (.cells #[.bool nb, n2, d2] 25)).alloc (.cells #[.bool false, .slice none 0 0, .slice none 0 0] 25)) na nb n1 d1 n2 d2 N1 D1 N2 D2 := by
  have s1 := BlockAt.new w #[.bool na, n1, d1] 25
  have b1 : Below w.heap.size w (w.alloc (.cells #[.bool na, n1, d1] 25)) := (Below.refl _ _).alloc (Nat.le_refl _) _
  have e1 : (w.alloc (.cells #[.bool na, n1, d1] 25)).heap.size = w.heap.size + 1 := by simp
  generalize w.alloc (.cells #[.bool na, n1, d1] 25) = w1 at *
  have s2 := BlockAt.new w1 #[.bool nb, n2, d2] 25
  have b2 : Below w1.heap.size w1 (w1.alloc (.cells #[.bool nb, n2, d2] 25)) := (Below.refl _ _).alloc (Nat.le_refl _) _
  have e2 : (w1.alloc (.cells #[.bool nb, n2, d2] 25)).heap.size = w.heap.size + 2 := by simp [e1]
  rw [e1] at s2
  generalize w1.alloc (.cells #[.bool nb, n2, d2] 25) = w2 at *
  have s3 := BlockAt.new w2 #[.bool false, .slice none 0 0, .slice none 0 0] 25
  have b3 : Below w2.heap.size w2 (w2.alloc (.cells #[.bool false, .slice none 0 0, .slice none 0 0] 25)) := (Below.refl _ _).alloc (Nat.le_refl _) _
  rw [e2] at s3
  have c := b2.trans (b3.mono b2.size)
  have d := b1.trans (c.mono b1.size)
  exact ⟨d, s1.below c, s2.below b3, s3, h1.below d, h2.below d, h3.below d, h4.below d⟩
theorem SumAt.cells {w W : World} {na nb : Bool} {n1 d1 n2 d2 : Value} {N1 D1 N2 D2 : Nat} (h : SumAt w W na nb n1 d1 n2 d2 N1 D1 N2 D2) :
    W.cell? ⟨w.heap.size, 0, none⟩ = some (.bool na) ∧ W.cell? ⟨w.heap.size, 1, none⟩ = some n1 ∧ W.cell? ⟨w.heap.size, 2, none⟩ = some d1 ∧
    W.cell? ⟨w.heap.size + 1, 0, none⟩ = some (.bool nb) ∧ W.cell? ⟨w.heap.size + 1, 1, none⟩ = some n2 ∧ W.cell? ⟨w.heap.size + 1, 2, none⟩ = some d2 :=
  ⟨h.a.cell 0, h.a.cell 1, h.a.cell 2, h.b.cell 0, h.b.cell 1, h.b.cell 2⟩

theorem RawN.form {w : World} {v : Value} {neg : Bool} {N D : Nat} (h : RawN w v neg N D) : ∃ s o1 n1 c1 o2 n2 c2, v = .agg #[.bool s, .slice o1 n1 c1, .slice o2 n2 c2] := by
  obtain ⟨n, d, rfl, h1, h2⟩ := h
  obtain ⟨o1, n1, c1, rfl, -⟩ := h1.len
  obtain ⟨o2, n2, c2, rfl, -⟩ := h2.len
  exact ⟨_, _, _, _, _, _, _, rfl⟩
/-- Something in the sum is too great. -/
def OverS (N1 D1 N2 D2 : Nat) : Prop := pw 16 ≤ ((N1 * D2 : Nat) : Int) ∨ pw 16 ≤ ((N2 * D1 : Nat) : Int) ∨ pw 16 ≤ ((D1 * D2 : Nat) : Int) ∨ pw 16 ≤ ((N1 * D2 + N2 * D1 : Nat) : Int)

set_option maxHeartbeats 3200000 in
set_option maxRecDepth 100000 in
theorem sum_raw (na nb : Bool) (n1 d1 n2 d2 : Value) (N1 D1 N2 D2 : Nat) (w : World) (h1 : Num w n1 N1) (h2 : Num w d1 D1) (h3 : Num w n2 N2) (h4 : Num w d2 D2) (hD1 : 0 < D1) (hD2 : 0 < D2) :
    Calls Try.prog 47 #[.agg #[.bool na, n1, d1], .agg #[.bool nb, n2, d2]] w fun e w' => ((¬ OverS N1 D1 N2 D2 ∧ ∃ r, e = .returned r ∧ RatN w' r (frac na N1 D1 + frac nb N2 D2)) ∨ (OverS N1 D1 N2 D2 ∧ e = .panicked [{ v := faultOver, recovered := false }])) ∧ Below w.heap.size w w' := by
  have S := SumAt.start w na nb n1 d1 n2 d2 N1 D1 N2 D2 h1 h2 h3 h4
  clear h1 h2 h3 h4
  go_enter Try.func47, Try.ntmps47
  go_wp2_with fail
  generalize ((w.alloc (.cells #[.bool na, n1, d1] 25)).alloc (.cells #[.bool nb, n2, d2] 25)).alloc (.cells #[.bool false, .slice none 0 0, .slice none 0 0] 25) = W at *
  have HM := Lib.hid (mul_num n1 d2 N1 D2 _ S.n1 S.d2)
  refine HM.out.mono ?_
  rintro e W2 ⟨hto, bq⟩
  have S := S.later bq
  clear bq HM
  obtain ⟨c0, c1, c2, c3, c4, c5⟩ := S.cells
  rcases hto with ⟨hlt, x, rfl, hx⟩ | ⟨hge, rfl⟩
  rotate_left
  · have hov := Lib.hid (show OverS N1 D1 N2 D2 from .inl hge)
    clear hge
    go_wp2_with fail
    refine (must_over _ _).mono ?_
    rintro e w' ⟨rfl, rfl⟩
    go_wp2_with fail
    exact ⟨rfl, .inr ⟨hov.out, rfl⟩, S.bl⟩
  have hx : Num W2 x ((N1 * D2 : Nat) : Int) := hx
  have lx := Lib.hid (show ((N1 * D2 : Nat) : Int) < pw 16 from hlt)
  clear hlt
  go_wp2_with fail
  refine (must_ok _ _).mono ?_
  rintro e w' ⟨rfl, rfl⟩
  go_wp2_with fail
  have HM := Lib.hid (mul_num n2 d1 N2 D1 _ S.n2 S.d1)
  refine HM.out.mono ?_
  rintro e W2 ⟨hto, bq⟩
  have S := S.later bq
  have hx := hx.below bq
  clear bq HM c0 c1 c2 c3 c4 c5
  obtain ⟨c0, c1, c2, c3, c4, c5⟩ := S.cells
  rcases hto with ⟨hlt, y, rfl, hy⟩ | ⟨hge, rfl⟩
  rotate_left
  · have hov := Lib.hid (show OverS N1 D1 N2 D2 from .inr (.inl hge))
    clear hge
    go_wp2_with fail
    refine (must_over _ _).mono ?_
    rintro e w' ⟨rfl, rfl⟩
    go_wp2_with fail
    exact ⟨rfl, .inr ⟨hov.out, rfl⟩, S.bl⟩
  have hy : Num W2 y ((N2 * D1 : Nat) : Int) := hy
  have ly := Lib.hid (show ((N2 * D1 : Nat) : Int) < pw 16 from hlt)
  clear hlt
  go_wp2_with fail
  refine (must_ok _ _).mono ?_
  rintro e w' ⟨rfl, rfl⟩
  go_wp2_with fail
  have HM := Lib.hid (mul_num d1 d2 D1 D2 _ S.d1 S.d2)
  refine HM.out.mono ?_
  rintro e W2 ⟨hto, bq⟩
  have S := S.later bq
  have hx := hx.below bq
  have hy := hy.below bq
  clear bq HM c0 c1 c2 c3 c4 c5
  obtain ⟨c0, c1, c2, c3, c4, c5⟩ := S.cells
  rcases hto with ⟨hlt, z, rfl, hz⟩ | ⟨hge, rfl⟩
  rotate_left
  · have hov := Lib.hid (show OverS N1 D1 N2 D2 from .inr (.inr (.inl hge)))
    clear hge
    go_wp2_with fail
    refine (must_over _ _).mono ?_
    rintro e w' ⟨rfl, rfl⟩
    go_wp2_with fail
    exact ⟨rfl, .inr ⟨hov.out, rfl⟩, S.bl⟩
  have hz : Num W2 z ((D1 * D2 : Nat) : Int) := hz
  have lz := Lib.hid (show ((D1 * D2 : Nat) : Int) < pw 16 from hlt)
  clear hlt
  go_wp2_with fail
  refine (must_ok _ _).mono ?_
  rintro e w' ⟨rfl, rfl⟩
  go_wp2_with fail
  have HM := Lib.hid (add_num x y _ _ _ hx hy)
  refine HM.out.mono ?_
  rintro e W2 ⟨hto, bq⟩
  have S := S.later bq
  have hx := hx.below bq
  have hy := hy.below bq
  have hz := hz.below bq
  clear bq HM c0 c1 c2 c3 c4 c5
  obtain ⟨c0, c1, c2, c3, c4, c5⟩ := S.cells
  rcases hto with ⟨hlt, q, rfl, hq⟩ | ⟨hge, rfl⟩
  rotate_left
  · have hov := Lib.hid (show OverS N1 D1 N2 D2 from .inr (.inr (.inr hge)))
    clear hge
    go_wp2_with fail
    refine (must_over _ _).mono ?_
    rintro e w' ⟨rfl, rfl⟩
    go_wp2_with fail
    exact ⟨rfl, .inr ⟨hov.out, rfl⟩, S.bl⟩
  have hq : Num W2 q ((N1 * D2 + N2 * D1 : Nat) : Int) := hq
  have lq := Lib.hid (show ((N1 * D2 + N2 * D1 : Nat) : Int) < pw 16 from hlt)
  clear hlt
  go_wp2_with fail
  refine (must_ok _ _).mono ?_
  rintro e w' ⟨rfl, rfl⟩
  have hno := Lib.hid (show ¬ OverS N1 D1 N2 D2 from fun h => by
    have a1 := lx.out
    have a2 := ly.out
    have a3 := lz.out
    have a4 := lq.out
    rcases h with h | h | h | h <;> omega)
  have hz0 := Lib.hid (show 0 < D1 * D2 from Nat.mul_pos hD1 hD2)
  clear lx ly lz lq
  have hrS := S.r
  have f0 := hrS.free 0
  have f1 := hrS.free 1
  have f2 := hrS.free 2
  have g0 := hrS.cell 0
  have g1 := hrS.cell 1
  have g2 := hrS.cell 2
  simp at g0 g1 g2
  by_cases hs : na = nb
  · subst hs
    have hse : (na == na) = true := by simp
    have HR := Lib.hid (reduced_num na q z _ _ _ hq hz hz0.out)
    go_wp2_with fail
    refine HR.out.mono ?_
    rintro e W3 ⟨⟨r, rfl, hr⟩, bq⟩
    rw [sum_same na N1 D1 N2 D2 hD1 hD2] at hr
    clear HR f0 f1 f2 g0 g1 g2 hrS
    have S := S.later bq
    clear bq
    obtain ⟨s_, o1, m1, k1, o2, m2, k2, rfl⟩ := RawN.form hr
    have hrS := S.r
    have f0 := hrS.free 0
    have f1 := hrS.free 1
    have f2 := hrS.free 2
    have g0 := hrS.cell 0
    have g1 := hrS.cell 1
    have g2 := hrS.cell 2
    simp at g0 g1 g2
    have Hr := Lib.hid hr
    clear hr
    go_wp2_with fail
    refine bodyPost_ret (v := .agg #[.bool s_, .slice o1 m1 k1, .slice o2 m2 k2]) (by simp [results, Try.results47, go_sem, g0, g1, g2]) rfl ⟨.inl ⟨hno.out, _, rfl, RawN.set3 Hr.out hrS⟩, ?_⟩
    exact ((S.bl.setCell (by simp; omega) _).setCell (by simp; omega) _).setCell (by simp; omega) _
  · have hse : (na == nb) = false := by simpa using hs
    by_cases hlt : N1 * D2 < N2 * D1
    · have hC := cmp_num hx hy
      rw [sgn, if_pos (show ((N1 * D2 : Nat) : Int) < ((N2 * D1 : Nat) : Int) by omega)] at hC
      have HC := Lib.hid hC
      clear hC
      go_wp2_with fail
      refine HC.out.mono ?_
      rintro e W3 ⟨rfl, bq⟩
      have S := S.later bq
      have hx := hx.below bq
      have hy := hy.below bq
      have hz := hz.below bq
      clear HC bq f0 f1 f2 g0 g1 g2 hrS c0 c1 c2 c3 c4 c5
      obtain ⟨c0, c1, c2, c3, c4, c5⟩ := S.cells
      have hl := Lib.hid (show ((N2 * D1 : Nat) : Int) - ((N1 * D2 : Nat) : Int) = ((N2 * D1 - N1 * D2 : Nat) : Int) by omega)
      have he := Lib.hid (sum_behind na nb N1 D1 N2 D2 hD1 hD2 hs (by omega))
      have HR := Lib.hid (fun (v : Value) (w : World) (h1 : Num w v ((N2 * D1 - N1 * D2 : Nat) : Int)) (h2 : Num w z ((D1 * D2 : Nat) : Int)) => reduced_num nb v z _ _ w h1 h2 hz0.out)
      go_wp2_with fail
      have S := S.later ((Below.refl W3.heap.size W3).drew)
      have hz := hz.below ((Below.refl W3.heap.size W3).drew)
      have HS := Lib.hid (sub_num y x _ _ W3.drew (hy.below ((Below.refl W3.heap.size W3).drew)) (hx.below ((Below.refl W3.heap.size W3).drew)) (by omega))
      go_region_with (first
        | (go_at_call 69; refine HS.out.mono ?_; rintro e W4 ⟨⟨d, rfl, hd⟩, bq⟩; rw [hl.out] at hd; have S := S.later bq; have hz := hz.below bq; clear bq; obtain ⟨c0, c1, c2, c3, c4, c5⟩ := S.cells)
        | (go_at_call 67; refine (must_ok _ _).mono ?_; rintro e w' ⟨rfl, rfl⟩)
        | (go_at_call 37; refine (HR.out _ _ hd hz).mono ?_; rintro e W5 ⟨⟨r, rfl, hr⟩, bq⟩; rw [he.out] at hr; have S := S.later bq; clear bq; obtain ⟨s_, o1, m1, k1, o2, m2, k2, rfl⟩ := RawN.form hr; have hrS := S.r; have f0 := hrS.free 0; have f1 := hrS.free 1; have f2 := hrS.free 2; have g0 := hrS.cell 0; have g1 := hrS.cell 1; have g2 := hrS.cell 2; simp at g0 g1 g2; have Hr := Lib.hid hr; clear hr; obtain ⟨c0, c1, c2, c3, c4, c5⟩ := S.cells))
      all_goals
        go_wp2_with fail
        refine bodyPost_ret (v := .agg #[.bool s_, .slice o1 m1 k1, .slice o2 m2 k2]) (by simp [results, Try.results47, go_sem, g0, g1, g2]) rfl ⟨.inl ⟨hno.out, _, rfl, RawN.set3 Hr.out hrS⟩, ?_⟩
        exact ((S.bl.setCell (by simp; omega) _).setCell (by simp; omega) _).setCell (by simp; omega) _
    · have hC := cmp_num hx hy
      obtain ⟨g, hg, hg0⟩ : ∃ g, sgn ((N1 * D2 : Nat) : Int) ((N2 * D1 : Nat) : Int) = g ∧ ¬ g < 0 := ⟨_, rfl, by unfold sgn; split <;> (try split) <;> omega⟩
      rw [hg] at hC
      clear hg
      have HC := Lib.hid hC
      clear hC
      go_wp2_with fail
      refine HC.out.mono ?_
      rintro e W3 ⟨rfl, bq⟩
      have S := S.later bq
      have hx := hx.below bq
      have hy := hy.below bq
      have hz := hz.below bq
      clear HC bq f0 f1 f2 g0 g1 g2 hrS c0 c1 c2 c3 c4 c5
      obtain ⟨c0, c1, c2, c3, c4, c5⟩ := S.cells
      have hl := Lib.hid (show ((N1 * D2 : Nat) : Int) - ((N2 * D1 : Nat) : Int) = ((N1 * D2 - N2 * D1 : Nat) : Int) by omega)
      have he := Lib.hid (sum_ahead na nb N1 D1 N2 D2 hD1 hD2 hs (by omega))
      have HR := Lib.hid (fun (v : Value) (w : World) (h1 : Num w v ((N1 * D2 - N2 * D1 : Nat) : Int)) (h2 : Num w z ((D1 * D2 : Nat) : Int)) => reduced_num na v z _ _ w h1 h2 hz0.out)
      go_wp2_with fail
      have S := S.later ((Below.refl W3.heap.size W3).drew)
      have hz := hz.below ((Below.refl W3.heap.size W3).drew)
      have HS := Lib.hid (sub_num x y _ _ W3.drew (hx.below ((Below.refl W3.heap.size W3).drew)) (hy.below ((Below.refl W3.heap.size W3).drew)) (by omega))
      go_region_with (first
        | (go_at_call 69; refine HS.out.mono ?_; rintro e W4 ⟨⟨d, rfl, hd⟩, bq⟩; rw [hl.out] at hd; have S := S.later bq; have hz := hz.below bq; clear bq; obtain ⟨c0, c1, c2, c3, c4, c5⟩ := S.cells)
        | (go_at_call 67; refine (must_ok _ _).mono ?_; rintro e w' ⟨rfl, rfl⟩)
        | (go_at_call 37; refine (HR.out _ _ hd hz).mono ?_; rintro e W5 ⟨⟨r, rfl, hr⟩, bq⟩; rw [he.out] at hr; have S := S.later bq; clear bq; obtain ⟨s_, o1, m1, k1, o2, m2, k2, rfl⟩ := RawN.form hr; have hrS := S.r; have f0 := hrS.free 0; have f1 := hrS.free 1; have f2 := hrS.free 2; have g0 := hrS.cell 0; have g1 := hrS.cell 1; have g2 := hrS.cell 2; simp at g0 g1 g2; have Hr := Lib.hid hr; clear hr; obtain ⟨c0, c1, c2, c3, c4, c5⟩ := S.cells))
      all_goals
        go_wp2_with fail
        refine bodyPost_ret (v := .agg #[.bool s_, .slice o1 m1 k1, .slice o2 m2 k2]) (by simp [results, Try.results47, go_sem, g0, g1, g2]) rfl ⟨.inl ⟨hno.out, _, rfl, RawN.set3 Hr.out hrS⟩, ?_⟩
        exact ((S.bl.setCell (by simp; omega) _).setCell (by simp; omega) _).setCell (by simp; omega) _
end Go.Proofs.Ythmhljfaenekfaa
