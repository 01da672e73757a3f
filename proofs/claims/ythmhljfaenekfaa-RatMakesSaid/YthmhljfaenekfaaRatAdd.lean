/- Add, Sub, Mul, Quo. -/
import Derived.Test.YthmhljfaenekfaaRatReckon
namespace Go.Proofs.Ythmhljfaenekfaa
open Go.RowKit NM

def nilRat : Value := .agg #[.bool false, .slice none 0 0, .slice none 0 0]
theorem SumAt.ra {w W : World} {na nb : Bool} {n1 d1 n2 d2 : Value} {N1 D1 N2 D2 : Nat} (h : SumAt w W na nb n1 d1 n2 d2 N1 D1 N2 D2) : RawN W (.agg #[.bool na, n1, d1]) na N1 D1 := ⟨n1, d1, rfl, h.n1, h.d1⟩
theorem SumAt.rb {w W : World} {na nb : Bool} {n1 d1 n2 d2 : Value} {N1 D1 N2 D2 : Nat} (h : SumAt w W na nb n1 d1 n2 d2 N1 D1 N2 D2) : RawN W (.agg #[.bool nb, n2, d2]) nb N2 D2 := ⟨n2, d2, rfl, h.n2, h.d2⟩
def OverA (x y : Rat) : Prop := OverS x.num.natAbs x.den y.num.natAbs y.den
def OverM (x y : Rat) : Prop := OverP x.num.natAbs x.den y.num.natAbs y.den
def OverQ (x y : Rat) : Prop := OverP x.num.natAbs x.den y.den y.num.natAbs
theorem den_pos (x : Rat) : 0 < x.den := Nat.pos_of_ne_zero x.den_nz

set_option maxHeartbeats 1600000 in
set_option maxRecDepth 100000 in
theorem add_rat (v u : Value) (x y : Rat) (w : World) (h1 : RatN w v x) (h2 : RatN w u y) :
    Calls Try.prog 21 #[v, u] w fun e w' => RkPost (OverA x y) (x + y) e w' ∧ Below w.heap.size w w' := by
  have hmf : ∀ (fn : Fn) (first cap : Array Value) (w : World), (Instr.makeFunc fn first cap).run Try.prog w = .ok (.func fn first cap) w := fun _ _ _ _ => rfl
  obtain ⟨n1, d1, rfl, a1, a2⟩ := h1
  obtain ⟨n2, d2, rfl, a3, a4⟩ := h2
  have Hx := Lib.hid (frac_self x)
  have Hy := Lib.hid (frac_self y)
  have R1 := fun (W : World) (h : RawN W (.agg #[.bool (decide (x.num < 0)), n1, d1]) (decide (x.num < 0)) x.num.natAbs x.den) => right_rat (x := x) h
  have R2 := fun (W : World) (h : RawN W (.agg #[.bool (decide (y.num < 0)), n2, d2]) (decide (y.num < 0)) y.num.natAbs y.den) => right_rat (x := y) h
  have hD1 := Lib.hid (den_pos x)
  have hD2 := Lib.hid (den_pos y)
  unfold OverA
  generalize x.num.natAbs = N1 at *
  generalize y.num.natAbs = N2 at *
  generalize x.den = D1 at *
  generalize y.den = D2 at *
  generalize decide (x.num < 0) = na at *
  generalize decide (y.num < 0) = nb at *
  have S := SumAt.start w na nb n1 d1 n2 d2 N1 D1 N2 D2 a1 a2 a3 a4
  have RR1 := Lib.hid R1
  have RR2 := Lib.hid R2
  clear a1 a2 a3 a4 R1 R2
  go_enter Try.func21, Try.ntmps21
  go_wp2_with fail
  generalize ((w.alloc (.cells #[.bool na, n1, d1] 25)).alloc (.cells #[.bool nb, n2, d2] 25)).alloc (.cells #[.bool false, .slice none 0 0, .slice none 0 0] 25) = W at *
  refine (RR1.out W S.ra).mono ?_
  rintro e W2 ⟨rfl, bq⟩
  have S := S.later bq
  clear bq
  obtain ⟨c0, c1, c2, c3, c4, c5⟩ := S.cells
  go_wp2_with fail
  refine (RR2.out W2 S.rb).mono ?_
  rintro e W3 ⟨rfl, bq⟩
  have S := S.later bq
  clear bq c0 c1 c2 c3 c4 c5
  have HK := Lib.hid (reckon_add w.heap.size (w.heap.size + 1) (OverS N1 D1 N2 D2) (frac na N1 D1 + frac nb N2 D2) W3 (fun V hV => by
    have T := S.later hV
    exact add_do _ _ na nb n1 d1 n2 d2 N1 D1 N2 D2 V T.a T.b T.n1 T.d1 T.n2 T.d2 hD1.out hD2.out))
  go_wp2_with fail
  refine HK.out.mono ?_
  rintro e W4 ⟨hk, bq⟩
  have hr := (S.later bq).r
  have B := (S.later bq).bl
  clear bq HK S
  have f0 := hr.free 0
  have f1 := hr.free 1
  have f2 := hr.free 2
  have g0 := hr.cell 0
  have g1 := hr.cell 1
  have g2 := hr.cell 2
  simp at g0 g1 g2
  rcases hk with ⟨hno, r, rfl, hrat⟩ | ⟨hov, rfl⟩
  · obtain ⟨s_, o1, m1, k1, o2, m2, k2, rfl⟩ := RawN.form hrat
    rw [Hx.out, Hy.out] at hrat
    have Hr := Lib.hid hrat
    have Hno := Lib.hid hno
    clear hrat hno
    go_wp2_with fail
    refine bodyPost_ret (v := .tuple #[.agg #[.bool s_, .slice o1 m1 k1, .slice o2 m2 k2], .int .i64 0]) (by simp [results, Try.results21, go_sem, g0, g1, g2]) rfl ⟨.inl ⟨Hno.out, _, rfl, RawN.set3 Hr.out hr⟩, ?_⟩
    exact ((B.setCell (by simp; omega) _).setCell (by simp; omega) _).setCell (by simp; omega) _
  · have Hov := Lib.hid hov
    clear hov
    go_wp2_with fail
    refine bodyPost_ret (v := .tuple #[.agg #[.bool false, .slice none 0 0, .slice none 0 0], .int .i64 2]) (by simp [results, Try.results21, go_sem, g0, g1, g2]) rfl ⟨.inr ⟨Hov.out, rfl⟩, ?_⟩
    exact ((B.setCell (by simp; omega) _).setCell (by simp; omega) _).setCell (by simp; omega) _
set_option maxHeartbeats 1600000 in
set_option maxRecDepth 100000 in
theorem mul_rat (v u : Value) (x y : Rat) (w : World) (h1 : RatN w v x) (h2 : RatN w u y) :
    Calls Try.prog 23 #[v, u] w fun e w' => RkPost (OverM x y) (x * y) e w' ∧ Below w.heap.size w w' := by
  have hmf : ∀ (fn : Fn) (first cap : Array Value) (w : World), (Instr.makeFunc fn first cap).run Try.prog w = .ok (.func fn first cap) w := fun _ _ _ _ => rfl
  obtain ⟨n1, d1, rfl, a1, a2⟩ := h1
  obtain ⟨n2, d2, rfl, a3, a4⟩ := h2
  have Hx := Lib.hid (frac_self x)
  have Hy := Lib.hid (frac_self y)
  have R1 := fun (W : World) (h : RawN W (.agg #[.bool (decide (x.num < 0)), n1, d1]) (decide (x.num < 0)) x.num.natAbs x.den) => right_rat (x := x) h
  have R2 := fun (W : World) (h : RawN W (.agg #[.bool (decide (y.num < 0)), n2, d2]) (decide (y.num < 0)) y.num.natAbs y.den) => right_rat (x := y) h
  have hD1 := Lib.hid (den_pos x)
  have hD2 := Lib.hid (den_pos y)
  unfold OverM
  generalize x.num.natAbs = N1 at *
  generalize y.num.natAbs = N2 at *
  generalize x.den = D1 at *
  generalize y.den = D2 at *
  generalize decide (x.num < 0) = na at *
  generalize decide (y.num < 0) = nb at *
  have S := SumAt.start w na nb n1 d1 n2 d2 N1 D1 N2 D2 a1 a2 a3 a4
  have RR1 := Lib.hid R1
  have RR2 := Lib.hid R2
  clear a1 a2 a3 a4 R1 R2
  go_enter Try.func23, Try.ntmps23
  go_wp2_with fail
  generalize ((w.alloc (.cells #[.bool na, n1, d1] 25)).alloc (.cells #[.bool nb, n2, d2] 25)).alloc (.cells #[.bool false, .slice none 0 0, .slice none 0 0] 25) = W at *
  refine (RR1.out W S.ra).mono ?_
  rintro e W2 ⟨rfl, bq⟩
  have S := S.later bq
  clear bq
  obtain ⟨c0, c1, c2, c3, c4, c5⟩ := S.cells
  go_wp2_with fail
  refine (RR2.out W2 S.rb).mono ?_
  rintro e W3 ⟨rfl, bq⟩
  have S := S.later bq
  clear bq c0 c1 c2 c3 c4 c5
  have HK := Lib.hid (reckon_mul w.heap.size (w.heap.size + 1) (OverP N1 D1 N2 D2) (frac (na != nb) (N1 * N2) (D1 * D2)) W3 (fun V hV => by
    have T := S.later hV
    exact mul_do _ _ na nb n1 d1 n2 d2 N1 D1 N2 D2 V T.a T.b T.n1 T.d1 T.n2 T.d2 hD1.out hD2.out))
  go_wp2_with fail
  refine HK.out.mono ?_
  rintro e W4 ⟨hk, bq⟩
  have hr := (S.later bq).r
  have B := (S.later bq).bl
  clear bq HK S
  have f0 := hr.free 0
  have f1 := hr.free 1
  have f2 := hr.free 2
  have g0 := hr.cell 0
  have g1 := hr.cell 1
  have g2 := hr.cell 2
  simp at g0 g1 g2
  rcases hk with ⟨hno, r, rfl, hrat⟩ | ⟨hov, rfl⟩
  · obtain ⟨s_, o1, m1, k1, o2, m2, k2, rfl⟩ := RawN.form hrat
    rw [prod_frac, Hx.out, Hy.out] at hrat
    have Hr := Lib.hid hrat
    have Hno := Lib.hid hno
    clear hrat hno
    go_wp2_with fail
    refine bodyPost_ret (v := .tuple #[.agg #[.bool s_, .slice o1 m1 k1, .slice o2 m2 k2], .int .i64 0]) (by simp [results, Try.results23, go_sem, g0, g1, g2]) rfl ⟨.inl ⟨Hno.out, _, rfl, RawN.set3 Hr.out hr⟩, ?_⟩
    exact ((B.setCell (by simp; omega) _).setCell (by simp; omega) _).setCell (by simp; omega) _
  · have Hov := Lib.hid hov
    clear hov
    go_wp2_with fail
    refine bodyPost_ret (v := .tuple #[.agg #[.bool false, .slice none 0 0, .slice none 0 0], .int .i64 2]) (by simp [results, Try.results23, go_sem, g0, g1, g2]) rfl ⟨.inr ⟨Hov.out, rfl⟩, ?_⟩
    exact ((B.setCell (by simp; omega) _).setCell (by simp; omega) _).setCell (by simp; omega) _
set_option maxHeartbeats 1600000 in
set_option maxRecDepth 100000 in
theorem quo_rat (v u : Value) (x y : Rat) (w : World) (h1 : RatN w v x) (h2 : RatN w u y) (hy0 : y ≠ 0) :
    Calls Try.prog 24 #[v, u] w fun e w' => RkPost (OverQ x y) (x / y) e w' ∧ Below w.heap.size w w' := by
  have hmf : ∀ (fn : Fn) (first cap : Array Value) (w : World), (Instr.makeFunc fn first cap).run Try.prog w = .ok (.func fn first cap) w := fun _ _ _ _ => rfl
  obtain ⟨n1, d1, rfl, a1, a2⟩ := h1
  obtain ⟨n2, d2, rfl, a3, a4⟩ := h2
  have hN2 := Lib.hid (show 0 < y.num.natAbs by
    have : y.num ≠ 0 := fun h => hy0 (Rat.num_eq_zero.1 h)
    omega)
  obtain ⟨lo, ln, lc, rfl, -, ln0, -, -⟩ := a3.len
  have hln : ((ln : Int) == 0) = false := by
    have := hN2.out
    rw [beq_eq_false_iff_ne]; intro h; have := ln0.1 (by omega); omega
  clear hy0 ln0
  have Hx := Lib.hid (frac_self x)
  have Hy := Lib.hid (frac_self y)
  have R1 := fun (W : World) (h : RawN W (.agg #[.bool (decide (x.num < 0)), n1, d1]) (decide (x.num < 0)) x.num.natAbs x.den) => right_rat (x := x) h
  have R2 := fun (W : World) (h : RawN W (.agg #[.bool (decide (y.num < 0)), (.slice lo ln lc), d2]) (decide (y.num < 0)) y.num.natAbs y.den) => right_rat (x := y) h
  have hD1 := Lib.hid (den_pos x)
  have hD2 := Lib.hid (den_pos y)
  unfold OverQ
  generalize x.num.natAbs = N1 at *
  generalize y.num.natAbs = N2 at *
  generalize x.den = D1 at *
  generalize y.den = D2 at *
  generalize decide (x.num < 0) = na at *
  generalize decide (y.num < 0) = nb at *
  have S := SumAt.start w na nb n1 d1 (.slice lo ln lc) d2 N1 D1 N2 D2 a1 a2 a3 a4
  have RR1 := Lib.hid R1
  have RR2 := Lib.hid R2
  clear a1 a2 a3 a4 R1 R2
  go_enter Try.func24, Try.ntmps24
  go_wp2_with fail
  generalize ((w.alloc (.cells #[.bool na, n1, d1] 25)).alloc (.cells #[.bool nb, (.slice lo ln lc), d2] 25)).alloc (.cells #[.bool false, .slice none 0 0, .slice none 0 0] 25) = W at *
  refine (RR1.out W S.ra).mono ?_
  rintro e W2 ⟨rfl, bq⟩
  have S := S.later bq
  clear bq
  obtain ⟨c0, c1, c2, c3, c4, c5⟩ := S.cells
  go_wp2_with fail
  refine (RR2.out W2 S.rb).mono ?_
  rintro e W3 ⟨rfl, bq⟩
  have S := S.later bq
  clear bq c0 c1 c2 c3 c4 c5
  obtain ⟨c0, c1, c2, c3, c4, c5⟩ := S.cells
  have HK := Lib.hid (reckon_quo w.heap.size (w.heap.size + 1) (OverP N1 D1 D2 N2) (frac (na != nb) (N1 * D2) (D1 * N2)) W3 (fun V hV => by
    have T := S.later hV
    exact quo_do _ _ na nb n1 d1 (.slice lo ln lc) d2 N1 D1 N2 D2 V T.a T.b T.n1 T.d1 T.n2 T.d2 hD1.out hN2.out))
  go_wp2_with fail
  refine HK.out.mono ?_
  rintro e W4 ⟨hk, bq⟩
  have hr := (S.later bq).r
  have B := (S.later bq).bl
  clear bq HK S
  have f0 := hr.free 0
  have f1 := hr.free 1
  have f2 := hr.free 2
  have g0 := hr.cell 0
  have g1 := hr.cell 1
  have g2 := hr.cell 2
  simp at g0 g1 g2
  rcases hk with ⟨hno, r, rfl, hrat⟩ | ⟨hov, rfl⟩
  · obtain ⟨s_, o1, m1, k1, o2, m2, k2, rfl⟩ := RawN.form hrat
    rw [prod_frac, inv_frac nb hN2.out hD2.out, Hx.out, Hy.out, ← Rat.div_def] at hrat
    have Hr := Lib.hid hrat
    have Hno := Lib.hid hno
    clear hrat hno
    go_wp2_with fail
    refine bodyPost_ret (v := .tuple #[.agg #[.bool s_, .slice o1 m1 k1, .slice o2 m2 k2], .int .i64 0]) (by simp [results, Try.results24, go_sem, g0, g1, g2]) rfl ⟨.inl ⟨Hno.out, _, rfl, RawN.set3 Hr.out hr⟩, ?_⟩
    exact ((B.setCell (by simp; omega) _).setCell (by simp; omega) _).setCell (by simp; omega) _
  · have Hov := Lib.hid hov
    clear hov
    go_wp2_with fail
    refine bodyPost_ret (v := .tuple #[.agg #[.bool false, .slice none 0 0, .slice none 0 0], .int .i64 2]) (by simp [results, Try.results24, go_sem, g0, g1, g2]) rfl ⟨.inr ⟨Hov.out, rfl⟩, ?_⟩
    exact ((B.setCell (by simp; omega) _).setCell (by simp; omega) _).setCell (by simp; omega) _
theorem SumAt.flip {w W : World} {na nb : Bool} {n1 d1 : Value} {o2 o3 : Option Addr} {m2 m3 k2 k3 : Nat} {N1 D1 N2 D2 : Nat} (h : SumAt w W na nb n1 d1 (.slice o2 m2 k2) (.slice o3 m3 k3) N1 D1 N2 D2) (c : Bool) : SumAt w (W.setCell ⟨w.heap.size + 1, 0, none⟩ (.bool c)) na c n1 d1 (.slice o2 m2 k2) (.slice o3 m3 k3) N1 D1 N2 D2 := by
  have hl : NoLimb #[.bool nb, .slice o2 m2 k2, .slice o3 m3 k3] := noLimb3 (fun _ h => by cases h) (fun _ h => by cases h)
  exact ⟨h.bl.setCell (by simp) _, h.a.other (by omega) _ _, h.b.set 0 _, h.r.other (by omega) _ _, h.n1.set_other h.b hl _ _, h.d1.set_other h.b hl _ _, h.n2.set_other h.b hl _ _, h.d2.set_other h.b hl _ _⟩
set_option maxHeartbeats 1600000 in
set_option maxRecDepth 100000 in
theorem sub_rat (v u : Value) (x y : Rat) (w : World) (h1 : RatN w v x) (h2 : RatN w u y) :
    Calls Try.prog 22 #[v, u] w fun e w' => RkPost (OverA x y) (x - y) e w' ∧ Below w.heap.size w w' := by
  have hmf : ∀ (fn : Fn) (first cap : Array Value) (w : World), (Instr.makeFunc fn first cap).run Try.prog w = .ok (.func fn first cap) w := fun _ _ _ _ => rfl
  obtain ⟨n1, d1, rfl, a1, a2⟩ := h1
  obtain ⟨n2, d2, rfl, a3, a4⟩ := h2
  obtain ⟨lo, ln, lc, rfl, -⟩ := a3.len
  obtain ⟨l2, ln2, lc2, rfl, -⟩ := a4.len
  have Hx := Lib.hid (frac_self x)
  have Hy := Lib.hid (frac_self y)
  have R1 := fun (W : World) (h : RawN W (.agg #[.bool (decide (x.num < 0)), n1, d1]) (decide (x.num < 0)) x.num.natAbs x.den) => right_rat (x := x) h
  have R2 := fun (W : World) (h : RawN W (.agg #[.bool (decide (y.num < 0)), .slice lo ln lc, .slice l2 ln2 lc2]) (decide (y.num < 0)) y.num.natAbs y.den) => right_rat (x := y) h
  have hD1 := Lib.hid (den_pos x)
  have hD2 := Lib.hid (den_pos y)
  unfold OverA
  generalize x.num.natAbs = N1 at *
  generalize y.num.natAbs = N2 at *
  generalize x.den = D1 at *
  generalize y.den = D2 at *
  generalize decide (x.num < 0) = na at *
  generalize decide (y.num < 0) = nb at *
  have S := SumAt.start w na nb n1 d1 (.slice lo ln lc) (.slice l2 ln2 lc2) N1 D1 N2 D2 a1 a2 a3 a4
  have RR1 := Lib.hid R1
  have RR2 := Lib.hid R2
  clear a1 a2 a3 a4 R1 R2
  go_enter Try.func22, Try.ntmps22
  go_wp2_with fail
  generalize ((w.alloc (.cells #[.bool na, n1, d1] 25)).alloc (.cells #[.bool nb, .slice lo ln lc, .slice l2 ln2 lc2] 25)).alloc (.cells #[.bool false, .slice none 0 0, .slice none 0 0] 25) = W at *
  refine (RR1.out W S.ra).mono ?_
  rintro e W2 ⟨rfl, bq⟩
  have S := S.later bq
  clear bq
  obtain ⟨c0, c1, c2, c3, c4, c5⟩ := S.cells
  go_wp2_with fail
  refine (RR2.out W2 S.rb).mono ?_
  rintro e W3 ⟨rfl, bq⟩
  have S := S.later bq
  clear bq c0 c1 c2 c3 c4 c5
  obtain ⟨c0, c1, c2, c3, c4, c5⟩ := S.cells
  have k0 := S.b.free 0
  have S := S.flip (!nb)
  have HK := Lib.hid (reckon_sub w.heap.size (w.heap.size + 1) (OverS N1 D1 N2 D2) (frac na N1 D1 + frac (!nb) N2 D2) _ (fun V hV => by
    have T := S.later hV
    exact sub_do _ _ na (!nb) n1 d1 (.slice lo ln lc) (.slice l2 ln2 lc2) N1 D1 N2 D2 V T.a T.b T.n1 T.d1 T.n2 T.d2 hD1.out hD2.out))
  go_wp2_with fail
  refine HK.out.mono ?_
  rintro e W4 ⟨hk, bq⟩
  have hr := (S.later bq).r
  have B := (S.later bq).bl
  clear bq HK S
  have f0 := hr.free 0
  have f1 := hr.free 1
  have f2 := hr.free 2
  have g0 := hr.cell 0
  have g1 := hr.cell 1
  have g2 := hr.cell 2
  simp at g0 g1 g2
  rcases hk with ⟨hno, r, rfl, hrat⟩ | ⟨hov, rfl⟩
  · obtain ⟨s_, o1, m1, k1, o2, m2, k2, rfl⟩ := RawN.form hrat
    rw [frac_flip, Hx.out, Hy.out, ← Rat.sub_eq_add_neg] at hrat
    have Hr := Lib.hid hrat
    have Hno := Lib.hid hno
    clear hrat hno
    go_wp2_with fail
    refine bodyPost_ret (v := .tuple #[.agg #[.bool s_, .slice o1 m1 k1, .slice o2 m2 k2], .int .i64 0]) (by simp [results, Try.results22, go_sem, g0, g1, g2]) rfl ⟨.inl ⟨Hno.out, _, rfl, RawN.set3 Hr.out hr⟩, ?_⟩
    exact ((B.setCell (by simp; omega) _).setCell (by simp; omega) _).setCell (by simp; omega) _
  · have Hov := Lib.hid hov
    clear hov
    go_wp2_with fail
    refine bodyPost_ret (v := .tuple #[.agg #[.bool false, .slice none 0 0, .slice none 0 0], .int .i64 2]) (by simp [results, Try.results22, go_sem, g0, g1, g2]) rfl ⟨.inr ⟨Hov.out, rfl⟩, ?_⟩
    exact ((B.setCell (by simp; omega) _).setCell (by simp; omega) _).setCell (by simp; omega) _
/-- Some sign and some two slices. -/
def FormR (v : Value) : Prop := ∃ s n d, v = .agg #[.bool s, n, d]
theorem three_start (w : World) (A B C : Array Value) (t : TypeId) :
    Below w.heap.size w (((w.alloc (.cells A t)).alloc (.cells B t)).alloc (.cells C t)) ∧ BlockAt (((w.alloc (.cells A t)).alloc (.cells B t)).alloc (.cells C t)) w.heap.size A t ∧ BlockAt (((w.alloc (.cells A t)).alloc (.cells B t)).alloc (.cells C t)) (w.heap.size + 1) B t ∧ BlockAt (((w.alloc (.cells A t)).alloc (.cells B t)).alloc (.cells C t)) (w.heap.size + 2) C t := by
  have s1 := BlockAt.new w A t
  have b1 : Below w.heap.size w (w.alloc (.cells A t)) := (Below.refl _ _).alloc (Nat.le_refl _) _
  have e1 : (w.alloc (.cells A t)).heap.size = w.heap.size + 1 := by simp
  generalize w.alloc (.cells A t) = w1 at *
  have s2 := BlockAt.new w1 B t
  have b2 : Below w1.heap.size w1 (w1.alloc (.cells B t)) := (Below.refl _ _).alloc (Nat.le_refl _) _
  have e2 : (w1.alloc (.cells B t)).heap.size = w.heap.size + 2 := by simp [e1]
  rw [e1] at s2
  generalize w1.alloc (.cells B t) = w2 at *
  have s3 := BlockAt.new w2 C t
  have b3 : Below w2.heap.size w2 (w2.alloc (.cells C t)) := (Below.refl _ _).alloc (Nat.le_refl _) _
  rw [e2] at s3
  have c := b2.trans (b3.mono b2.size)
  exact ⟨b1.trans (c.mono b1.size), s1.below c, s2.below b3, s3⟩
theorem BadR.form {w : World} {v : Value} (h : BadR w v) : FormR v := by
  obtain ⟨s, n, d, _, _, h, _⟩ := h
  exact ⟨s, n, d, h⟩
theorem RatN.form {w : World} {v : Value} {x : Rat} (h : RatN w v x) : FormR v := by
  obtain ⟨n, d, h, _⟩ := h
  exact ⟨_, n, d, h⟩

set_option maxHeartbeats 1600000 in
set_option maxRecDepth 100000 in
theorem add_badr (v u : Value) (w : World) (h1 : BadR w v ∨ (∃ x, RatN w v x) ∧ BadR w u) (h2 : FormR u) :
    Calls Try.prog 21 #[v, u] w fun e w' => e = .returned (.tuple #[nilRat, .int .i64 1]) ∧ Below w.heap.size w w' := by
  have hf : FormR v := by
    rcases h1 with h | ⟨⟨x, h⟩, _⟩
    · exact h.form
    · exact h.form
  obtain ⟨s1, n1, d1, rfl⟩ := hf
  obtain ⟨s2, n2, d2, rfl⟩ := h2
  obtain ⟨B, ha, hb, hr⟩ := three_start w #[.bool s1, n1, d1] #[.bool s2, n2, d2] #[.bool false, .slice none 0 0, .slice none 0 0] 25
  unfold nilRat
  rcases h1 with h | ⟨⟨x, h⟩, h'⟩
  · have R1 := Lib.hid (right_not (h.below B))
    clear h
    go_enter Try.func21, Try.ntmps21
    go_wp2_with fail
    generalize ((w.alloc (.cells #[.bool s1, n1, d1] 25)).alloc (.cells #[.bool s2, n2, d2] 25)).alloc (.cells #[.bool false, .slice none 0 0, .slice none 0 0] 25) = W at *
    refine R1.out.mono ?_
    rintro e W2 ⟨rfl, bq⟩
    clear ha hb R1
    have hr := (hr.below bq)
    have B := B.trans (bq.mono B.size)
    clear bq
    have f0 := hr.free 0
    have f1 := hr.free 1
    have f2 := hr.free 2
    have g0 := hr.cell 0
    have g1 := hr.cell 1
    have g2 := hr.cell 2
    simp at g0 g1 g2
    go_wp2_with fail
    refine bodyPost_ret (v := .tuple #[.agg #[.bool false, .slice none 0 0, .slice none 0 0], .int .i64 1]) (by simp [results, Try.results21, go_sem, g0, g1, g2]) rfl ⟨rfl, ?_⟩
    exact ((B.setCell (by simp; omega) _).setCell (by simp; omega) _).setCell (by simp; omega) _
  · have R1 := Lib.hid (right_rat (h.below B))
    have h' := h'.below B
    clear h
    go_enter Try.func21, Try.ntmps21
    go_wp2_with fail
    generalize ((w.alloc (.cells #[.bool s1, n1, d1] 25)).alloc (.cells #[.bool s2, n2, d2] 25)).alloc (.cells #[.bool false, .slice none 0 0, .slice none 0 0] 25) = W at *
    refine R1.out.mono ?_
    rintro e W2 ⟨rfl, bq⟩
    have hb := hb.below bq
    have hr := hr.below bq
    have B := B.trans (bq.mono B.size)
    have R2 := Lib.hid (right_not (h'.below bq))
    obtain ⟨c3, c4, c5⟩ := block3 hb
    clear ha h' bq R1
    go_wp2_with fail
    refine R2.out.mono ?_
    rintro e W3 ⟨rfl, bq⟩
    clear hb c3 c4 c5 R2
    have hr := (hr.below bq)
    have B := B.trans (bq.mono B.size)
    clear bq
    have f0 := hr.free 0
    have f1 := hr.free 1
    have f2 := hr.free 2
    have g0 := hr.cell 0
    have g1 := hr.cell 1
    have g2 := hr.cell 2
    simp at g0 g1 g2
    go_wp2_with fail
    refine bodyPost_ret (v := .tuple #[.agg #[.bool false, .slice none 0 0, .slice none 0 0], .int .i64 1]) (by simp [results, Try.results21, go_sem, g0, g1, g2]) rfl ⟨rfl, ?_⟩
    exact ((B.setCell (by simp; omega) _).setCell (by simp; omega) _).setCell (by simp; omega) _

set_option maxHeartbeats 1600000 in
set_option maxRecDepth 100000 in
theorem sub_badr (v u : Value) (w : World) (h1 : BadR w v ∨ (∃ x, RatN w v x) ∧ BadR w u) (h2 : FormR u) :
    Calls Try.prog 22 #[v, u] w fun e w' => e = .returned (.tuple #[nilRat, .int .i64 1]) ∧ Below w.heap.size w w' := by
  have hf : FormR v := by
    rcases h1 with h | ⟨⟨x, h⟩, _⟩
    · exact h.form
    · exact h.form
  obtain ⟨s1, n1, d1, rfl⟩ := hf
  obtain ⟨s2, n2, d2, rfl⟩ := h2
  obtain ⟨B, ha, hb, hr⟩ := three_start w #[.bool s1, n1, d1] #[.bool s2, n2, d2] #[.bool false, .slice none 0 0, .slice none 0 0] 25
  unfold nilRat
  rcases h1 with h | ⟨⟨x, h⟩, h'⟩
  · have R1 := Lib.hid (right_not (h.below B))
    clear h
    go_enter Try.func22, Try.ntmps22
    go_wp2_with fail
    generalize ((w.alloc (.cells #[.bool s1, n1, d1] 25)).alloc (.cells #[.bool s2, n2, d2] 25)).alloc (.cells #[.bool false, .slice none 0 0, .slice none 0 0] 25) = W at *
    refine R1.out.mono ?_
    rintro e W2 ⟨rfl, bq⟩
    clear ha hb R1
    have hr := (hr.below bq)
    have B := B.trans (bq.mono B.size)
    clear bq
    have f0 := hr.free 0
    have f1 := hr.free 1
    have f2 := hr.free 2
    have g0 := hr.cell 0
    have g1 := hr.cell 1
    have g2 := hr.cell 2
    simp at g0 g1 g2
    go_wp2_with fail
    refine bodyPost_ret (v := .tuple #[.agg #[.bool false, .slice none 0 0, .slice none 0 0], .int .i64 1]) (by simp [results, Try.results22, go_sem, g0, g1, g2]) rfl ⟨rfl, ?_⟩
    exact ((B.setCell (by simp; omega) _).setCell (by simp; omega) _).setCell (by simp; omega) _
  · have R1 := Lib.hid (right_rat (h.below B))
    have h' := h'.below B
    clear h
    go_enter Try.func22, Try.ntmps22
    go_wp2_with fail
    generalize ((w.alloc (.cells #[.bool s1, n1, d1] 25)).alloc (.cells #[.bool s2, n2, d2] 25)).alloc (.cells #[.bool false, .slice none 0 0, .slice none 0 0] 25) = W at *
    refine R1.out.mono ?_
    rintro e W2 ⟨rfl, bq⟩
    have hb := hb.below bq
    have hr := hr.below bq
    have B := B.trans (bq.mono B.size)
    have R2 := Lib.hid (right_not (h'.below bq))
    obtain ⟨c3, c4, c5⟩ := block3 hb
    clear ha h' bq R1
    go_wp2_with fail
    refine R2.out.mono ?_
    rintro e W3 ⟨rfl, bq⟩
    clear hb c3 c4 c5 R2
    have hr := (hr.below bq)
    have B := B.trans (bq.mono B.size)
    clear bq
    have f0 := hr.free 0
    have f1 := hr.free 1
    have f2 := hr.free 2
    have g0 := hr.cell 0
    have g1 := hr.cell 1
    have g2 := hr.cell 2
    simp at g0 g1 g2
    go_wp2_with fail
    refine bodyPost_ret (v := .tuple #[.agg #[.bool false, .slice none 0 0, .slice none 0 0], .int .i64 1]) (by simp [results, Try.results22, go_sem, g0, g1, g2]) rfl ⟨rfl, ?_⟩
    exact ((B.setCell (by simp; omega) _).setCell (by simp; omega) _).setCell (by simp; omega) _

set_option maxHeartbeats 1600000 in
set_option maxRecDepth 100000 in
theorem mul_badr (v u : Value) (w : World) (h1 : BadR w v ∨ (∃ x, RatN w v x) ∧ BadR w u) (h2 : FormR u) :
    Calls Try.prog 23 #[v, u] w fun e w' => e = .returned (.tuple #[nilRat, .int .i64 1]) ∧ Below w.heap.size w w' := by
  have hf : FormR v := by
    rcases h1 with h | ⟨⟨x, h⟩, _⟩
    · exact h.form
    · exact h.form
  obtain ⟨s1, n1, d1, rfl⟩ := hf
  obtain ⟨s2, n2, d2, rfl⟩ := h2
  obtain ⟨B, ha, hb, hr⟩ := three_start w #[.bool s1, n1, d1] #[.bool s2, n2, d2] #[.bool false, .slice none 0 0, .slice none 0 0] 25
  unfold nilRat
  rcases h1 with h | ⟨⟨x, h⟩, h'⟩
  · have R1 := Lib.hid (right_not (h.below B))
    clear h
    go_enter Try.func23, Try.ntmps23
    go_wp2_with fail
    generalize ((w.alloc (.cells #[.bool s1, n1, d1] 25)).alloc (.cells #[.bool s2, n2, d2] 25)).alloc (.cells #[.bool false, .slice none 0 0, .slice none 0 0] 25) = W at *
    refine R1.out.mono ?_
    rintro e W2 ⟨rfl, bq⟩
    clear ha hb R1
    have hr := (hr.below bq)
    have B := B.trans (bq.mono B.size)
    clear bq
    have f0 := hr.free 0
    have f1 := hr.free 1
    have f2 := hr.free 2
    have g0 := hr.cell 0
    have g1 := hr.cell 1
    have g2 := hr.cell 2
    simp at g0 g1 g2
    go_wp2_with fail
    refine bodyPost_ret (v := .tuple #[.agg #[.bool false, .slice none 0 0, .slice none 0 0], .int .i64 1]) (by simp [results, Try.results23, go_sem, g0, g1, g2]) rfl ⟨rfl, ?_⟩
    exact ((B.setCell (by simp; omega) _).setCell (by simp; omega) _).setCell (by simp; omega) _
  · have R1 := Lib.hid (right_rat (h.below B))
    have h' := h'.below B
    clear h
    go_enter Try.func23, Try.ntmps23
    go_wp2_with fail
    generalize ((w.alloc (.cells #[.bool s1, n1, d1] 25)).alloc (.cells #[.bool s2, n2, d2] 25)).alloc (.cells #[.bool false, .slice none 0 0, .slice none 0 0] 25) = W at *
    refine R1.out.mono ?_
    rintro e W2 ⟨rfl, bq⟩
    have hb := hb.below bq
    have hr := hr.below bq
    have B := B.trans (bq.mono B.size)
    have R2 := Lib.hid (right_not (h'.below bq))
    obtain ⟨c3, c4, c5⟩ := block3 hb
    clear ha h' bq R1
    go_wp2_with fail
    refine R2.out.mono ?_
    rintro e W3 ⟨rfl, bq⟩
    clear hb c3 c4 c5 R2
    have hr := (hr.below bq)
    have B := B.trans (bq.mono B.size)
    clear bq
    have f0 := hr.free 0
    have f1 := hr.free 1
    have f2 := hr.free 2
    have g0 := hr.cell 0
    have g1 := hr.cell 1
    have g2 := hr.cell 2
    simp at g0 g1 g2
    go_wp2_with fail
    refine bodyPost_ret (v := .tuple #[.agg #[.bool false, .slice none 0 0, .slice none 0 0], .int .i64 1]) (by simp [results, Try.results23, go_sem, g0, g1, g2]) rfl ⟨rfl, ?_⟩
    exact ((B.setCell (by simp; omega) _).setCell (by simp; omega) _).setCell (by simp; omega) _

set_option maxHeartbeats 1600000 in
set_option maxRecDepth 100000 in
theorem quo_badr (v u : Value) (w : World) (h1 : BadR w v ∨ (∃ x, RatN w v x) ∧ BadR w u) (h2 : FormR u) :
    Calls Try.prog 24 #[v, u] w fun e w' => e = .returned (.tuple #[nilRat, .int .i64 1]) ∧ Below w.heap.size w w' := by
  have hf : FormR v := by
    rcases h1 with h | ⟨⟨x, h⟩, _⟩
    · exact h.form
    · exact h.form
  obtain ⟨s1, n1, d1, rfl⟩ := hf
  obtain ⟨s2, n2, d2, rfl⟩ := h2
  obtain ⟨B, ha, hb, hr⟩ := three_start w #[.bool s1, n1, d1] #[.bool s2, n2, d2] #[.bool false, .slice none 0 0, .slice none 0 0] 25
  unfold nilRat
  rcases h1 with h | ⟨⟨x, h⟩, h'⟩
  · have R1 := Lib.hid (right_not (h.below B))
    clear h
    go_enter Try.func24, Try.ntmps24
    go_wp2_with fail
    generalize ((w.alloc (.cells #[.bool s1, n1, d1] 25)).alloc (.cells #[.bool s2, n2, d2] 25)).alloc (.cells #[.bool false, .slice none 0 0, .slice none 0 0] 25) = W at *
    refine R1.out.mono ?_
    rintro e W2 ⟨rfl, bq⟩
    clear ha hb R1
    have hr := (hr.below bq)
    have B := B.trans (bq.mono B.size)
    clear bq
    have f0 := hr.free 0
    have f1 := hr.free 1
    have f2 := hr.free 2
    have g0 := hr.cell 0
    have g1 := hr.cell 1
    have g2 := hr.cell 2
    simp at g0 g1 g2
    go_wp2_with fail
    refine bodyPost_ret (v := .tuple #[.agg #[.bool false, .slice none 0 0, .slice none 0 0], .int .i64 1]) (by simp [results, Try.results24, go_sem, g0, g1, g2]) rfl ⟨rfl, ?_⟩
    exact ((B.setCell (by simp; omega) _).setCell (by simp; omega) _).setCell (by simp; omega) _
  · have R1 := Lib.hid (right_rat (h.below B))
    have h' := h'.below B
    clear h
    go_enter Try.func24, Try.ntmps24
    go_wp2_with fail
    generalize ((w.alloc (.cells #[.bool s1, n1, d1] 25)).alloc (.cells #[.bool s2, n2, d2] 25)).alloc (.cells #[.bool false, .slice none 0 0, .slice none 0 0] 25) = W at *
    refine R1.out.mono ?_
    rintro e W2 ⟨rfl, bq⟩
    have hb := hb.below bq
    have hr := hr.below bq
    have B := B.trans (bq.mono B.size)
    have R2 := Lib.hid (right_not (h'.below bq))
    obtain ⟨c3, c4, c5⟩ := block3 hb
    clear ha h' bq R1
    go_wp2_with fail
    refine R2.out.mono ?_
    rintro e W3 ⟨rfl, bq⟩
    clear hb c3 c4 c5 R2
    have hr := (hr.below bq)
    have B := B.trans (bq.mono B.size)
    clear bq
    have f0 := hr.free 0
    have f1 := hr.free 1
    have f2 := hr.free 2
    have g0 := hr.cell 0
    have g1 := hr.cell 1
    have g2 := hr.cell 2
    simp at g0 g1 g2
    go_wp2_with fail
    refine bodyPost_ret (v := .tuple #[.agg #[.bool false, .slice none 0 0, .slice none 0 0], .int .i64 1]) (by simp [results, Try.results24, go_sem, g0, g1, g2]) rfl ⟨rfl, ?_⟩
    exact ((B.setCell (by simp; omega) _).setCell (by simp; omega) _).setCell (by simp; omega) _
end Go.Proofs.Ythmhljfaenekfaa
