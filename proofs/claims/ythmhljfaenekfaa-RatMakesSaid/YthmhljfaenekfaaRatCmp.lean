/- Quo by 0; Cmp. -/
import Derived.Test.YthmhljfaenekfaaRatAdd
namespace Go.Proofs.Ythmhljfaenekfaa
open Go.RowKit NM

def ratSgn (x y : Rat) : Int := if x < y then -1 else if y < x then 1 else 0
def OverC (x y : Rat) : Prop := pw 16 ≤ ((x.num.natAbs * y.den : Nat) : Int) ∨ pw 16 ≤ ((y.num.natAbs * x.den : Nat) : Int)
def CmpPost (over : Prop) (n : Int) (e : Ending) : Prop := (¬ over ∧ e = .returned (.tuple #[.int .i64 n, .int .i64 0])) ∨ (over ∧ e = .returned (.tuple #[.int .i64 0, .int .i64 2]))
theorem ratSgn_num (x y : Rat) : ratSgn x y = sgn (x.num * y.den) (y.num * x.den) := by
  unfold ratSgn sgn
  simp only [Rat.lt_iff]
theorem num_sg (x : Rat) : x.num = sg (decide (x.num < 0)) x.num.natAbs := by
  unfold sg
  by_cases h : x.num < 0
  · rw [decide_eq_true h, if_pos rfl]; omega
  · rw [decide_eq_false h, if_neg (by simp)]; omega
/-- A sign and two products decide. -/
def signCmp (na nb : Bool) (A B : Nat) : Int := if na then (if nb then sgn (B : Int) (A : Int) else -1) else (if nb then 1 else sgn (A : Int) (B : Int))
theorem sgn_signs (na nb : Bool) (A B : Nat) (ha : na = true → 0 < A) (hb : nb = true → 0 < B) :
    sgn (sg na A) (sg nb B) = signCmp na nb A B := by
  cases na <;> cases nb <;> simp [sg, sgn, signCmp] at ha hb ⊢
  · omega
  · omega
theorem sg_mul (neg : Bool) (N D : Nat) : sg neg N * (D : Int) = sg neg (N * D) := by
  cases neg
  · simp [sg]
  · simp [sg, Int.neg_mul]

set_option maxHeartbeats 1600000 in
set_option maxRecDepth 100000 in
theorem quo_zero (v u : Value) (x : Rat) (w : World) (h1 : RatN w v x) (h2 : RatN w u 0) :
    Calls Try.prog 24 #[v, u] w fun e w' => e = .returned (.tuple #[nilRat, .int .i64 4]) ∧ Below w.heap.size w w' := by
  have q1 := h1
  have q2 := h2
  obtain ⟨n1, d1, rfl, -, -⟩ := h1
  obtain ⟨n2, d2, rfl, a3, -⟩ := h2
  obtain ⟨lo, lc, rfl⟩ := Num.of_zero (show Num w n2 0 from a3)
  obtain ⟨B, ha, hb, hr⟩ := three_start w #[.bool (decide (x.num < 0)), n1, d1] #[.bool (decide ((0 : Rat).num < 0)), .slice lo 0 lc, d2] #[.bool false, .slice none 0 0, .slice none 0 0] 25
  have R1 := Lib.hid (right_rat (q1.below B))
  have q2 := q2.below B
  unfold nilRat
  generalize decide (x.num < 0) = na at *
  generalize decide ((0 : Rat).num < 0) = nb at *
  clear q1 a3
  go_enter Try.func24, Try.ntmps24
  go_wp2_with fail
  generalize ((w.alloc (.cells #[.bool na, n1, d1] 25)).alloc (.cells #[.bool nb, .slice lo 0 lc, d2] 25)).alloc (.cells #[.bool false, .slice none 0 0, .slice none 0 0] 25) = W at *
  refine R1.out.mono ?_
  rintro e W2 ⟨rfl, bq⟩
  have hb := hb.below bq
  have hr := hr.below bq
  have B := B.trans (bq.mono B.size)
  have R2 := Lib.hid (right_rat (q2.below bq))
  obtain ⟨c3, c4, c5⟩ := block3 hb
  clear ha q2 bq R1
  go_wp2_with fail
  refine R2.out.mono ?_
  rintro e W3 ⟨rfl, bq⟩
  have hb := hb.below bq
  have hr := (hr.below bq)
  have B := B.trans (bq.mono B.size)
  clear bq c3 c4 c5 R2
  obtain ⟨c3, c4, c5⟩ := block3 hb
  have f0 := hr.free 0
  have f1 := hr.free 1
  have f2 := hr.free 2
  have g0 := hr.cell 0
  have g1 := hr.cell 1
  have g2 := hr.cell 2
  simp at g0 g1 g2
  go_wp2_with fail
  refine bodyPost_ret (v := .tuple #[.agg #[.bool false, .slice none 0 0, .slice none 0 0], .int .i64 4]) (by simp [results, Try.results24, go_sem, g0, g1, g2]) rfl ⟨rfl, ?_⟩
  exact ((B.setCell (by simp; omega) _).setCell (by simp; omega) _).setCell (by simp; omega) _

theorem two_start (w : World) (A B : Array Value) (t : TypeId) :
    Below w.heap.size w ((w.alloc (.cells A t)).alloc (.cells B t)) ∧ BlockAt ((w.alloc (.cells A t)).alloc (.cells B t)) w.heap.size A t ∧ BlockAt ((w.alloc (.cells A t)).alloc (.cells B t)) (w.heap.size + 1) B t := by
  have s1 := BlockAt.new w A t
  have b1 : Below w.heap.size w (w.alloc (.cells A t)) := (Below.refl _ _).alloc (Nat.le_refl _) _
  have e1 : (w.alloc (.cells A t)).heap.size = w.heap.size + 1 := by simp
  generalize w.alloc (.cells A t) = w1 at *
  have s2 := BlockAt.new w1 B t
  have b2 : Below w1.heap.size w1 (w1.alloc (.cells B t)) := (Below.refl _ _).alloc (Nat.le_refl _) _
  rw [e1] at s2
  exact ⟨b1.trans (b2.mono b1.size), s1.below b2, s2⟩

set_option maxHeartbeats 3200000 in
set_option maxRecDepth 100000 in
theorem cmp_rat (v u : Value) (x y : Rat) (w : World) (h1 : RatN w v x) (h2 : RatN w u y) :
    Calls Try.prog 29 #[v, u] w fun e w' => CmpPost (OverC x y) (ratSgn x y) e ∧ Below w.heap.size w w' := by
  have R1 := fun (W : World) (B : Below w.heap.size w W) => right_rat (h1.below B)
  have R2 := fun (W : World) (B : Below w.heap.size w W) => right_rat (h2.below B)
  obtain ⟨n1, d1, rfl, a1, a2⟩ := h1
  obtain ⟨n2, d2, rfl, a3, a4⟩ := h2
  have hs := sgn_signs (decide (x.num < 0)) (decide (y.num < 0)) (x.num.natAbs * y.den) (y.num.natAbs * x.den)
    (fun h => Nat.mul_pos (by have := of_decide_eq_true h; omega) (den_pos y)) (fun h => Nat.mul_pos (by have := of_decide_eq_true h; omega) (den_pos x))
  rw [← sg_mul, ← sg_mul, ← num_sg, ← num_sg, ← ratSgn_num] at hs
  rw [hs]
  unfold OverC
  generalize x.num.natAbs = N1 at *
  generalize y.num.natAbs = N2 at *
  generalize x.den = D1 at *
  generalize y.den = D2 at *
  generalize decide (x.num < 0) = na at *
  generalize decide (y.num < 0) = nb at *
  clear hs
  obtain ⟨B, ha, hb⟩ := two_start w #[.bool na, n1, d1] #[.bool nb, n2, d2] 25
  have R1 := Lib.hid R1
  have R2 := Lib.hid R2
  have a1 := a1.below B
  have a2 := a2.below B
  have a3 := a3.below B
  have a4 := a4.below B
  go_enter Try.func29, Try.ntmps29
  go_wp2_with fail
  generalize (w.alloc (.cells #[.bool na, n1, d1] 25)).alloc (.cells #[.bool nb, n2, d2] 25) = W at *
  refine (R1.out W B).mono ?_
  rintro e W2 ⟨rfl, bq⟩
  have ha := ha.below bq
  have hb := hb.below bq
  have a1 := a1.below bq
  have a2 := a2.below bq
  have a3 := a3.below bq
  have a4 := a4.below bq
  have B := B.trans (bq.mono B.size)
  obtain ⟨c0, c1, c2⟩ := block3 ha
  obtain ⟨c3, c4, c5⟩ := block3 hb
  clear bq
  go_wp2_with fail
  refine (R2.out W2 B).mono ?_
  rintro e W3 ⟨rfl, bq⟩
  have ha := ha.below bq
  have hb := hb.below bq
  have a1 := a1.below bq
  have a2 := a2.below bq
  have a3 := a3.below bq
  have a4 := a4.below bq
  have B := B.trans (bq.mono B.size)
  clear bq c0 c1 c2 c3 c4 c5 R1 R2
  obtain ⟨c0, c1, c2⟩ := block3 ha
  obtain ⟨c3, c4, c5⟩ := block3 hb
  have HM := Lib.hid (mul_num n1 d2 N1 D2 W3 a1 a4)
  go_wp2_with fail
  refine HM.out.mono ?_
  rintro e W4 ⟨hto, bq⟩
  have ha := ha.below bq
  have hb := hb.below bq
  have a2 := a2.below bq
  have a3 := a3.below bq
  have B := B.trans (bq.mono B.size)
  clear bq c0 c1 c2 c3 c4 c5 HM a1 a4
  obtain ⟨c0, c1, c2⟩ := block3 ha
  obtain ⟨c3, c4, c5⟩ := block3 hb
  rcases hto with ⟨hlt1, p, rfl, hp⟩ | ⟨hge, rfl⟩
  rotate_left
  · have hov := Lib.hid (show pw 16 ≤ ((N1 * D2 : Nat) : Int) ∨ pw 16 ≤ ((N2 * D1 : Nat) : Int) from .inl hge)
    clear hge
    go_wp2_with fail
    go_ret2
    exact ⟨.inr ⟨hov.out, rfl⟩, B⟩
  have hp : Num W4 p ((N1 * D2 : Nat) : Int) := hp
  have Hlt1 := Lib.hid (show ((N1 * D2 : Nat) : Int) < pw 16 from hlt1)
  have HM := Lib.hid (mul_num n2 d1 N2 D1 W4 a3 a2)
  clear hlt1
  go_wp2_with fail
  refine HM.out.mono ?_
  rintro e W5 ⟨hto, bq⟩
  have ha := ha.below bq
  have hb := hb.below bq
  have hp := hp.below bq
  have B := B.trans (bq.mono B.size)
  clear bq c0 c1 c2 c3 c4 c5 HM a2 a3
  obtain ⟨c0, c1, c2⟩ := block3 ha
  obtain ⟨c3, c4, c5⟩ := block3 hb
  rcases hto with ⟨hlt2, q, rfl, hq⟩ | ⟨hge, rfl⟩
  rotate_left
  · have hov := Lib.hid (show pw 16 ≤ ((N1 * D2 : Nat) : Int) ∨ pw 16 ≤ ((N2 * D1 : Nat) : Int) from .inr hge)
    clear hge
    go_wp2_with fail
    go_ret2
    exact ⟨.inr ⟨hov.out, rfl⟩, B⟩
  have hq : Num W5 q ((N2 * D1 : Nat) : Int) := hq
  have Hno := Lib.hid (show ¬ (pw 16 ≤ ((N1 * D2 : Nat) : Int) ∨ pw 16 ≤ ((N2 * D1 : Nat) : Int)) from fun h => by
    have := Hlt1.out
    have h2 : ((N2 * D1 : Nat) : Int) < pw 16 := hlt2
    rcases h with h | h <;> omega)
  have HC := Lib.hid (cmp_num hp hq)
  have HD := Lib.hid (cmp_num hq hp)
  clear hlt2 hp hq
  cases na <;> cases nb
  · go_wp2_with fail
    refine HC.out.mono ?_
    rintro e W6 ⟨rfl, bq⟩
    have B := B.trans (bq.mono B.size)
    go_wp2_with fail
    go_ret2
    exact ⟨.inl ⟨Hno.out, rfl⟩, B⟩
  · go_wp2_with fail
    go_ret2
    exact ⟨.inl ⟨Hno.out, rfl⟩, B⟩
  · go_wp2_with fail
    go_ret2
    exact ⟨.inl ⟨Hno.out, rfl⟩, B⟩
  · go_wp2_with fail
    refine HD.out.mono ?_
    rintro e W6 ⟨rfl, bq⟩
    have B := B.trans (bq.mono B.size)
    go_wp2_with fail
    go_ret2
    exact ⟨.inl ⟨Hno.out, rfl⟩, B⟩

set_option maxHeartbeats 1600000 in
set_option maxRecDepth 100000 in
theorem cmp_badr (v u : Value) (w : World) (h1 : BadR w v ∨ (∃ x, RatN w v x) ∧ BadR w u) (h2 : FormR u) :
    Calls Try.prog 29 #[v, u] w fun e w' => e = .returned (.tuple #[.int .i64 0, .int .i64 1]) ∧ Below w.heap.size w w' := by
  have hf : FormR v := by
    rcases h1 with h | ⟨⟨x, h⟩, _⟩
    · exact h.form
    · exact h.form
  obtain ⟨s1, n1, d1, rfl⟩ := hf
  obtain ⟨s2, n2, d2, rfl⟩ := h2
  obtain ⟨B, ha, hb⟩ := two_start w #[.bool s1, n1, d1] #[.bool s2, n2, d2] 25
  rcases h1 with h | ⟨⟨x, h⟩, h'⟩
  · have R1 := Lib.hid (right_not (h.below B))
    clear h
    go_enter Try.func29, Try.ntmps29
    go_wp2_with fail
    generalize (w.alloc (.cells #[.bool s1, n1, d1] 25)).alloc (.cells #[.bool s2, n2, d2] 25) = W at *
    refine R1.out.mono ?_
    rintro e W2 ⟨rfl, bq⟩
    have B := B.trans (bq.mono B.size)
    clear ha hb R1 bq
    go_wp2_with fail
    go_ret2
    exact ⟨rfl, B⟩
  · have R1 := Lib.hid (right_rat (h.below B))
    have h' := h'.below B
    clear h
    go_enter Try.func29, Try.ntmps29
    go_wp2_with fail
    generalize (w.alloc (.cells #[.bool s1, n1, d1] 25)).alloc (.cells #[.bool s2, n2, d2] 25) = W at *
    refine R1.out.mono ?_
    rintro e W2 ⟨rfl, bq⟩
    have hb := hb.below bq
    have B := B.trans (bq.mono B.size)
    have R2 := Lib.hid (right_not (h'.below bq))
    obtain ⟨c3, c4, c5⟩ := block3 hb
    clear ha h' bq R1
    go_wp2_with fail
    refine R2.out.mono ?_
    rintro e W3 ⟨rfl, bq⟩
    have B := B.trans (bq.mono B.size)
    clear hb c3 c4 c5 R2 bq
    go_wp2_with fail
    go_ret2
    exact ⟨rfl, B⟩
end Go.Proofs.Ythmhljfaenekfaa
