/- The closures of Add, Sub, Mul, Quo. -/
import Derived.Test.YthmhljfaenekfaaRatProd
namespace Go.Proofs.Ythmhljfaenekfaa
open Go.RowKit NM

/-- A number, or the fault that something was too great. -/
def DoPost (over : Prop) (x : Rat) (e : Ending) (w' : World) : Prop :=
  (¬ over ∧ ∃ r, e = .returned r ∧ RatN w' r x) ∨ (over ∧ e = .panicked [{ v := faultOver, recovered := false }])

theorem block3 {w : World} {b : Nat} {x y z : Value} {t : TypeId} (h : BlockAt w b #[x, y, z] t) : w.cell? ⟨b, 0, none⟩ = some x ∧ w.cell? ⟨b, 1, none⟩ = some y ∧ w.cell? ⟨b, 2, none⟩ = some z :=
  ⟨h.cell 0, h.cell 1, h.cell 2⟩

set_option maxHeartbeats 1600000 in
set_option maxRecDepth 100000 in
theorem add_do (pa pb : Nat) (na nb : Bool) (n1 d1 n2 d2 : Value) (N1 D1 N2 D2 : Nat) (w : World) (ha : BlockAt w pa #[.bool na, n1, d1] 25) (hb : BlockAt w pb #[.bool nb, n2, d2] 25)
    (h1 : Num w n1 N1) (h2 : Num w d1 D1) (h3 : Num w n2 N2) (h4 : Num w d2 D2) (hD1 : 0 < D1) (hD2 : 0 < D2) :
    Calls Try.prog 46 #[.pointer (some ⟨pa, 0, none⟩), .pointer (some ⟨pb, 0, none⟩)] w fun e w' => DoPost (OverS N1 D1 N2 D2) (frac na N1 D1 + frac nb N2 D2) e w' ∧ Below w.heap.size w w' := by
  have b0 : Below w.heap.size w (w.alloc (.cells #[.bool false, .slice none 0 0, .slice none 0 0] 25)) := (Below.refl _ _).alloc (Nat.le_refl _) _
  have hr := BlockAt.new w #[.bool false, .slice none 0 0, .slice none 0 0] 25
  obtain ⟨a0, a1, a2⟩ := block3 ha
  obtain ⟨e0, e1, e2⟩ := block3 hb
  have la := ha.lt
  have lb := hb.lt
  have HS := Lib.hid (sum_raw na nb n1 d1 n2 d2 N1 D1 N2 D2 _ (h1.below b0) (h2.below b0) (h3.below b0) (h4.below b0) hD1 hD2)
  clear h1 h2 h3 h4 hD1 hD2 ha hb
  go_enter Try.func46, Try.ntmps46
  go_wp2_with fail
  refine HS.out.mono ?_
  rintro e W ⟨hd, bq⟩
  have hr := hr.below bq
  have B := b0.trans (bq.mono b0.size)
  clear bq HS a0 a1 a2 e0 e1 e2
  rcases hd with ⟨hno, r, rfl, hrat⟩ | ⟨hov, rfl⟩
  · obtain ⟨s_, o1, m1, k1, o2, m2, k2, rfl⟩ := RawN.form hrat
    have f0 := hr.free 0
    have f1 := hr.free 1
    have f2 := hr.free 2
    have g0 := hr.cell 0
    have g1 := hr.cell 1
    have g2 := hr.cell 2
    simp at g0 g1 g2
    have Hr := Lib.hid hrat
    have Hno := Lib.hid hno
    clear hrat hno
    go_wp2_with fail
    refine bodyPost_ret (v := .agg #[.bool s_, .slice o1 m1 k1, .slice o2 m2 k2]) (by simp [results, Try.results46, go_sem, g0, g1, g2]) rfl ⟨.inl ⟨Hno.out, _, rfl, RawN.set3 Hr.out hr⟩, ?_⟩
    exact ((B.setCell (by simp) _).setCell (by simp) _).setCell (by simp) _
  · have Hov := Lib.hid hov
    clear hov
    go_wp2_with fail
    exact ⟨rfl, .inr ⟨Hov.out, rfl⟩, B⟩
set_option maxHeartbeats 1600000 in
set_option maxRecDepth 100000 in
theorem sub_do (pa pb : Nat) (na nb : Bool) (n1 d1 n2 d2 : Value) (N1 D1 N2 D2 : Nat) (w : World) (ha : BlockAt w pa #[.bool na, n1, d1] 25) (hb : BlockAt w pb #[.bool nb, n2, d2] 25)
    (h1 : Num w n1 N1) (h2 : Num w d1 D1) (h3 : Num w n2 N2) (h4 : Num w d2 D2) (hD1 : 0 < D1) (hD2 : 0 < D2) :
    Calls Try.prog 48 #[.pointer (some ⟨pa, 0, none⟩), .pointer (some ⟨pb, 0, none⟩)] w fun e w' => DoPost (OverS N1 D1 N2 D2) (frac na N1 D1 + frac nb N2 D2) e w' ∧ Below w.heap.size w w' := by
  have b0 : Below w.heap.size w (w.alloc (.cells #[.bool false, .slice none 0 0, .slice none 0 0] 25)) := (Below.refl _ _).alloc (Nat.le_refl _) _
  have hr := BlockAt.new w #[.bool false, .slice none 0 0, .slice none 0 0] 25
  obtain ⟨a0, a1, a2⟩ := block3 ha
  obtain ⟨e0, e1, e2⟩ := block3 hb
  have la := ha.lt
  have lb := hb.lt
  have HS := Lib.hid (sum_raw na nb n1 d1 n2 d2 N1 D1 N2 D2 _ (h1.below b0) (h2.below b0) (h3.below b0) (h4.below b0) hD1 hD2)
  clear h1 h2 h3 h4 hD1 hD2 ha hb
  go_enter Try.func48, Try.ntmps48
  go_wp2_with fail
  refine HS.out.mono ?_
  rintro e W ⟨hd, bq⟩
  have hr := hr.below bq
  have B := b0.trans (bq.mono b0.size)
  clear bq HS a0 a1 a2 e0 e1 e2
  rcases hd with ⟨hno, r, rfl, hrat⟩ | ⟨hov, rfl⟩
  · obtain ⟨s_, o1, m1, k1, o2, m2, k2, rfl⟩ := RawN.form hrat
    have f0 := hr.free 0
    have f1 := hr.free 1
    have f2 := hr.free 2
    have g0 := hr.cell 0
    have g1 := hr.cell 1
    have g2 := hr.cell 2
    simp at g0 g1 g2
    have Hr := Lib.hid hrat
    have Hno := Lib.hid hno
    clear hrat hno
    go_wp2_with fail
    refine bodyPost_ret (v := .agg #[.bool s_, .slice o1 m1 k1, .slice o2 m2 k2]) (by simp [results, Try.results48, go_sem, g0, g1, g2]) rfl ⟨.inl ⟨Hno.out, _, rfl, RawN.set3 Hr.out hr⟩, ?_⟩
    exact ((B.setCell (by simp) _).setCell (by simp) _).setCell (by simp) _
  · have Hov := Lib.hid hov
    clear hov
    go_wp2_with fail
    exact ⟨rfl, .inr ⟨Hov.out, rfl⟩, B⟩
set_option maxHeartbeats 1600000 in
set_option maxRecDepth 100000 in
theorem mul_do (pa pb : Nat) (na nb : Bool) (n1 d1 n2 d2 : Value) (N1 D1 N2 D2 : Nat) (w : World) (ha : BlockAt w pa #[.bool na, n1, d1] 25) (hb : BlockAt w pb #[.bool nb, n2, d2] 25)
    (h1 : Num w n1 N1) (h2 : Num w d1 D1) (h3 : Num w n2 N2) (h4 : Num w d2 D2) (hD1 : 0 < D1) (hD2 : 0 < D2) :
    Calls Try.prog 49 #[.pointer (some ⟨pa, 0, none⟩), .pointer (some ⟨pb, 0, none⟩)] w fun e w' => DoPost (OverP N1 D1 N2 D2) (frac (na != nb) (N1 * N2) (D1 * D2)) e w' ∧ Below w.heap.size w w' := by
  have b0 : Below w.heap.size w (w.alloc (.cells #[.bool false, .slice none 0 0, .slice none 0 0] 25)) := (Below.refl _ _).alloc (Nat.le_refl _) _
  have hr := BlockAt.new w #[.bool false, .slice none 0 0, .slice none 0 0] 25
  obtain ⟨a0, a1, a2⟩ := block3 ha
  obtain ⟨e0, e1, e2⟩ := block3 hb
  have la := ha.lt
  have lb := hb.lt
  have HS := Lib.hid (prod_raw (na != nb) na n1 d1 n2 d2 N1 D1 N2 D2 _ (h1.below b0) (h2.below b0) (h3.below b0) (h4.below b0) hD1 hD2)
  clear h1 h2 h3 h4 hD1 hD2 ha hb
  go_enter Try.func49, Try.ntmps49
  go_wp2_with fail
  refine HS.out.mono ?_
  rintro e W ⟨hd, bq⟩
  have hr := hr.below bq
  have B := b0.trans (bq.mono b0.size)
  clear bq HS a0 a1 a2 e0 e1 e2
  rcases hd with ⟨hno, r, rfl, hrat⟩ | ⟨hov, rfl⟩
  · obtain ⟨s_, o1, m1, k1, o2, m2, k2, rfl⟩ := RawN.form hrat
    have f0 := hr.free 0
    have f1 := hr.free 1
    have f2 := hr.free 2
    have g0 := hr.cell 0
    have g1 := hr.cell 1
    have g2 := hr.cell 2
    simp at g0 g1 g2
    have Hr := Lib.hid hrat
    have Hno := Lib.hid hno
    clear hrat hno
    go_wp2_with fail
    refine bodyPost_ret (v := .agg #[.bool s_, .slice o1 m1 k1, .slice o2 m2 k2]) (by simp [results, Try.results49, go_sem, g0, g1, g2]) rfl ⟨.inl ⟨Hno.out, _, rfl, RawN.set3 Hr.out hr⟩, ?_⟩
    exact ((B.setCell (by simp) _).setCell (by simp) _).setCell (by simp) _
  · have Hov := Lib.hid hov
    clear hov
    go_wp2_with fail
    exact ⟨rfl, .inr ⟨Hov.out, rfl⟩, B⟩
set_option maxHeartbeats 1600000 in
set_option maxRecDepth 100000 in
theorem quo_do (pa pb : Nat) (na nb : Bool) (n1 d1 n2 d2 : Value) (N1 D1 N2 D2 : Nat) (w : World) (ha : BlockAt w pa #[.bool na, n1, d1] 25) (hb : BlockAt w pb #[.bool nb, n2, d2] 25)
    (h1 : Num w n1 N1) (h2 : Num w d1 D1) (h3 : Num w n2 N2) (h4 : Num w d2 D2) (hD1 : 0 < D1) (hN2 : 0 < N2) :
    Calls Try.prog 51 #[.pointer (some ⟨pa, 0, none⟩), .pointer (some ⟨pb, 0, none⟩)] w fun e w' => DoPost (OverP N1 D1 D2 N2) (frac (na != nb) (N1 * D2) (D1 * N2)) e w' ∧ Below w.heap.size w w' := by
  have b0 : Below w.heap.size w (w.alloc (.cells #[.bool false, .slice none 0 0, .slice none 0 0] 25)) := (Below.refl _ _).alloc (Nat.le_refl _) _
  have hr := BlockAt.new w #[.bool false, .slice none 0 0, .slice none 0 0] 25
  obtain ⟨a0, a1, a2⟩ := block3 ha
  obtain ⟨e0, e1, e2⟩ := block3 hb
  have la := ha.lt
  have lb := hb.lt
  have HS := Lib.hid (prod_raw (na != nb) na n1 d1 d2 n2 N1 D1 D2 N2 _ (h1.below b0) (h2.below b0) (h4.below b0) (h3.below b0) hD1 hN2)
  clear h1 h2 h3 h4 hD1 hN2 ha hb
  go_enter Try.func51, Try.ntmps51
  go_wp2_with fail
  refine HS.out.mono ?_
  rintro e W ⟨hd, bq⟩
  have hr := hr.below bq
  have B := b0.trans (bq.mono b0.size)
  clear bq HS a0 a1 a2 e0 e1 e2
  rcases hd with ⟨hno, r, rfl, hrat⟩ | ⟨hov, rfl⟩
  · obtain ⟨s_, o1, m1, k1, o2, m2, k2, rfl⟩ := RawN.form hrat
    have f0 := hr.free 0
    have f1 := hr.free 1
    have f2 := hr.free 2
    have g0 := hr.cell 0
    have g1 := hr.cell 1
    have g2 := hr.cell 2
    simp at g0 g1 g2
    have Hr := Lib.hid hrat
    have Hno := Lib.hid hno
    clear hrat hno
    go_wp2_with fail
    refine bodyPost_ret (v := .agg #[.bool s_, .slice o1 m1 k1, .slice o2 m2 k2]) (by simp [results, Try.results51, go_sem, g0, g1, g2]) rfl ⟨.inl ⟨Hno.out, _, rfl, RawN.set3 Hr.out hr⟩, ?_⟩
    exact ((B.setCell (by simp) _).setCell (by simp) _).setCell (by simp) _
  · have Hov := Lib.hid hov
    clear hov
    go_wp2_with fail
    exact ⟨rfl, .inr ⟨Hov.out, rfl⟩, B⟩
end Go.Proofs.Ythmhljfaenekfaa
