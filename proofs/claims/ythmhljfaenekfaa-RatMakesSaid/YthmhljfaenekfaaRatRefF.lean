/- The reference's fractions: Of, Reduced. -/
import Derived.Test.YthmhljfaenekfaaRatRefR
namespace Go.Proofs.Ythmhljfaenekfaa
open Go.RowKit NM

/-- The reference's fraction. -/
def fracV (neg : Bool) (N D : Nat) (bad : Bool) : Value := .agg #[.bool neg, .string (numStr N), .string (numStr D), .bool bad]
theorem block4 {w : World} {b : Nat} {x y z u : Value} {t : TypeId} (h : BlockAt w b #[x, y, z, u] t) : w.cell? ⟨b, 0, none⟩ = some x ∧ w.cell? ⟨b, 1, none⟩ = some y ∧ w.cell? ⟨b, 2, none⟩ = some z ∧ w.cell? ⟨b, 3, none⟩ = some u :=
  ⟨h.cell 0, h.cell 1, h.cell 2, h.cell 3⟩

set_option maxHeartbeats 1600000 in
set_option maxRecDepth 100000 in
theorem of_rat (v : Value) (x : Rat) (w : World) (h : RatN w v x) :
    Calls Try.prog 16 #[v] w fun e w' => e = .returned (fracV (decide (x.num < 0)) x.num.natAbs x.den false) ∧ Below w.heap.size w w' := by
  obtain ⟨n, d, rfl, h1, h2⟩ := h
  unfold fracV
  have T1 := Lib.hid (fun (W : World) (h : Num W n (x.num.natAbs : Int)) => reftext_fun h)
  have T2 := Lib.hid (fun (W : World) (h : Num W d (x.den : Int)) => reftext_fun h)
  have b1 := BlockAt.new w #[.bool (decide (x.num < 0)), n, d] 25
  have B1 : Below w.heap.size w (w.alloc (.cells #[.bool (decide (x.num < 0)), n, d] 25)) := (Below.refl _ _).alloc (Nat.le_refl _) _
  have B2 : Below (w.alloc (.cells #[.bool (decide (x.num < 0)), n, d] 25)).heap.size (w.alloc (.cells #[.bool (decide (x.num < 0)), n, d] 25)) ((w.alloc (.cells #[.bool (decide (x.num < 0)), n, d] 25)).alloc (.cells #[.bool false, .string ⟨#[]⟩, .string ⟨#[]⟩, .bool false] 37)) := (Below.refl _ _).alloc (Nat.le_refl _) _
  have b2 := BlockAt.new (w.alloc (.cells #[.bool (decide (x.num < 0)), n, d] 25)) #[.bool false, .string ⟨#[]⟩, .string ⟨#[]⟩, .bool false] 37
  rw [show (w.alloc (.cells #[.bool (decide (x.num < 0)), n, d] 25)).heap.size = w.heap.size + 1 by simp] at b2
  have B := B1.trans (B2.mono B1.size)
  have ha := b1.below B2
  have K1 := h1.below B
  have K2 := h2.below B
  obtain ⟨s1, hs1⟩ : ∃ s, numStr (x.num.natAbs : Int) = s := ⟨_, rfl⟩
  obtain ⟨s2, hs2⟩ : ∃ s, numStr (x.den : Int) = s := ⟨_, rfl⟩
  rw [hs1] at T1 ⊢
  rw [hs2] at T2 ⊢
  generalize decide (x.num < 0) = neg at *
  clear b1 B1 B2 h1 h2 hs1 hs2
  have tok1 : True := trivial
  go_enter Try.func16, Try.ntmps16
  go_wp2_with fail
  generalize (w.alloc (.cells #[.bool neg, n, d] 25)).alloc (.cells #[.bool false, .string ⟨#[]⟩, .string ⟨#[]⟩, .bool false] 37) = W at *
  have ha := ha.below ((Below.refl W.heap.size W).drew)
  have hr := b2.below ((Below.refl W.heap.size W).drew)
  have K1 := K1.below ((Below.refl W.heap.size W).drew)
  have K2 := K2.below ((Below.refl W.heap.size W).drew)
  have B := B.drew
  obtain ⟨c0, c1, c2⟩ := block3 ha
  clear b2
  go_region_with (first
    | (go_at_call 20; have _t := tok1; clear _t tok1; have tok2 : True := trivial; refine (T1.out _ K1).mono ?_; rintro e W2 ⟨rfl, bq⟩; have ha := ha.below bq; have hr := hr.below bq; have K2 := K2.below bq; have B := B.trans (bq.mono B.size); clear bq; obtain ⟨c0, c1, c2⟩ := block3 ha)
    | (go_at_call 20; have _t := tok2; refine (T2.out _ K2).mono ?_; rintro e W3 ⟨rfl, bq⟩; have ha := ha.below bq; have hr := hr.below bq; have B := B.trans (bq.mono B.size); clear bq; obtain ⟨c0, c1, c2⟩ := block3 ha; obtain ⟨g0, g1, g2, g3⟩ := block4 hr; have f0 := hr.free 0; have f1 := hr.free 1; have f2 := hr.free 2; have f3 := hr.free 3))
  all_goals
    go_wp2_with fail
    refine bodyPost_ret (v := .agg #[.bool neg, .string s1, .string s2, .bool false]) (by simp [results, Try.results16, go_sem, g0, g1, g2, g3]) rfl ⟨rfl, ?_⟩
    exact (((B.setCell (by simp) _).setCell (by simp) _).setCell (by simp) _).setCell (by simp) _
end Go.Proofs.Ythmhljfaenekfaa
