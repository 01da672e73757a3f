/- The law's own guard: alive. -/
import Derived.Test.YthmhljfaenekfaaRatLaw
namespace Go.Proofs.Ythmhljfaenekfaa
open Go.RowKit NM

theorem num_lit {w : World} {b : Nat} {k : Int} {t : TypeId} (h : BlockAt w b #[.int .u32 k] t) (h0 : 0 < k) (h1 : k < 4294967296) : Num w (.slice (some ⟨b, 0, none⟩) 1 1) k := by
  refine ⟨[k], ⟨some ⟨b, 0, none⟩, 1, rfl, by simp, .inr ⟨b, 0, rfl, h.lt, fun i hi => ?_⟩, ?_, by simp, fun h => by cases h⟩, ?_, ?_⟩
  · obtain rfl : i = 0 := by simpa using hi
    have := h.cell 0
    simpa [lb] using this
  · intro x hx
    simp at hx
    omega
  · simp [rightB, lb]; omega
  · simp [val]
theorem dec_two : DecStr ⟨#[50]⟩ 2 := ⟨[2], ⟨by intro d hd; simp at hd; omega, by decide, .inr ⟨by decide, by decide⟩⟩, by decide +kernel⟩
theorem alive_sum : frac false 1 6 + frac false 2 6 = frac false 1 2 := by decide +kernel
theorem alive_over : ¬ OverA (frac false 1 6) (frac false 2 6) := by
  unfold OverA OverS
  decide +kernel
theorem alive_text : ratStr (frac false 1 2) = ⟨#[49, 47, 50]⟩ := by
  have h1 : (frac false 1 2).num.natAbs = 1 := by decide +kernel
  have h2 : (frac false 1 2).den = 2 := by decide +kernel
  have h3 : decide ((frac false 1 2).num < 0) = false := by decide +kernel
  unfold ratStr
  rw [h1, h2, h3]
  have e1 : numStr ((1 : Nat) : Int) = ⟨#[49]⟩ := numStr_one
  have e2 : numStr ((2 : Nat) : Int) = ⟨#[50]⟩ := dec_two.eq.symm
  rw [e1, e2]
  decide +kernel

theorem three_any (w : World) (A B C : Array Value) (t1 t2 t3 : TypeId) :
    Below w.heap.size w (((w.alloc (.cells A t1)).alloc (.cells B t2)).alloc (.cells C t3)) ∧ BlockAt (((w.alloc (.cells A t1)).alloc (.cells B t2)).alloc (.cells C t3)) w.heap.size A t1 ∧ BlockAt (((w.alloc (.cells A t1)).alloc (.cells B t2)).alloc (.cells C t3)) (w.heap.size + 1) B t2 ∧ BlockAt (((w.alloc (.cells A t1)).alloc (.cells B t2)).alloc (.cells C t3)) (w.heap.size + 1 + 1) C t3 := by
  have s1 := BlockAt.new w A t1
  have b1 : Below w.heap.size w (w.alloc (.cells A t1)) := (Below.refl _ _).alloc (Nat.le_refl _) _
  have e1 : (w.alloc (.cells A t1)).heap.size = w.heap.size + 1 := by simp
  generalize w.alloc (.cells A t1) = w1 at *
  have s2 := BlockAt.new w1 B t2
  have b2 : Below w1.heap.size w1 (w1.alloc (.cells B t2)) := (Below.refl _ _).alloc (Nat.le_refl _) _
  have e2 : (w1.alloc (.cells B t2)).heap.size = w.heap.size + 1 + 1 := by simp [e1]
  rw [e1] at s2
  generalize w1.alloc (.cells B t2) = w2 at *
  have s3 := BlockAt.new w2 C t3
  have b3 : Below w2.heap.size w2 (w2.alloc (.cells C t3)) := (Below.refl _ _).alloc (Nat.le_refl _) _
  rw [e2] at s3
  have c := b2.trans (b3.mono b2.size)
  exact ⟨b1.trans (c.mono b1.size), s1.below c, s2.below b3, s3⟩

set_option maxHeartbeats 1600000 in
set_option maxRecDepth 100000 in
theorem aliveR (w : World) :
    Calls Try.prog 14 #[] w fun e w' => e = .returned (.bool true) ∧ Below w.heap.size w w' := by
  have B0 : Below w.heap.size w (w.alloc (.cells #[.int .u32 1] 60)) := (Below.refl _ _).alloc (Nat.le_refl _) _
  have hb1 := BlockAt.new w #[.int .u32 1] 60
  have e1 : (w.alloc (.cells #[.int .u32 1] 60)).heap.size = w.heap.size + 1 := by simp
  have b2 : Below (w.alloc (.cells #[.int .u32 1] 60)).heap.size (w.alloc (.cells #[.int .u32 1] 60)) ((w.alloc (.cells #[.int .u32 1] 60)).alloc (.cells #[.int .u32 6] 60)) := (Below.refl _ _).alloc (Nat.le_refl _) _
  have hb2 := BlockAt.new (w.alloc (.cells #[.int .u32 1] 60)) #[.int .u32 6] 60
  rw [e1] at hb2
  have n1 := num_lit (hb1.below b2) (by omega) (by omega)
  have n2 := num_lit hb2 (by omega) (by omega)
  have B := B0.trans (b2.mono B0.size)
  have HM := Lib.hid (make_num false _ _ 1 6 _ n1 n2 (by omega))
  clear n1 n2 hb1 hb2 b2 B0 e1
  go_enter Try.func14, Try.ntmps14
  go_wp2_with fail
  refine HM.out.mono ?_
  rintro e W ⟨⟨r, rfl, hr⟩, bq⟩
  have B := B.trans (bq.mono B.size)
  clear bq HM
  obtain ⟨s_, o1, m1, k1, o2, m2, k2, rfl⟩ := RawN.form hr
  have Hr := Lib.hid hr
  clear hr
  obtain ⟨b3, h1, h2, h3⟩ := three_any W #[.bool s_, .slice o1 m1 k1, .slice o2 m2 k2] #[.int .u32 2] #[.int .u32 6] 25 60 60
  have HM := Lib.hid (make_num false _ _ 2 6 _ (num_lit h2 (by omega) (by omega)) (num_lit h3 (by omega) (by omega)) (by omega))
  have Hr := Lib.hid (Hr.out.below b3)
  have B := B.trans (b3.mono B.size)
  clear b3 h2 h3
  go_wp2_with fail
  generalize ((W.alloc (.cells #[.bool s_, .slice o1 m1 k1, .slice o2 m2 k2] 25)).alloc (.cells #[.int .u32 2] 60)).alloc (.cells #[.int .u32 6] 60) = V at *
  generalize W.heap.size = p1 at *
  refine HM.out.mono ?_
  rintro e W2 ⟨⟨r, rfl, hr⟩, bq⟩
  have B := B.trans (bq.mono B.size)
  have Hr := Lib.hid (Hr.out.below bq)
  have h1 := h1.below bq
  clear bq HM
  obtain ⟨s2, o3, m3, k3, o4, m4, k4, rfl⟩ := RawN.form hr
  have b4 : Below W2.heap.size W2 (W2.alloc (.cells #[.bool s2, .slice o3 m3 k3, .slice o4 m4 k4] 25)) := (Below.refl _ _).alloc (Nat.le_refl _) _
  have l1 := h1.lt
  obtain ⟨c0, c1, c2⟩ := block3 h1
  have HA := Lib.hid (add_rat _ _ _ _ _ (Hr.out.below b4) (RatN.below hr b4))
  have B := B.trans (b4.mono B.size)
  clear Hr hr h1 b4
  go_wp2_with fail
  refine HA.out.mono ?_
  rintro e W3 ⟨hk, bq⟩
  have B := B.trans (bq.mono B.size)
  clear bq HA
  rcases hk with ⟨-, r, rfl, hr⟩ | ⟨hov, -⟩
  rotate_left
  · exact absurd hov alive_over
  rw [alive_sum] at hr
  obtain ⟨s3, o5, m5, k5, o6, m6, k6, rfl⟩ := RawN.form hr
  have b4 : Below W3.heap.size W3 (W3.alloc (.cells #[.bool s3, .slice o5 m5 k5, .slice o6 m6 k6] 25)) := (Below.refl _ _).alloc (Nat.le_refl _) _
  have HT := Lib.hid (text_rat _ _ _ (RatN.below hr b4))
  rw [alive_text] at HT
  have B := B.trans (b4.mono B.size)
  clear hr b4 c0 c1 c2
  go_wp2_with fail
  refine HT.out.mono ?_
  rintro e W4 ⟨rfl, bq⟩
  have B := B.trans (bq.mono B.size)
  clear bq HT
  go_wp2_with fail
  go_ret
  exact ⟨rfl, B⟩
end Go.Proofs.Ythmhljfaenekfaa
