/- Bits of 0, and of what may not be; alive. -/
import Derived.Test.YtlkadnaoacoicaaRoundBits
namespace Go.Proofs.Ytlkadnaoacoicaa
open Go.RowKit NM

set_option maxHeartbeats 1600000 in
set_option maxRecDepth 100000 in
theorem bits_badr (v : Value) (size : Int) (w : World) (hs : (Lit.int .i64 size).wf = true) (hz : size = 32 ∨ size = 64) (h : BadR w v) :
    Calls Try.prog 6 #[v, .int .i64 size] w fun e w' => e = .returned (.tuple #[.int .u64 0, .bool false, .int .i64 1]) ∧ Below w.heap.size w w' := by
  obtain ⟨s1, n1, d1, rfl⟩ := h.form
  have b1 : Below w.heap.size w (w.alloc (.cells #[.bool s1, n1, d1] 25)) := (Below.refl _ _).alloc (Nat.le_refl _) _
  have ha := BlockAt.new w #[.bool s1, n1, d1] 25
  have hf := form_any size (w.alloc (.cells #[.bool s1, n1, d1] 25)) hs
  obtain ⟨a, b, c, hfv⟩ : ∃ a b c, formV size = (a, b, c, true) := by
    rcases hz with rfl | rfl
    · exact ⟨_, _, _, rfl⟩
    · exact ⟨_, _, _, rfl⟩
  rw [hfv] at hf
  have HF := Lib.hid hf
  have R := Lib.hid (fun (W : World) (B : Below w.heap.size w W) => right_not (h.below B))
  clear hf hfv hz h hs
  go_enter Try.func6, Try.ntmps6
  go_wp2_with fail
  refine HF.out.mono ?_
  rintro e W1 ⟨rfl, bq⟩
  have B := b1.trans (bq.mono b1.size)
  have ha := ha.below bq
  clear bq b1 HF
  have b4 : Below W1.heap.size W1 (W1.alloc (.cells #[.int .i64 a, .int .i64 b, .int .i64 c] 46)) := (Below.refl _ _).alloc (Nat.le_refl _) _
  have ha := ha.below b4
  have B := B.trans (b4.mono B.size)
  have HR := Lib.hid (R.out _ B)
  clear b4
  obtain ⟨c0, c1, c2⟩ := block3 ha
  go_wp2_with fail
  refine HR.out.mono ?_
  rintro e W2 ⟨rfl, bq⟩
  have B := B.trans (bq.mono B.size)
  clear bq HR R c0 c1 c2
  go_wp2_with fail
  go_ret3
  exact ⟨rfl, B⟩
set_option maxHeartbeats 1600000 in
set_option maxRecDepth 100000 in
theorem bits_none (v : Value) (size : Int) (w : World) (hs : (Lit.int .i64 size).wf = true) (h32 : size ≠ 32) (h64 : size ≠ 64) (h : FormR v) :
    Calls Try.prog 6 #[v, .int .i64 size] w fun e w' => e = .returned (.tuple #[.int .u64 0, .bool false, .int .i64 1]) ∧ Below w.heap.size w w' := by
  obtain ⟨s1, n1, d1, rfl⟩ := h
  have b1 : Below w.heap.size w (w.alloc (.cells #[.bool s1, n1, d1] 25)) := (Below.refl _ _).alloc (Nat.le_refl _) _
  have hf := form_any size (w.alloc (.cells #[.bool s1, n1, d1] 25)) hs
  have hfv : formV size = (0, 0, 0, false) := by unfold formV; rw [if_neg h32, if_neg h64]
  rw [hfv] at hf
  have HF := Lib.hid hf
  clear hf hfv h32 h64 hs
  go_enter Try.func6, Try.ntmps6
  go_wp2_with fail
  refine HF.out.mono ?_
  rintro e W1 ⟨rfl, bq⟩
  have B := b1.trans (bq.mono b1.size)
  have B := B.alloc B.size (.cells #[.int .i64 0, .int .i64 0, .int .i64 0] 46)
  clear bq b1 HF
  go_wp2_with fail
  go_ret3
  exact ⟨rfl, B⟩
set_option maxHeartbeats 1600000 in
set_option maxRecDepth 100000 in
theorem bits_zero (v : Value) (size : Int) (w : World) (hs : (Lit.int .i64 size).wf = true) (hz : size = 32 ∨ size = 64) (h : RatN w v 0) :
    Calls Try.prog 6 #[v, .int .i64 size] w fun e w' => e = .returned (.tuple #[.int .u64 0, .bool true, .int .i64 0]) ∧ Below w.heap.size w w' := by
  have h' := h
  obtain ⟨n1, d1, rfl, h1, -⟩ := h'
  obtain ⟨lo, lc, rfl⟩ := Num.of_zero (show Num w n1 0 from h1)
  generalize decide ((0 : Rat).num < 0) = s1 at *
  have b1 : Below w.heap.size w (w.alloc (.cells #[.bool s1, .slice lo 0 lc, d1] 25)) := (Below.refl _ _).alloc (Nat.le_refl _) _
  have ha := BlockAt.new w #[.bool s1, .slice lo 0 lc, d1] 25
  have hf := form_any size (w.alloc (.cells #[.bool s1, .slice lo 0 lc, d1] 25)) hs
  obtain ⟨a, b, c, hfv⟩ : ∃ a b c, formV size = (a, b, c, true) := by
    rcases hz with rfl | rfl
    · exact ⟨_, _, _, rfl⟩
    · exact ⟨_, _, _, rfl⟩
  rw [hfv] at hf
  have HF := Lib.hid hf
  have R := Lib.hid (fun (W : World) (B : Below w.heap.size w W) => right_rat (h.below B))
  clear hf hfv hz h hs h1
  go_enter Try.func6, Try.ntmps6
  go_wp2_with fail
  refine HF.out.mono ?_
  rintro e W1 ⟨rfl, bq⟩
  have B := b1.trans (bq.mono b1.size)
  have ha := ha.below bq
  clear bq b1 HF
  have b4 : Below W1.heap.size W1 (W1.alloc (.cells #[.int .i64 a, .int .i64 b, .int .i64 c] 46)) := (Below.refl _ _).alloc (Nat.le_refl _) _
  have ha := ha.below b4
  have B := B.trans (b4.mono B.size)
  have HR := Lib.hid (R.out _ B)
  clear b4
  obtain ⟨c0, c1, c2⟩ := block3 ha
  go_wp2_with fail
  refine HR.out.mono ?_
  rintro e W2 ⟨rfl, bq⟩
  have ha := ha.below bq
  have B := B.trans (bq.mono B.size)
  clear bq HR R c0 c1 c2
  obtain ⟨c0, c1, c2⟩ := block3 ha
  go_wp2_with fail
  go_ret3
  exact ⟨rfl, B⟩
theorem half_log : IsLog 1 2 (-1) := ⟨by decide +kernel, by decide +kernel⟩
theorem log_one {N D : Nat} {L1 L2 : Int} (h1 : IsLog N D L1) (h2 : IsLog N D L2) (hD : 0 < D) : L1 = L2 := by
  have a := h1.mono h2 (Nat.le_refl _) hD
  have b := h2.mono h1 (Nat.le_refl _) hD
  omega
theorem num_lit {w : World} {b : Nat} {k : Int} {t : TypeId} (h : BlockAt w b #[.int .u32 k] t) (h0 : 0 < k) (h1 : k < 4294967296) : Num w (.slice (some ⟨b, 0, none⟩) 1 1) k := by
  refine ⟨[k], ⟨some ⟨b, 0, none⟩, 1, rfl, by simp, .inr ⟨b, 0, rfl, h.lt, fun i hi => ?_⟩, ?_, by simp, fun h => by cases h⟩, ?_, ?_⟩
  · obtain rfl : i = 0 := by simpa using hi
    have := h.cell 0
    simpa [lb] using this
  · intro x hx
    simp at hx
    omega
  · simp [rightB, lb]; omega
  · simp [val]
theorem half_bits {v : Value} (w : World) (h : RatN w v (frac false 1 2)) :
    Calls Try.prog 6 #[v, .int .i64 32] w fun e w' => e = .returned (.tuple #[.int .u64 1056964608, .bool true, .int .i64 0]) ∧ Below w.heap.size w w' := by
  have e1 : (frac false 1 2).num.natAbs = 1 := by decide +kernel
  have e2 : (frac false 1 2).den = 2 := by decide +kernel
  have e3 : decide ((frac false 1 2).num < 0) = false := by decide +kernel
  refine (bits32_num v _ w h (by rw [e1]; decide)).mono ?_
  rintro e w' ⟨⟨L, hL, hk⟩, hb⟩
  refine ⟨?_, hb⟩
  rw [e1, e2] at hL hk
  rw [e3] at hk
  obtain rfl := log_one hL half_log (by decide)
  have b1 : bitv 1 2 (-1) 24 149 = 1056964608 := by decide +kernel
  have b2 : exactv 1 2 (-1) 24 149 = true := by decide +kernel
  rw [b1, b2] at hk
  rcases hk with ⟨_, hk⟩ | ⟨hk, _⟩
  · rw [if_neg (by simp)] at hk
    exact hk
  · omega
set_option maxHeartbeats 1600000 in
set_option maxRecDepth 100000 in
theorem alive3 (w : World) :
    Calls Try.prog 8 #[] w fun e w' => e = .returned (.bool true) ∧ Below w.heap.size w w' := by
  have B0 : Below w.heap.size w (w.alloc (.cells #[.int .u32 1] 56)) := (Below.refl _ _).alloc (Nat.le_refl _) _
  have hb1 := BlockAt.new w #[.int .u32 1] 56
  have e1 : (w.alloc (.cells #[.int .u32 1] 56)).heap.size = w.heap.size + 1 := by simp
  have b2 : Below (w.alloc (.cells #[.int .u32 1] 56)).heap.size (w.alloc (.cells #[.int .u32 1] 56)) ((w.alloc (.cells #[.int .u32 1] 56)).alloc (.cells #[.int .u32 2] 56)) := (Below.refl _ _).alloc (Nat.le_refl _) _
  have hb2 := BlockAt.new (w.alloc (.cells #[.int .u32 1] 56)) #[.int .u32 2] 56
  rw [e1] at hb2
  have n1 := num_lit (hb1.below b2) (by omega) (by omega)
  have n2 := num_lit hb2 (by omega) (by omega)
  have B := B0.trans (b2.mono B0.size)
  have hr : RatN ((w.alloc (.cells #[.int .u32 1] 56)).alloc (.cells #[.int .u32 2] 56)) (.agg #[.bool false, .slice (some ⟨w.heap.size, 0, none⟩) 1 1, .slice (some ⟨w.heap.size + 1, 0, none⟩) 1 1]) (frac false 1 2) := by
    have e1 : (frac false 1 2).num.natAbs = 1 := by decide +kernel
    have e2 : (frac false 1 2).den = 2 := by decide +kernel
    have e3 : decide ((frac false 1 2).num < 0) = false := by decide +kernel
    refine ⟨_, _, by rw [e3], ?_, ?_⟩
    · rw [e1]; exact n1
    · rw [e2]; exact n2
  have HM := Lib.hid (half_bits _ hr)
  clear n1 n2 hb1 hb2 b2 B0 e1 hr
  go_enter Try.func8, Try.ntmps8
  go_wp2_with fail
  refine HM.out.mono ?_
  rintro e W ⟨rfl, bq⟩
  have B := B.trans (bq.mono B.size)
  clear bq HM
  go_wp2_with fail
  go_ret
  exact ⟨rfl, B⟩
end Go.Proofs.Ytlkadnaoacoicaa
