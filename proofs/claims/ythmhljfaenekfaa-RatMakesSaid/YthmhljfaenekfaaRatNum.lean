/- Rational numbers in memory: reduced, must, Right. -/
import Derived.Test.YthmhljfaenekfaaRatBase
import Derived.Test.YthmhljfaenekfaaRatMath
import Derived.Test.YthmhljfaenekfaaBlock
namespace Go.Proofs.Ythmhljfaenekfaa
open Go.RowKit NM

/-- A sign and a fraction's two numbers. -/
def RawN (w : World) (v : Value) (neg : Bool) (N D : Nat) : Prop := ∃ n d, v = .agg #[.bool neg, n, d] ∧ Num w n N ∧ Num w d D
def RatN (w : World) (v : Value) (x : Rat) : Prop := RawN w v (decide (x.num < 0)) x.num.natAbs x.den
theorem RawN.below {w w' : World} {v : Value} {neg : Bool} {N D : Nat} (h : RawN w v neg N D) (hb : Below w.heap.size w w') : RawN w' v neg N D := by
  obtain ⟨n, d, h1, h2, h3⟩ := h
  exact ⟨n, d, h1, h2.below hb, h3.below hb⟩
theorem RatN.below {w w' : World} {v : Value} {x : Rat} (h : RatN w v x) (hb : Below w.heap.size w w') : RatN w' v x := RawN.below h hb
/-- No cell of a limb. -/
def NoLimb (cs : Array Value) : Prop := ∀ (k : Nat) (x : Int), cs[k]? ≠ some (Value.int .u32 x)
theorem Row.set_other {w : World} {ao : Option Addr} {xs : List Int} {b : Nat} {cs : Array Value} {t : TypeId} (h : Row w ao xs) (hb : BlockAt w b cs t) (hn : NoLimb cs) (k : Nat) (x : Value) : Row (w.setCell ⟨b, k, none⟩ x) ao xs := by
  rcases h with h | ⟨b2, off, h1, h2, h3⟩
  · exact .inl h
  · by_cases h0 : xs = []
    · exact .inl h0
    · refine .inr ⟨b2, off, h1, by simpa [World.setCell] using h2, fun i hi => ?_⟩
      have hne : b2 ≠ b := by
        intro e
        have hc := h3 0 (List.length_pos_iff.2 h0)
        rw [e, hb.cell] at hc
        exact hn _ _ hc
      have hh : (w.setCell ⟨b, k, none⟩ x).heap[b2]? = w.heap[b2]? := Below.heap_setCell _ _ _ _ hne
      rw [← h3 i hi]
      simp only [World.cell?, hh]
theorem Num.set_other {w : World} {v : Value} {N : Int} {b : Nat} {cs : Array Value} {t : TypeId} (h : Num w v N) (hb : BlockAt w b cs t) (hn : NoLimb cs) (k : Nat) (x : Value) : Num (w.setCell ⟨b, k, none⟩ x) v N := by
  obtain ⟨xs, ⟨ao, ca, h1, h2, h3, h4⟩, h5⟩ := h
  exact ⟨xs, ⟨ao, ca, h1, h2, h3.set_other hb hn k x, h4⟩, h5⟩
theorem RawN.set_other {w : World} {v : Value} {neg : Bool} {N D : Nat} {b : Nat} {cs : Array Value} {t : TypeId} (h : RawN w v neg N D) (hb : BlockAt w b cs t) (hn : NoLimb cs) (k : Nat) (x : Value) : RawN (w.setCell ⟨b, k, none⟩ x) v neg N D := by
  obtain ⟨n, d, h1, h2, h3⟩ := h
  exact ⟨n, d, h1, h2.set_other hb hn k x, h3.set_other hb hn k x⟩
theorem noLimb3 {a : Bool} {b c : Value} (hb : ∀ x, b ≠ Value.int .u32 x) (hc : ∀ x, c ≠ Value.int .u32 x) : NoLimb #[.bool a, b, c] := by
  intro k x h
  match k with
  | 0 => simp at h
  | 1 => simp at h; exact hb x h
  | 2 => simp at h; exact hc x h
  | k + 3 => simp at h
/-- Three stores into a block of the call's own: what was a number is one. -/
theorem RawN.set3 {w : World} {v : Value} {neg a0 a : Bool} {N D : Nat} {b : Nat} {t : TypeId} {o1 o2 : Option Addr} {n1 n2 c1 c2 : Nat} (h : RawN w v neg N D) (hb : BlockAt w b #[.bool a0, .slice none 0 0, .slice none 0 0] t) :
    RawN (((w.setCell ⟨b, 0, none⟩ (.bool a)).setCell ⟨b, 1, none⟩ (.slice o1 n1 c1)).setCell ⟨b, 2, none⟩ (.slice o2 n2 c2)) v neg N D := by
  have s1 := hb.set 0 (.bool a)
  have s2 := s1.set 1 (.slice o1 n1 c1)
  exact ((h.set_other hb (noLimb3 (fun _ h => by cases h) (fun _ h => by cases h)) _ _).set_other s1 (noLimb3 (fun _ h => by cases h) (fun _ h => by cases h)) _ _).set_other s2 (noLimb3 (fun _ h => by cases h) (fun _ h => by cases h)) _ _
theorem RatN.of_frac {w : World} {n d : Value} {neg s : Bool} {N D : Nat} (hD : 0 < D) (hs : s = (neg && decide (0 < N / Nat.gcd N D))) (hn : Num w n (N / Nat.gcd N D : Nat)) (hd : Num w d (D / Nat.gcd N D : Nat)) :
    RatN w (.agg #[.bool s, n, d]) (frac neg N D) := by
  refine ⟨n, d, ?_, ?_, ?_⟩
  · rw [hs, frac_neg neg hD]
  · rw [frac_abs neg hD]; exact hn
  · rw [frac_den neg hD]; exact hd

theorem must_ok (v : Value) (w : World) :
    Calls Try.prog 67 #[v, .int .i64 0] w fun e w' => e = .returned v ∧ w = w' := by
  go_enter Try.func67, Try.ntmps67
  go_wp2_with fail
  go_ret
  exact ⟨rfl, rfl⟩
def faultOver : Value := .iface 82 (.agg #[.int .i64 2])
set_option maxHeartbeats 400000 in
theorem must_over (v : Value) (w : World) :
    Calls Try.prog 67 #[v, .int .i64 2] w fun e w' => e = .panicked [{ v := faultOver, recovered := false }] ∧ w = w' := by
  go_enter Try.func67, Try.ntmps67
  go_wp2_with fail
  exact ⟨rfl, rfl, rfl⟩

set_option maxHeartbeats 1600000 in
set_option maxRecDepth 100000 in
theorem reduced_num (neg : Bool) (v u : Value) (N D : Nat) (w : World) (h1 : Num w v N) (h2 : Num w u D) (hD : 0 < D) :
    Calls Try.prog 37 #[.bool neg, v, u] w fun e w' => (∃ r, e = .returned r ∧ RatN w' r (frac neg N D)) ∧ Below w.heap.size w w' := by
  have hg : 0 < Nat.gcd N D := Nat.gcd_pos_of_pos_right _ hD
  obtain ⟨G, hG⟩ : ∃ G, Nat.gcd N D = G := ⟨_, rfl⟩
  have HG := Lib.hid hG
  rw [hG] at hg
  have b0 : Below w.heap.size w (w.alloc (.cells #[.bool false, .slice none 0 0, .slice none 0 0] 25)) := (Below.refl _ _).alloc (Nat.le_refl _) _
  have k1 := h1.below b0
  have k2 := h2.below b0
  have hr := BlockAt.new w #[.bool false, .slice none 0 0, .slice none 0 0] 25
  have HD := Lib.hid hD
  clear h1 h2 hG hD
  go_enter Try.func37, Try.ntmps37
  go_wp2_with fail
  generalize w.alloc (.cells #[.bool false, .slice none 0 0, .slice none 0 0] 25) = w0 at *
  have HR := Lib.hid (greatest_num v u N D w0 k1 k2)
  refine HR.out.mono ?_
  rintro e w1 ⟨⟨g, rfl, hgn⟩, b1⟩
  rw [HG.out] at hgn
  have k1 := k1.below b1
  have k2 := k2.below b1
  have hr := hr.below b1
  have B := b0.trans (b1.mono b0.size)
  clear HR b1
  have HR := Lib.hid (div_num v g N G w1 k1 hgn (by omega))
  go_wp2_with fail
  refine HR.out.mono ?_
  rintro e w2 ⟨⟨n, x1, rfl, hn, -⟩, b2⟩
  have hn : Num w2 n ((N / G : Nat) : Int) := hn
  have k2 := k2.below b2
  have hgn := hgn.below b2
  have hr := hr.below b2
  have B := B.trans (b2.mono B.size)
  clear HR b2
  have HR := Lib.hid (div_num u g D G w2 k2 hgn (by omega))
  go_wp2_with fail
  refine HR.out.mono ?_
  rintro e w3 ⟨⟨d, x2, rfl, hd, -⟩, b3⟩
  have hd : Num w3 d ((D / G : Nat) : Int) := hd
  have hn := hn.below b3
  have hr := hr.below b3
  have B := B.trans (b3.mono B.size)
  clear HR b3
  obtain ⟨q1, hq1⟩ : ∃ q, N / G = q := ⟨_, rfl⟩
  obtain ⟨q2, hq2⟩ : ∃ q, D / G = q := ⟨_, rfl⟩
  rw [hq1] at hn
  rw [hq2] at hd
  obtain ⟨no, nn, nc, rfl, -, nn0, -, -⟩ := hn.len
  obtain ⟨d_, dn, dc, rfl, -, -, -, -⟩ := hd.len
  have hs : (neg && decide (0 < nn)) = (neg && decide (0 < N / Nat.gcd N D)) := by
    rw [HG.out, hq1]
    congr 1
    rw [decide_eq_decide]
    omega
  have Hs := Lib.hid hs
  have Hn := Lib.hid hn
  have Hd := Lib.hid hd
  rw [← hq1, ← HG.out] at Hn
  rw [← hq2, ← HG.out] at Hd
  clear hs hn hd nn0 k1 k2 hgn hq1 hq2
  have hc0 := hr.cell 0
  have hc1 := hr.cell 1
  have hc2 := hr.cell 2
  have hf0 := hr.free 0
  have hf1 := hr.free 1
  have hf2 := hr.free 2
  simp at hc0 hc1 hc2
  cases neg
  · go_wp2_with fail
    refine bodyPost_ret (v := .agg #[.bool false, .slice no nn nc, .slice d_ dn dc]) (by simp [results, Try.results37, go_sem, hc0, hc1, hc2]) rfl ⟨⟨_, rfl, ?_⟩, ?_⟩
    · exact RawN.set3 (RatN.of_frac HD.out (by rw [← Hs.out]; rfl) Hn.out Hd.out) hr
    · exact ((B.setCell (by simp) _).setCell (by simp) _).setCell (by simp) _
  · go_wp2_with fail
    refine bodyPost_ret (v := .agg #[.bool (decide (0 < nn)), .slice no nn nc, .slice d_ dn dc]) (by simp [results, Try.results37, go_sem, hc0, hc1, hc2]) rfl ⟨⟨_, rfl, ?_⟩, ?_⟩
    · exact RawN.set3 (RatN.of_frac HD.out (by rw [← Hs.out]; simp) Hn.out Hd.out) hr
    · exact ((B.setCell (by simp) _).setCell (by simp) _).setCell (by simp) _
end Go.Proofs.Ythmhljfaenekfaa
