/- What the law RoundOrders meets: few, high, Bits of any number. -/
import Derived.Test.YtlkadnaoacoicaaRoundBits2
import Derived.Deep.DeepCutAuto
namespace Go.Proofs.Ytlkadnaoacoicaa
open Go.RowKit NM

theorem Sl.form {w : World} {v : Value} {xs : List Int} (h : Sl w v xs) : ∃ o n c, v = .slice o n c := by
  obtain ⟨o, c, h, _⟩ := h
  exact ⟨o, _, c, h⟩
theorem Sl.set3any {w : World} {v : Value} {xs : List Int} {a a' : Bool} {b : Nat} {t : TypeId} {o1 o2 o3 o4 : Option Addr} {n1 n2 n3 n4 c1 c2 c3 c4 : Nat} (h : Sl w v xs) (hb : BlockAt w b #[.bool a', .slice o3 n3 c3, .slice o4 n4 c4] t) :
    Sl (((w.setCell ⟨b, 0, none⟩ (.bool a)).setCell ⟨b, 1, none⟩ (.slice o1 n1 c1)).setCell ⟨b, 2, none⟩ (.slice o2 n2 c2)) v xs := by
  obtain ⟨ao, ca, h1, h2, h3, h4⟩ := h
  have s1 := hb.set 0 (.bool a)
  have s2 := s1.set 1 (.slice o1 n1 c1)
  exact ⟨ao, ca, h1, h2, ((h3.set_other hb (noLimb3 (fun _ h => by cases h) (fun _ h => by cases h)) _ _).set_other s1 (noLimb3 (fun _ h => by cases h) (fun _ h => by cases h)) _ _).set_other s2 (noLimb3 (fun _ h => by cases h) (fun _ h => by cases h)) _ _, h4⟩
/-- Both arguments, cut. -/
theorem both_set {w W : World} {a b a' b' : Bool} {p : Nat} {t : TypeId} {o1 o2 o3 o4 u1 u2 u3 u4 : Option Addr} {n1 n2 n3 n4 c1 c2 c3 c4 m1 m2 m3 m4 e1 e2 e3 e4 : Nat} {x1 x2 x3 x4 : List Int}
    (ha : BlockAt W p #[.bool a', .slice u1 m1 e1, .slice u2 m2 e2] t) (hb : BlockAt W (p + 1) #[.bool b', .slice u3 m3 e3, .slice u4 m4 e4] t) (hp : w.heap.size ≤ p) (B : Below w.heap.size w W)
    (h1 : Sl W (.slice o1 n1 c1) x1) (h2 : Sl W (.slice o2 n2 c2) x2) (h3 : Sl W (.slice o3 n3 c3) x3) (h4 : Sl W (.slice o4 n4 c4) x4) :
    ∃ V, V = ((((((W.setCell ⟨p, 0, none⟩ (.bool a)).setCell ⟨p, 1, none⟩ (.slice o1 n1 c1)).setCell ⟨p, 2, none⟩ (.slice o2 n2 c2)).setCell ⟨p + 1, 0, none⟩ (.bool b)).setCell ⟨p + 1, 1, none⟩ (.slice o3 n3 c3)).setCell ⟨p + 1, 2, none⟩ (.slice o4 n4 c4)) ∧
      BlockAt V p #[.bool a, .slice o1 n1 c1, .slice o2 n2 c2] t ∧ BlockAt V (p + 1) #[.bool b, .slice o3 n3 c3, .slice o4 n4 c4] t ∧ (Sl V (.slice o1 n1 c1) x1 ∧ Sl V (.slice o2 n2 c2) x2 ∧ Sl V (.slice o3 n3 c3) x3 ∧ Sl V (.slice o4 n4 c4) x4) ∧ Below w.heap.size w V := by
  refine ⟨_, rfl, ?_⟩
  have a1 := ((ha.set 0 (.bool a)).set 1 (.slice o1 n1 c1)).set 2 (.slice o2 n2 c2)
  have b1 := ((hb.other (show p + 1 ≠ p by omega) 0 (.bool a)).other (show p + 1 ≠ p by omega) 1 (.slice o1 n1 c1)).other (show p + 1 ≠ p by omega) 2 (.slice o2 n2 c2)
  have k1 := Sl.set3any (a := a) (o1 := o1) (n1 := n1) (c1 := c1) (o2 := o2) (n2 := n2) (c2 := c2) h1 ha
  have k2 := Sl.set3any (a := a) (o1 := o1) (n1 := n1) (c1 := c1) (o2 := o2) (n2 := n2) (c2 := c2) h2 ha
  have k3 := Sl.set3any (a := a) (o1 := o1) (n1 := n1) (c1 := c1) (o2 := o2) (n2 := n2) (c2 := c2) h3 ha
  have k4 := Sl.set3any (a := a) (o1 := o1) (n1 := n1) (c1 := c1) (o2 := o2) (n2 := n2) (c2 := c2) h4 ha
  have B1 := ((B.setCell (p := ⟨p, 0, none⟩) hp (.bool a)).setCell (p := ⟨p, 1, none⟩) hp (.slice o1 n1 c1)).setCell (p := ⟨p, 2, none⟩) hp (.slice o2 n2 c2)
  generalize ((W.setCell ⟨p, 0, none⟩ (.bool a)).setCell ⟨p, 1, none⟩ (.slice o1 n1 c1)).setCell ⟨p, 2, none⟩ (.slice o2 n2 c2) = U at *
  have hp1 : w.heap.size ≤ p + 1 := by omega
  exact ⟨((a1.other (by omega) _ _).other (by omega) _ _).other (by omega) _ _, ((b1.set 0 (.bool b)).set 1 (.slice o3 n3 c3)).set 2 (.slice o4 n4 c4), ⟨k1.set3any b1, k2.set3any b1, k3.set3any b1, k4.set3any b1⟩, ((B1.setCell (p := ⟨p + 1, 0, none⟩) hp1 _).setCell (p := ⟨p + 1, 1, none⟩) hp1 _).setCell (p := ⟨p + 1, 2, none⟩) hp1 _⟩
set_option maxHeartbeats 1600000 in
set_option maxRecDepth 100000 in
theorem fewO (s : Bool) (a0 : Option Addr) (len0 cap0 : Nat) (z0 : List Int) (a1 : Option Addr) (len1 cap1 : Nat) (z1 : List Int) (w : World) (h0 : IsRow .u32 w a0 len0 cap0 z0) (h1 : IsRow .u32 w a1 len1 cap1 z1) :
    Calls Try.prog 5 #[.agg #[.bool s, .slice a0 len0 cap0, .slice a1 len1 cap1]] w fun e w' => (∃ n d xs ys, e = .returned (.agg #[.bool s, n, d]) ∧ Sl w' n xs ∧ Sl w' d ys) ∧ Below w.heap.size w w' := by
  obtain ⟨l0, c0⟩ := h0.caps
  obtain ⟨l1, c1⟩ := h1.caps
  have H0 := Lib.hid h0
  have H1 := Lib.hid h1
  clear h0 h1
  obtain ⟨B, ha, hr⟩ := two_start w #[.bool s, .slice a0 len0 cap0, .slice a1 len1 cap1] #[.bool false, .slice none 0 0, .slice none 0 0] 25
  go_enter Try.func5, Try.ntmps5
  go_wp2_with fail
  generalize (w.alloc (.cells #[.bool s, .slice a0 len0 cap0, .slice a1 len1 cap1] 25)).alloc (.cells #[.bool false, .slice none 0 0, .slice none 0 0] 25) = W at *
  obtain ⟨k0, k1, k2⟩ := block3 ha
  have m0 : (0 : Int) ≤ min (len0 : Int) 18 := by omega
  have m1 : min (len0 : Int) 18 ≤ (cap0 : Int) := by omega
  have m2 : (0 : Int) ≤ min (len1 : Int) 18 := by omega
  have m3 : min (len1 : Int) 18 ≤ (cap1 : Int) := by omega
  go_still_tail 17, (by kernel_rfl)
  have q1 := (((H0.out.sl (min (len0 : Int) 18).toNat (by omega) (by omega)).below B).below ((Below.refl W.heap.size W).drew))
  have q2 := (((H1.out.sl (min (len1 : Int) 18).toNat (by omega) (by omega)).below B).below ((Below.refl W.heap.size W).drew))
  have hr := hr.below ((Below.refl W.heap.size W).drew)
  have B := B.drew
  have Q1 := Lib.hid q1
  have Q2 := Lib.hid q2
  clear q1 q2 ha H0 H1 k0 k1 k2 m0 m1 m2 m3
  change wpList _ _ _ _ _ W.drew
  generalize W.drew = w2 at *
  have f0 := hr.free 0
  have f1 := hr.free 1
  have f2 := hr.free 2
  have g0 := hr.cell 0
  have g1 := hr.cell 1
  have g2 := hr.cell 2
  simp at g0 g1 g2
  go_wp2_with fail
  refine bodyPost_ret (v := .agg #[.bool s, .slice a0 (min (len0 : Int) 18).toNat cap0, .slice a1 (min (len1 : Int) 18).toNat cap1]) (by simp [results, Try.results5, go_sem, g0, g1, g2]) rfl ⟨⟨_, _, _, _, rfl, Sl.set3 Q1.out hr, Sl.set3 Q2.out hr⟩, ?_⟩
  exact ((B.setCell (by simp) _).setCell (by simp) _).setCell (by simp) _


theorem Sl.set_one {w : World} {v : Value} {xs : List Int} {b : Nat} {cs : Array Value} {t : TypeId} (h : Sl w v xs) (hb : BlockAt w b cs t) (hn : NoLimb cs) (k : Nat) (x : Value) : Sl (w.setCell ⟨b, k, none⟩ x) v xs := by
  obtain ⟨ao, ca, h1, h2, h3, h4⟩ := h
  exact ⟨ao, ca, h1, h2, h3.set_other hb hn k x, h4⟩
theorem high32 (w : World) : Calls Try.prog 13 #[.int .i64 32] w fun e w' => e = .returned (.int .u64 2147483648) ∧ w = w' := by
  go_enter Try.func13, Try.ntmps13
  go_wp2_with fail
  go_ret
  exact ⟨rfl, rfl⟩
theorem high64 (w : World) : Calls Try.prog 13 #[.int .i64 64] w fun e w' => e = .returned (.int .u64 9223372036854775808) ∧ w = w' := by
  go_enter Try.func13, Try.ntmps13
  go_wp2_with fail
  go_ret
  exact ⟨rfl, rfl⟩
/-- The bits of a number without its sign. -/
def mag (N D mant least top : Nat) (m : Nat) : Prop := (N = 0 ∧ m = 0) ∨ (0 < N ∧ m < top ∧ ∃ L, IsLog N D L ∧ m = bitv N D L mant least)
theorem mag_mono {N1 D1 N2 D2 mant least top m1 m2 : Nat} (hm : 0 < mant) (h1 : mag N1 D1 mant least top m1) (h2 : mag N2 D2 mant least top m2) (hD1 : 0 < D1) (hD2 : 0 < D2) (h : N1 * D2 ≤ N2 * D1) : m1 ≤ m2 := by
  rcases h1 with ⟨_, h1⟩ | ⟨p1, _, L1, l1, rfl⟩
  · omega
  · rcases h2 with ⟨h2, _⟩ | ⟨_, _, L2, l2, rfl⟩
    · subst h2
      have := Nat.mul_pos p1 hD2
      omega
    · exact bitv_mono hm l1 l2 hD1 hD2 h
theorem mag_one {N D mant least top m1 m2 : Nat} (h1 : mag N D mant least top m1) (h2 : mag N D mant least top m2) (hD : 0 < D) : m1 = m2 := by
  rcases h1 with ⟨a, h1⟩ | ⟨p1, _, L1, l1, rfl⟩
  · rcases h2 with ⟨_, h2⟩ | ⟨p2, _⟩
    · omega
    · omega
  · rcases h2 with ⟨h2, _⟩ | ⟨_, _, L2, l2, rfl⟩
    · omega
    · rw [log_one l1 l2 hD]
/-- What Bits answers, with its code. -/
def BitsRes (x : Rat) (mant least top : Nat) (sg : Int) (b k : Int) : Prop := (k = 2 ∧ 0 < x.num.natAbs ∧ ∃ L, IsLog x.num.natAbs x.den L ∧ top ≤ bitv x.num.natAbs x.den L mant least) ∨ (k = 0 ∧ ∃ m, mag x.num.natAbs x.den mant least top m ∧ b = (m : Int) + (if decide (x.num < 0) = true ∧ m ≠ 0 then sg else 0))
theorem post_res {x : Rat} {mant least top : Nat} {sg : Int} {e : Ending} (hx : 0 < x.num.natAbs) (h : BitsPost x mant least top sg e) : ∃ (b : Int) (ex : Bool) (k : Int), e = .returned (.tuple #[.int .u64 b, .bool ex, .int .i64 k]) ∧ BitsRes x mant least top sg b k := by
  obtain ⟨L, hL, ⟨h1, h2⟩ | ⟨h1, h2⟩⟩ := h
  · exact ⟨_, _, 0, h2, .inr ⟨rfl, _, .inr ⟨hx, h1, L, hL, rfl⟩, rfl⟩⟩
  · exact ⟨_, _, 2, h2, .inl ⟨rfl, hx, L, hL, h1⟩⟩
theorem zero_res (mant least top : Nat) (sg : Int) : BitsRes 0 mant least top sg 0 0 := .inr ⟨rfl, 0, .inl ⟨rfl, rfl⟩, by simp⟩
theorem bits32_res (v : Value) (x : Rat) (w : World) (h : RatN w v x) :
    Calls Try.prog 6 #[v, .int .i64 32] w fun e w' => (∃ (b : Int) (ex : Bool) (k : Int), e = .returned (.tuple #[.int .u64 b, .bool ex, .int .i64 k]) ∧ BitsRes x 24 149 2139095040 2147483648 b k) ∧ Below w.heap.size w w' := by
  by_cases hx : x.num.natAbs = 0
  · obtain rfl : x = 0 := Rat.num_eq_zero.1 (by omega)
    exact (bits_zero v 32 w (by decide) (.inl rfl) h).mono fun _ _ ⟨h1, h2⟩ => ⟨⟨_, _, _, h1, zero_res _ _ _ _⟩, h2⟩
  · exact (bits32_num v x w h (by omega)).mono fun _ _ ⟨h1, h2⟩ => ⟨post_res (by omega) h1, h2⟩
theorem bits64_res (v : Value) (x : Rat) (w : World) (h : RatN w v x) :
    Calls Try.prog 6 #[v, .int .i64 64] w fun e w' => (∃ (b : Int) (ex : Bool) (k : Int), e = .returned (.tuple #[.int .u64 b, .bool ex, .int .i64 k]) ∧ BitsRes x 53 1074 9218868437227405312 9223372036854775808 b k) ∧ Below w.heap.size w w' := by
  by_cases hx : x.num.natAbs = 0
  · obtain rfl : x = 0 := Rat.num_eq_zero.1 (by omega)
    exact (bits_zero v 64 w (by decide) (.inr rfl) h).mono fun _ _ ⟨h1, h2⟩ => ⟨⟨_, _, _, h1, zero_res _ _ _ _⟩, h2⟩
  · exact (bits64_num v x w h (by omega)).mono fun _ _ ⟨h1, h2⟩ => ⟨post_res (by omega) h1, h2⟩
/-- A struct that is a number or none: what Bits and Cmp answer has a form. -/
def AnyR (w : World) (v : Value) : Prop := (∃ x, RatN w v x) ∨ BadR w v
theorem AnyR.below {w w' : World} {v : Value} (h : AnyR w v) (hb : Below w.heap.size w w') : AnyR w' v := by
  rcases h with ⟨x, h⟩ | h
  · exact .inl ⟨x, h.below hb⟩
  · exact .inr (h.below hb)
theorem AnyR.form {w : World} {v : Value} (h : AnyR w v) : FormR v := by
  rcases h with ⟨x, h⟩ | h
  · exact h.form
  · exact h.form
theorem bits_form (v : Value) (size : Int) (w : World) (hs : (Lit.int .i64 size).wf = true) (h : AnyR w v) :
    Calls Try.prog 6 #[v, .int .i64 size] w fun e w' => (∃ (b : Int) (ex : Bool) (k : Int), e = .returned (.tuple #[.int .u64 b, .bool ex, .int .i64 k])) ∧ Below w.heap.size w w' := by
  by_cases h32 : size = 32
  · subst h32
    rcases h with ⟨x, h⟩ | h
    · exact (bits32_res v x w h).mono fun _ _ ⟨⟨b, ex, k, h1, _⟩, h2⟩ => ⟨⟨b, ex, k, h1⟩, h2⟩
    · exact (bits_badr v 32 w hs (.inl rfl) h).mono fun _ _ ⟨h1, h2⟩ => ⟨⟨_, _, _, h1⟩, h2⟩
  · by_cases h64 : size = 64
    · subst h64
      rcases h with ⟨x, h⟩ | h
      · exact (bits64_res v x w h).mono fun _ _ ⟨⟨b, ex, k, h1, _⟩, h2⟩ => ⟨⟨b, ex, k, h1⟩, h2⟩
      · exact (bits_badr v 64 w hs (.inr rfl) h).mono fun _ _ ⟨h1, h2⟩ => ⟨⟨_, _, _, h1⟩, h2⟩
    · exact (bits_none v size w hs h32 h64 h.form).mono fun _ _ ⟨h1, h2⟩ => ⟨⟨_, _, _, h1⟩, h2⟩
theorem cmp_form (v u : Value) (w : World) (h1 : AnyR w v) (h2 : AnyR w u) :
    Calls Try.prog 14 #[v, u] w fun e w' => (∃ n g : Int, e = .returned (.tuple #[.int .i64 n, .int .i64 g])) ∧ Below w.heap.size w w' := by
  rcases h1 with ⟨x, h1⟩ | h1
  · rcases h2 with ⟨y, h2⟩ | h2
    · exact (cmp_rat v u x y w h1 h2).mono fun _ _ ⟨k, hb⟩ => ⟨by rcases k with ⟨_, k⟩ | ⟨_, k⟩ <;> exact ⟨_, _, k⟩, hb⟩
    · exact (cmp_badr v u w (.inr ⟨⟨x, h1⟩, h2⟩) h2.form).mono fun _ _ ⟨k, hb⟩ => ⟨⟨_, _, k⟩, hb⟩
  · exact (cmp_badr v u w (.inl h1) h2.form).mono fun _ _ ⟨k, hb⟩ => ⟨⟨_, _, k⟩, hb⟩
theorem RatN.sign {w : World} {s : Bool} {n d : Value} {x : Rat} (h : RatN w (.agg #[.bool s, n, d]) x) : decide (x.num < 0) = s ∧ Num w n (x.num.natAbs : Nat) ∧ Num w d (x.den : Nat) := by
  obtain ⟨n', d', e, h1, h2⟩ := h
  cases e
  exact ⟨rfl, h1, h2⟩
theorem RatN.turned {w : World} {n d : Value} {x : Rat} (h : RatN w (.agg #[.bool false, n, d]) x) (hx : x.num.natAbs ≠ 0) : RatN w (.agg #[.bool true, n, d]) (-x) := by
  obtain ⟨h1, h2, h3⟩ := h.sign
  have hn : ¬ x.num < 0 := of_decide_eq_false h1
  refine ⟨n, d, ?_, ?_, ?_⟩
  · rw [Rat.neg_num, decide_eq_true (by omega)]
  · rw [Rat.neg_num, Int.natAbs_neg]; exact h2
  · rw [Rat.neg_den]; exact h3
theorem RatN.none {w : World} {n d : Value} {x : Rat} (h : RatN w (.agg #[.bool false, n, d]) x) (hx : x.num.natAbs = 0) : BadR w (.agg #[.bool true, n, d]) := by
  obtain ⟨h1, ⟨xs, a1, a2, a3⟩, ⟨ys, b1, b2, b3⟩⟩ := h.sign
  refine ⟨true, n, d, xs, ys, rfl, a1, b1, ?_⟩
  rw [a3, hx]
  simp [rawB]
/-- The same number, turned: the same bits but the sign. -/
theorem turned_res {x : Rat} {mant least top m : Nat} {sg b k : Int} (h : mag x.num.natAbs x.den mant least top m) (hx : x.num.natAbs ≠ 0) (hs : ¬ x.num < 0) (hr : BitsRes (-x) mant least top sg b k) : k = 0 ∧ b = (m : Int) + (if m ≠ 0 then sg else 0) := by
  have hd := den_pos x
  have e1 : (-x).num.natAbs = x.num.natAbs := by rw [Rat.neg_num, Int.natAbs_neg]
  have e2 : (-x).den = x.den := Rat.neg_den x
  have e3 : decide ((-x).num < 0) = true := by rw [Rat.neg_num, decide_eq_true (by omega)]
  unfold BitsRes at hr
  rw [e1, e2, e3] at hr
  rcases hr with ⟨_, _, L, hL, ht⟩ | ⟨hk, m', hm, hb⟩
  · exfalso
    rcases h with ⟨h, _⟩ | ⟨_, h, L2, hL2, rfl⟩
    · exact hx h
    · rw [log_one hL hL2 hd] at ht
      omega
  · refine ⟨hk, ?_⟩
    rw [mag_one h hm hd, hb]
    simp
theorem ord_ways {x y : Rat} (hx : ¬ x.num < 0) (hy : ¬ y.num < 0) :
    (ratSgn x y = -1 ∧ x.num.natAbs * y.den ≤ y.num.natAbs * x.den) ∨ (ratSgn x y = 0 ∧ x.num.natAbs * y.den = y.num.natAbs * x.den) ∨ (ratSgn x y = 1 ∧ y.num.natAbs * x.den ≤ x.num.natAbs * y.den) := by
  have a : x.num * (y.den : Int) = ((x.num.natAbs * y.den : Nat) : Int) := by rw [Int.natCast_mul]; congr 1; omega
  have b : y.num * (x.den : Int) = ((y.num.natAbs * x.den : Nat) : Int) := by rw [Int.natCast_mul]; congr 1; omega
  rw [ratSgn_num, a, b]
  unfold sgn
  split
  · exact .inl ⟨rfl, by omega⟩
  · split
    · exact .inr (.inr ⟨rfl, by omega⟩)
    · exact .inr (.inl ⟨rfl, by omega⟩)
end Go.Proofs.Ytlkadnaoacoicaa
