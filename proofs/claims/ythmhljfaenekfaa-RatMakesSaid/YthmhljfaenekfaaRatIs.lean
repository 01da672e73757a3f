/- The reference's Is, the law's own is. -/
import Derived.Test.YthmhljfaenekfaaRatRefA
namespace Go.Proofs.Ythmhljfaenekfaa
open Go.RowKit NM

/-- The fraction of a number. -/
def ratV (x : Rat) (bad : Bool) : Value := fracV (decide (x.num < 0)) x.num.natAbs x.den bad
theorem redV_frac (neg : Bool) {N D : Nat} (hD : 0 < D) (bad : Bool) : redV neg N D bad = ratV (frac neg N D) (redBad N D bad) := by
  unfold redV ratV
  rw [frac_neg neg hD, frac_abs neg hD, frac_den neg hD]
  congr 2
  rw [decide_eq_decide]
  constructor
  · intro h
    have hg := Nat.gcd_le_left D (Nat.pos_of_ne_zero h)
    exact Nat.div_pos hg (Nat.gcd_pos_of_pos_left _ (Nat.pos_of_ne_zero h))
  · intro h h0
    rw [h0, Nat.zero_div] at h
    omega

set_option maxHeartbeats 3200000 in
set_option maxRecDepth 100000 in
theorem isF_true (v : Value) (x : Rat) (bad : Bool) (w : World) (h : RatN w v x) :
    Calls Try.prog 31 #[v, ratV x bad] w fun e w' => e = .returned (.bool true) ∧ Below w.heap.size w w' := by
  have RR := Lib.hid (fun (W : World) (h : RatN W v x) => refR_rat h)
  have h0 := h
  obtain ⟨n, d, rfl, h1, h2⟩ := h
  unfold ratV fracV
  have T1 := Lib.hid (fun (W : World) (h : Num W n (x.num.natAbs : Int)) => reftext_fun h)
  have T2 := Lib.hid (fun (W : World) (h : Num W d (x.den : Int)) => reftext_fun h)
  obtain ⟨s1, hs1⟩ : ∃ s, numStr (x.num.natAbs : Int) = s := ⟨_, rfl⟩
  obtain ⟨s2, hs2⟩ : ∃ s, numStr (x.den : Int) = s := ⟨_, rfl⟩
  rw [hs1] at T1 ⊢
  rw [hs2] at T2 ⊢
  clear hs1 hs2
  obtain ⟨neg, hneg⟩ : ∃ b, decide (x.num < 0) = b := ⟨_, rfl⟩
  rw [hneg] at RR h0 ⊢
  clear hneg
  obtain ⟨B, ha, hb⟩ := two_start' w #[.bool neg, n, d] #[.bool neg, .string s1, .string s2, .bool bad] 25 37
  have h0 := h0.below B
  have h1 := h1.below B
  have h2 := h2.below B
  have hnn : (neg == neg) = true := by simp
  have tok1 : True := trivial
  go_enter Try.func31, Try.ntmps31
  go_wp2_with fail
  generalize (w.alloc (.cells #[.bool neg, n, d] 25)).alloc (.cells #[.bool neg, .string s1, .string s2, .bool bad] 37) = W at *
  have ha := ha.below ((Below.refl W.heap.size W).drew)
  have hb := hb.below ((Below.refl W.heap.size W).drew)
  have h0 := h0.below ((Below.refl W.heap.size W).drew)
  have h1 := h1.below ((Below.refl W.heap.size W).drew)
  have h2 := h2.below ((Below.refl W.heap.size W).drew)
  have B := B.drew
  obtain ⟨p0, e0⟩ : ∃ p, w.heap.size = p := ⟨_, rfl⟩
  obtain ⟨p1, e1⟩ : ∃ p, p0 + 1 = p := ⟨_, rfl⟩
  simp only [e0, e1] at ha hb ⊢
  clear e0 e1
  obtain ⟨c0, c1, c2⟩ := block3 ha
  obtain ⟨d0, d1, d2, d3⟩ := block4 hb
  go_region_held3 (fun w' => w'.cell? ⟨p0, 0, none⟩ = some (.bool neg) ∧ w'.cell? ⟨p0, 1, none⟩ = some n ∧ w'.cell? ⟨p0, 2, none⟩ = some d ∧
      w'.cell? ⟨p1, 0, none⟩ = some (.bool neg) ∧ w'.cell? ⟨p1, 1, none⟩ = some (.string s1) ∧ w'.cell? ⟨p1, 2, none⟩ = some (.string s2))
    (first | go_keep | (exact ⟨c0, c1, c2, d0, d1, d2⟩))
    (first | (go_at_call 11; refine (RR.out _ h0).mono ?_; rintro e W5 ⟨rfl, bq⟩; have ha := ha.below bq; have hb := hb.below bq; have h1 := h1.below bq; have h2 := h2.below bq; have B := B.trans (bq.mono B.size); clear bq c0 c1 c2 d0 d1 d2 d3; obtain ⟨c0, c1, c2⟩ := block3 ha; obtain ⟨d0, d1, d2, d3⟩ := block4 hb) | (go_at_call 20; have _t := tok1; clear _t tok1; have tok2 : True := trivial; refine (T1.out _ h1).mono ?_; rintro e W6 ⟨rfl, bq⟩; have ha := ha.below bq; have hb := hb.below bq; have h2 := h2.below bq; have B := B.trans (bq.mono B.size); clear bq c0 c1 c2 d0 d1 d2 d3; obtain ⟨c0, c1, c2⟩ := block3 ha; obtain ⟨d0, d1, d2, d3⟩ := block4 hb) | (go_at_call 20; have _t := tok2; refine (T2.out _ h2).mono ?_; rintro e W7 ⟨rfl, bq⟩; have ha := ha.below bq; have hb := hb.below bq; have B := B.trans (bq.mono B.size); clear bq c0 c1 c2 d0 d1 d2 d3; obtain ⟨c0, c1, c2⟩ := block3 ha; obtain ⟨d0, d1, d2, d3⟩ := block4 hb))
  all_goals
    go_wp2_with fail
    go_ret
    exact ⟨rfl, B⟩

/-- A result: a number, or that something was too great. -/
def Res (over : Prop) (z : Rat) (w : World) (r : Value) (e : Int) : Prop := (¬ over ∧ e = 0 ∧ RatN w r z) ∨ (over ∧ e = 2 ∧ r = .agg #[.bool false, .slice none 0 0, .slice none 0 0])
theorem Res.below {over : Prop} {z : Rat} {w w' : World} {r : Value} {e : Int} (h : Res over z w r e) (hb : Below w.heap.size w w') : Res over z w' r e := by
  rcases h with ⟨a, b, c⟩ | h
  · exact .inl ⟨a, b, c.below hb⟩
  · exact .inr h
theorem Res.form {over : Prop} {z : Rat} {w : World} {r : Value} {e : Int} (h : Res over z w r e) : ∃ s o1 n1 c1 o2 n2 c2, r = .agg #[.bool s, .slice o1 n1 c1, .slice o2 n2 c2] := by
  rcases h with ⟨a, b, c⟩ | ⟨_, _, h⟩
  · exact RawN.form c
  · exact ⟨_, _, _, _, _, _, _, h⟩
theorem RkPost.res {over : Prop} {x : Rat} {e : Ending} {w : World} (h : RkPost over x e w) : ∃ r k, e = .returned (.tuple #[r, .int .i64 k]) ∧ Res over x w r k := by
  rcases h with ⟨h1, r, h2, h3⟩ | ⟨h1, h2⟩
  · exact ⟨r, 0, h2, .inl ⟨h1, rfl, h3⟩⟩
  · exact ⟨_, 2, h2, .inr ⟨h1, rfl, rfl⟩⟩
theorem SlR_nil (w : World) : SlR w (.agg #[.bool false, .slice none 0 0, .slice none 0 0]) false [] [] := by
  have h : Sl w (.slice none 0 0) [] := ⟨none, 0, rfl, Nat.le_refl _, .inl rfl, U32s_nil, by simp, fun _ => rfl⟩
  exact ⟨_, _, rfl, h, h⟩
theorem same_none (w : World) :
    Calls Try.prog 13 #[.agg #[.bool false, .slice none 0 0, .slice none 0 0], .agg #[.bool false, .slice none 0 0, .slice none 0 0]] w fun e w' => e = .returned (.bool true) ∧ Below w.heap.size w w' := by
  have h := sameR _ _ _ _ _ _ _ _ w (SlR_nil w) (SlR_nil w)
  rw [decide_eq_true ⟨rfl, rfl, rfl⟩] at h
  exact h
set_option maxHeartbeats 1600000 in
set_option maxRecDepth 100000 in
theorem is_over (f : Value) (s1 s2 : ByteArray) (neg : Bool) (w : World) (hf : f = .agg #[.bool neg, .string s1, .string s2, .bool true]) :
    Calls Try.prog 18 #[.agg #[.bool false, .slice none 0 0, .slice none 0 0], .int .i64 2, f] w fun e w' => e = .returned (.bool true) ∧ Below w.heap.size w w' := by
  subst hf
  obtain ⟨B, ha, hb⟩ := two_start' w #[.bool false, .slice none 0 0, .slice none 0 0] #[.bool neg, .string s1, .string s2, .bool true] 25 37
  have S := Lib.hid (fun w => same_none w)
  obtain ⟨c0, c1, c2⟩ := block3 ha
  obtain ⟨d0, d1, d2, d3⟩ := block4 hb
  go_enter Try.func18, Try.ntmps18
  go_wp2_with fail
  refine (S.out _).mono ?_
  rintro e W2 ⟨rfl, bq⟩
  have B := B.trans (bq.mono B.size)
  clear bq c0 c1 c2 d0 d1 d2 d3
  go_wp2_with fail
  go_ret
  exact ⟨rfl, B⟩
set_option maxHeartbeats 1600000 in
set_option maxRecDepth 100000 in
theorem is_num (v : Value) (x : Rat) (w : World) (h : RatN w v x) :
    Calls Try.prog 18 #[v, .int .i64 0, ratV x false] w fun e w' => e = .returned (.bool true) ∧ Below w.heap.size w w' := by
  have S := fun (W : World) (h : RatN W v x) => isF_true v x false W h
  have h0 := h
  obtain ⟨n, d, rfl, h1, h2⟩ := h
  unfold ratV fracV at *
  have S := Lib.hid S
  generalize numStr (x.num.natAbs : Int) = s1 at *
  generalize numStr (x.den : Int) = s2 at *
  obtain ⟨B, ha, hb⟩ := two_start' w #[.bool (decide (x.num < 0)), n, d] #[.bool (decide (x.num < 0)), .string s1, .string s2, .bool false] 25 37
  have h0 := h0.below B
  generalize decide (x.num < 0) = neg at *
  obtain ⟨c0, c1, c2⟩ := block3 ha
  obtain ⟨d0, d1, d2, d3⟩ := block4 hb
  clear h1 h2
  go_enter Try.func18, Try.ntmps18
  go_wp2_with fail
  refine (S.out _ h0).mono ?_
  rintro e W2 ⟨rfl, bq⟩
  have B := B.trans (bq.mono B.size)
  clear bq c0 c1 c2 d0 d1 d2 d3
  go_wp2_with fail
  go_ret
  exact ⟨rfl, B⟩
/-- What the law asks of a result. -/
theorem is_res {over : Prop} {z : Rat} {w : World} {r : Value} {k : Int} (neg : Bool) (N D : Nat) (bad : Bool) (hD : 0 < D) (hz : frac neg N D = z) (ho : redBad N D bad = true ↔ over) (h : Res over z w r k) :
    Calls Try.prog 18 #[r, .int .i64 k, redV neg N D bad] w fun e w' => e = .returned (.bool true) ∧ Below w.heap.size w w' := by
  rw [redV_frac neg hD, hz]
  rcases h with ⟨h1, rfl, h3⟩ | ⟨h1, rfl, rfl⟩
  · have : redBad N D bad = false := by
      cases hb : redBad N D bad
      · rfl
      · exact absurd (ho.1 hb) h1
    rw [this]
    exact is_num r z w h3
  · rw [ho.2 h1]
    exact is_over _ _ _ _ w rfl
/-! The reference's answers, as numbers. -/
theorem den_mul_pos (x y : Rat) : 0 < x.den * y.den := Nat.mul_pos (den_pos x) (den_pos y)
theorem addF_all (na nb ba bb : Bool) (N1 D1 N2 D2 : Nat) (w : World) (h1 : (N1 : Int) < pw 16) (h2 : (D1 : Int) < pw 16) (h3 : (N2 : Int) < pw 16) (h4 : (D2 : Int) < pw 16) (hD : 0 < D1 * D2) :
    Calls Try.prog 25 #[fracV na N1 D1 ba, fracV nb N2 D2 bb] w fun e w' => e = .returned (redV (addNeg na nb (N1 * D2) (N2 * D1)) (addNum na nb (N1 * D2) (N2 * D1)) (D1 * D2) (overB (N1 * D2 + N2 * D1) || overB (D1 * D2))) ∧ Below w.heap.size w w' := by
  by_cases hn : na = nb
  · subst hn
    rw [addNeg, if_pos rfl, addNum, if_pos rfl]
    cases ho : overB (N1 * D2 + N2 * D1)
    · rw [Bool.false_or]
      exact addF_same_f na ba bb N1 D1 N2 D2 _ _ _ w h1 h2 h3 h4 hD rfl rfl rfl ho
    · rw [Bool.true_or]
      exact addF_same_t na ba bb N1 D1 N2 D2 _ _ _ w h1 h2 h3 h4 hD rfl rfl rfl ho
  · obtain rfl : nb = !na := by cases na <;> cases nb <;> simp_all
    rw [addNeg, if_neg hn, addNum, if_neg hn]
    by_cases hl : N2 * D1 ≤ N1 * D2
    · rw [if_pos hl]
      cases ho : overB (N1 * D2 + N2 * D1)
      · rw [Bool.false_or]
        exact addF_ge_f na ba bb N1 D1 N2 D2 _ _ _ w h1 h2 h3 h4 hD rfl rfl rfl ho hl
      · rw [Bool.true_or]
        exact addF_ge_t na ba bb N1 D1 N2 D2 _ _ _ w h1 h2 h3 h4 hD rfl rfl rfl ho hl
    · rw [if_neg hl]
      cases ho : overB (N1 * D2 + N2 * D1)
      · rw [Bool.false_or]
        exact addF_lt_f na ba bb N1 D1 N2 D2 _ _ _ w h1 h2 h3 h4 hD rfl rfl rfl ho (by omega)
      · rw [Bool.true_or]
        exact addF_lt_t na ba bb N1 D1 N2 D2 _ _ _ w h1 h2 h3 h4 hD rfl rfl rfl ho (by omega)
theorem sum_frac (na nb : Bool) (N1 D1 N2 D2 : Nat) (h1 : 0 < D1) (h2 : 0 < D2) : frac (addNeg na nb (N1 * D2) (N2 * D1)) (addNum na nb (N1 * D2) (N2 * D1)) (D1 * D2) = frac na N1 D1 + frac nb N2 D2 := by
  by_cases hn : na = nb
  · subst hn
    rw [addNeg, if_pos rfl, addNum, if_pos rfl]
    exact sum_same na N1 D1 N2 D2 h1 h2
  · rw [addNeg, if_neg hn, addNum, if_neg hn]
    by_cases hl : N2 * D1 ≤ N1 * D2
    · rw [if_pos hl, Nat.max_eq_left hl, Nat.min_eq_right hl]
      exact sum_ahead na nb N1 D1 N2 D2 h1 h2 hn hl
    · have hl' : N1 * D2 ≤ N2 * D1 := by omega
      rw [if_neg hl, Nat.max_eq_right hl', Nat.min_eq_left hl']
      exact sum_behind na nb N1 D1 N2 D2 h1 h2 hn hl'
theorem overB_iff (N : Nat) : overB N = true ↔ pw 16 ≤ (N : Int) := by unfold overB; rw [decide_eq_true_eq]
theorem addNum_le (na nb : Bool) (x y : Nat) : addNum na nb x y ≤ x + y := by
  unfold addNum
  split <;> omega
theorem over_sum (na nb : Bool) (N1 D1 N2 D2 : Nat) : redBad (addNum na nb (N1 * D2) (N2 * D1)) (D1 * D2) (overB (N1 * D2 + N2 * D1) || overB (D1 * D2)) = true ↔ OverS N1 D1 N2 D2 := by
  have hl := addNum_le na nb (N1 * D2) (N2 * D1)
  unfold redBad OverS
  simp only [Bool.or_eq_true, overB_iff]
  omega
theorem over_prod (N1 D1 N2 D2 : Nat) : redBad (N1 * N2) (D1 * D2) false = true ↔ OverP N1 D1 N2 D2 := by
  unfold redBad OverP
  simp only [Bool.or_eq_true, overB_iff, Bool.false_eq_true, false_or]
/-- The two numbers of a number are below 2^512. -/
theorem RatN.lt {w : World} {v : Value} {x : Rat} (h : RatN w v x) : (x.num.natAbs : Int) < pw 16 ∧ (x.den : Int) < pw 16 := by
  obtain ⟨n, d, _, h1, h2⟩ := h
  exact ⟨h1.range.2, h2.range.2⟩
/-- The reference's sum. -/
def addV (x y : Rat) (nb : Bool) : Value := redV (addNeg (decide (x.num < 0)) nb (x.num.natAbs * y.den) (y.num.natAbs * x.den)) (addNum (decide (x.num < 0)) nb (x.num.natAbs * y.den) (y.num.natAbs * x.den)) (x.den * y.den) (overB (x.num.natAbs * y.den + y.num.natAbs * x.den) || overB (x.den * y.den))
def mulV (x y : Rat) : Value := redV (decide (x.num < 0) != decide (y.num < 0)) (x.num.natAbs * y.num.natAbs) (x.den * y.den) false
def quoV (x y : Rat) : Value := redV (decide (x.num < 0) != decide (y.num < 0)) (x.num.natAbs * y.den) (x.den * y.num.natAbs) false
theorem refadd_rat (x y : Rat) (nb ba bb : Bool) (w : World) (hx : (x.num.natAbs : Int) < pw 16 ∧ (x.den : Int) < pw 16) (hy : (y.num.natAbs : Int) < pw 16 ∧ (y.den : Int) < pw 16) :
    Calls Try.prog 25 #[ratV x ba, fracV nb y.num.natAbs y.den bb] w fun e w' => e = .returned (addV x y nb) ∧ Below w.heap.size w w' :=
  addF_all _ _ _ _ _ _ _ _ w hx.1 hx.2 hy.1 hy.2 (den_mul_pos x y)
theorem refmul_rat (x y : Rat) (ba bb : Bool) (w : World) (hx : (x.num.natAbs : Int) < pw 16 ∧ (x.den : Int) < pw 16) (hy : (y.num.natAbs : Int) < pw 16 ∧ (y.den : Int) < pw 16) :
    Calls Try.prog 27 #[ratV x ba, ratV y bb] w fun e w' => e = .returned (mulV x y) ∧ Below w.heap.size w w' :=
  refM_fun _ _ _ _ _ _ _ _ w hx.1 hx.2 hy.1 hy.2 (den_mul_pos x y)
theorem num_pos {y : Rat} (h : y ≠ 0) : 0 < y.num.natAbs := by
  have : y.num ≠ 0 := fun e => h (Rat.num_eq_zero.1 e)
  omega
theorem refquo_rat (x y : Rat) (ba bb : Bool) (w : World) (hx : (x.num.natAbs : Int) < pw 16 ∧ (x.den : Int) < pw 16) (hy : (y.num.natAbs : Int) < pw 16 ∧ (y.den : Int) < pw 16) (h0 : y ≠ 0) :
    Calls Try.prog 28 #[ratV x ba, ratV y bb] w fun e w' => e = .returned (quoV x y) ∧ Below w.heap.size w w' :=
  refQ_fun _ _ _ _ _ _ _ _ w hx.1 hx.2 hy.1 hy.2 (Nat.mul_pos (den_pos x) (num_pos h0))
theorem isadd (x y : Rat) (w : World) {r : Value} {k : Int} (h : Res (OverA x y) (x + y) w r k) :
    Calls Try.prog 18 #[r, .int .i64 k, addV x y (decide (y.num < 0))] w fun e w' => e = .returned (.bool true) ∧ Below w.heap.size w w' :=
  is_res _ _ _ _ (den_mul_pos x y) (by rw [sum_frac _ _ _ _ _ _ (den_pos x) (den_pos y), frac_self, frac_self]) (over_sum _ _ _ _ _ _) h
theorem issub (x y : Rat) (w : World) {r : Value} {k : Int} (h : Res (OverA x y) (x - y) w r k) :
    Calls Try.prog 18 #[r, .int .i64 k, addV x y (!decide (y.num < 0))] w fun e w' => e = .returned (.bool true) ∧ Below w.heap.size w w' :=
  is_res _ _ _ _ (den_mul_pos x y) (by rw [sum_frac _ _ _ _ _ _ (den_pos x) (den_pos y), frac_self, frac_flip, frac_self, Rat.sub_eq_add_neg]) (over_sum _ _ _ _ _ _) h
theorem ismul (x y : Rat) (w : World) {r : Value} {k : Int} (h : Res (OverM x y) (x * y) w r k) :
    Calls Try.prog 18 #[r, .int .i64 k, mulV x y] w fun e w' => e = .returned (.bool true) ∧ Below w.heap.size w w' :=
  is_res _ _ _ _ (den_mul_pos x y) (by rw [prod_frac, frac_self, frac_self]) (over_prod _ _ _ _) h
theorem isquo (x y : Rat) (w : World) (h0 : y ≠ 0) {r : Value} {k : Int} (h : Res (OverQ x y) (x / y) w r k) :
    Calls Try.prog 18 #[r, .int .i64 k, quoV x y] w fun e w' => e = .returned (.bool true) ∧ Below w.heap.size w w' :=
  is_res _ _ _ _ (Nat.mul_pos (den_pos x) (num_pos h0)) (by rw [prod_frac, frac_self, inv_frac _ (num_pos h0) (den_pos y), frac_self, ← Rat.div_def]) (over_prod _ _ _ _) h
/-- A result's code is 0 or 2. -/
theorem addV_form (x y : Rat) (nb : Bool) : ∃ a b c d, addV x y nb = .agg #[.bool a, .string b, .string c, .bool d] := ⟨_, _, _, _, rfl⟩
end Go.Proofs.Ythmhljfaenekfaa
