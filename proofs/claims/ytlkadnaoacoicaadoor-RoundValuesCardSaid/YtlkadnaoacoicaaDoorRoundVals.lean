/- What the law RoundValues meets: the reference's fraction of bits, reduced; the reference's Is. -/
import Derived.Test.YtlkadnaoacoicaaDoorRoundBackM
import Derived.Test.YtlkadnaoacoicaaDoorRefFrac
import Derived.Test.YtlkadnaoacoicaaDoorRB
import Derived.Deep.DeepCutAuto
namespace Go.Proofs.YtlkadnaoacoicaaDoor
open Go.RowKit NM

/-- The reference's fraction. -/
def fracV (neg : Bool) (N D : Nat) (bad : Bool) : Value := .agg #[.bool neg, .string (numStr N), .string (numStr D), .bool bad]
theorem block4 {w : World} {b : Nat} {x y z u : Value} {t : TypeId} (h : BlockAt w b #[x, y, z, u] t) : w.cell? ⟨b, 0, none⟩ = some x ∧ w.cell? ⟨b, 1, none⟩ = some y ∧ w.cell? ⟨b, 2, none⟩ = some z ∧ w.cell? ⟨b, 3, none⟩ = some u :=
  ⟨h.cell 0, h.cell 1, h.cell 2, h.cell 3⟩
theorem two_start' (w : World) (A B : Array Value) (t t2 : TypeId) :
    Below w.heap.size w ((w.alloc (.cells A t)).alloc (.cells B t2)) ∧ BlockAt ((w.alloc (.cells A t)).alloc (.cells B t2)) w.heap.size A t ∧ BlockAt ((w.alloc (.cells A t)).alloc (.cells B t2)) (w.heap.size + 1) B t2 := by
  have s1 := BlockAt.new w A t
  have b1 : Below w.heap.size w (w.alloc (.cells A t)) := (Below.refl _ _).alloc (Nat.le_refl _) _
  have e1 : (w.alloc (.cells A t)).heap.size = w.heap.size + 1 := by simp
  generalize w.alloc (.cells A t) = w1 at *
  have s2 := BlockAt.new w1 B t2
  have b2 : Below w1.heap.size w1 (w1.alloc (.cells B t2)) := (Below.refl _ _).alloc (Nat.le_refl _) _
  rw [e1] at s2
  exact ⟨b1.trans (b2.mono b1.size), s1.below b2, s2⟩
/-- The fraction of a number. -/
def ratV (x : Rat) (bad : Bool) : Value := fracV (decide (x.num < 0)) x.num.natAbs x.den bad
set_option maxHeartbeats 3200000 in
set_option maxRecDepth 100000 in
theorem isF_true (v : Value) (x : Rat) (bad : Bool) (w : World) (h : RatN w v x) :
    Calls Tryd.prog 15 #[v, ratV x bad] w fun e w' => e = .returned (.bool true) ∧ Below w.heap.size w w' := by
  have RR := Lib.hid (fun (W : World) (h : RatN W v x) => refR_rat h)
  have h0 := h
  obtain ⟨n, d, rfl, h1, h2⟩ := h
  unfold ratV fracV
  have T1 := Lib.hid (fun (W : World) (h : Num W n (x.num.natAbs : Int)) => reftext_fun h)
  have T2 := Lib.hid (fun (W : World) (h : Num W d (x.den : Int)) => reftext_fun h)
  obtain ⟨s1, hs1⟩ : ∃ s, numStr (x.num.natAbs : Int) = s := ⟨_, rfl⟩
  obtain ⟨s2, hs2⟩ : ∃ s, numStr (x.den : Int) = s := ⟨_, rfl⟩
  rw [hs1] at T1 ⊢
  rw [hs2] at T2 ⊢
  clear hs1 hs2
  obtain ⟨neg, hneg⟩ : ∃ b, decide (x.num < 0) = b := ⟨_, rfl⟩
  rw [hneg] at RR h0 ⊢
  clear hneg
  obtain ⟨B, ha, hb⟩ := two_start' w #[.bool neg, n, d] #[.bool neg, .string s1, .string s2, .bool bad] 26 45
  have h0 := h0.below B
  have h1 := h1.below B
  have h2 := h2.below B
  have hnn : (neg == neg) = true := by simp
  have tok1 : True := trivial
  go_enter Tryd.func15, Tryd.ntmps15
  go_wp2_with fail
  generalize (w.alloc (.cells #[.bool neg, n, d] 26)).alloc (.cells #[.bool neg, .string s1, .string s2, .bool bad] 45) = W at *
  have ha := ha.below ((Below.refl W.heap.size W).drew)
  have hb := hb.below ((Below.refl W.heap.size W).drew)
  have h0 := h0.below ((Below.refl W.heap.size W).drew)
  have h1 := h1.below ((Below.refl W.heap.size W).drew)
  have h2 := h2.below ((Below.refl W.heap.size W).drew)
  have B := B.drew
  obtain ⟨p0, e0⟩ : ∃ p, w.heap.size = p := ⟨_, rfl⟩
  obtain ⟨p1, e1⟩ : ∃ p, p0 + 1 = p := ⟨_, rfl⟩
  simp only [e0, e1] at ha hb ⊢
  clear e0 e1
  obtain ⟨c0, c1, c2⟩ := block3 ha
  obtain ⟨d0, d1, d2, d3⟩ := block4 hb
  go_region_held3 (fun w' => w'.cell? ⟨p0, 0, none⟩ = some (.bool neg) ∧ w'.cell? ⟨p0, 1, none⟩ = some n ∧ w'.cell? ⟨p0, 2, none⟩ = some d ∧
      w'.cell? ⟨p1, 0, none⟩ = some (.bool neg) ∧ w'.cell? ⟨p1, 1, none⟩ = some (.string s1) ∧ w'.cell? ⟨p1, 2, none⟩ = some (.string s2))
    (first | go_keep | (exact ⟨c0, c1, c2, d0, d1, d2⟩))
    (first | (go_at_call 31; refine (RR.out _ h0).mono ?_; rintro e W5 ⟨rfl, bq⟩; have ha := ha.below bq; have hb := hb.below bq; have h1 := h1.below bq; have h2 := h2.below bq; have B := B.trans (bq.mono B.size); clear bq c0 c1 c2 d0 d1 d2 d3; obtain ⟨c0, c1, c2⟩ := block3 ha; obtain ⟨d0, d1, d2, d3⟩ := block4 hb) | (go_at_call 32; have _t := tok1; clear _t tok1; have tok2 : True := trivial; refine (T1.out _ h1).mono ?_; rintro e W6 ⟨rfl, bq⟩; have ha := ha.below bq; have hb := hb.below bq; have h2 := h2.below bq; have B := B.trans (bq.mono B.size); clear bq c0 c1 c2 d0 d1 d2 d3; obtain ⟨c0, c1, c2⟩ := block3 ha; obtain ⟨d0, d1, d2, d3⟩ := block4 hb) | (go_at_call 32; have _t := tok2; refine (T2.out _ h2).mono ?_; rintro e W7 ⟨rfl, bq⟩; have ha := ha.below bq; have hb := hb.below bq; have B := B.trans (bq.mono B.size); clear bq c0 c1 c2 d0 d1 d2 d3; obtain ⟨c0, c1, c2⟩ := block3 ha; obtain ⟨d0, d1, d2, d3⟩ := block4 hb))
  all_goals
    go_wp2_with fail
    go_ret
    exact ⟨rfl, B⟩
theorem SlR_nil (w : World) : SlR w (.agg #[.bool false, .slice none 0 0, .slice none 0 0]) false [] [] := by
  have h : Sl w (.slice none 0 0) [] := ⟨none, 0, rfl, Nat.le_refl _, .inl rfl, U32s_nil, by simp, fun _ => rfl⟩
  exact ⟨_, _, rfl, h, h⟩
theorem same_none (w : World) :
    Calls Tryd.prog 8 #[.agg #[.bool false, .slice none 0 0, .slice none 0 0], .agg #[.bool false, .slice none 0 0, .slice none 0 0]] w fun e w' => e = .returned (.bool true) ∧ Below w.heap.size w w' := by
  have h := sameR _ _ _ _ _ _ _ _ w (SlR_nil w) (SlR_nil w)
  rw [decide_eq_true ⟨rfl, rfl, rfl⟩] at h
  exact h
/-- The two numbers of a number are below 2^512. -/
theorem RatN.lt {w : World} {v : Value} {x : Rat} (h : RatN w v x) : (x.num.natAbs : Int) < pw 16 ∧ (x.den : Int) < pw 16 := by
  obtain ⟨n, d, _, h1, h2⟩ := h
  exact ⟨h1.range.2, h2.range.2⟩

theorem fval_sign {S H E b mant least : Nat} (hS : 0 < S) (hv : validb S H E b) : decide ((fval (decide (S ≤ b)) (b % S) mant least).num < 0) = decide (S ≤ b) := by
  by_cases h0 : b % S = 0
  · obtain ⟨h1, h2, _⟩ := hv
    have hdm := Nat.div_add_mod b S
    have h4 : b / S < 2 := (Nat.div_lt_iff_lt_mul hS).2 h1
    have h5 : b / S = 0 ∨ b / S = 1 := by generalize b / S = q at h4 ⊢; omega
    rcases h5 with h5 | h5
    · have hb : ¬ S ≤ b := fun h => by have := Nat.div_pos h hS; omega
      rw [h0, fval_zero, decide_eq_false hb]
      rfl
    · rw [h5, h0, Nat.mul_one, Nat.add_zero] at hdm
      exact absurd hdm.symm h2
  · exact (fval_num _ (by omega)).2
theorem far_frac {b mant least : Nat} (hm : fman b mant < 9007199254740992) (he : -2000 ≤ fexp b mant least) (he2 : fexp b mant least ≤ 2000) : Far (fman b mant * up (fexp b mant least)) ∧ Far (up (-(fexp b mant least))) := by
  have h1 := mulpow_big (n := (fexp b mant least).toNat) hm (by omega)
  have h2 : (10 : Int) * 2 ^ 2000 < big := by unfold big; decide +kernel
  have h3 : (2 : Int) ^ (-(fexp b mant least)).toNat ≤ 2 ^ 2000 := pow_le (by omega)
  unfold Far up
  rw [Int.natCast_mul, pow_nat, pow_nat]
  constructor <;> omega
theorem Far.part {A k : Nat} (h : Far A) : Far (A / k) := by
  have h1 : A / k ≤ A := Nat.div_le_self _ _
  unfold Far at *
  omega
/-- The reference's answers for bits of a number, each under a name. -/
theorem ref_facts {size : Int} {S H E mant least : Nat} (F : Form3 size S H E mant least) (b : Nat) (hv : validb S H E b) :
    ∃ (sn sd sg qn qd r1 r2 : ByteArray) (on od : Bool),
      (∀ w, Calls Tryd.prog 11 #[.int .u64 ((b % S : Nat) : Int), .int .i64 size] w fun e w' => e = .returned (.agg #[.string sn, .string sd]) ∧ Below w.heap.size w w') ∧
      (∀ w, Calls Tryd.prog 12 #[.string sn, .string sd] w fun e w' => e = .returned (.string sg) ∧ Below w.heap.size w w') ∧
      (∀ w, Calls Tryd.prog 13 #[.string sn, .string sg] w fun e w' => e = .returned (.agg #[.string qn, .string r1]) ∧ Below w.heap.size w w') ∧
      (∀ w, Calls Tryd.prog 13 #[.string sd, .string sg] w fun e w' => e = .returned (.agg #[.string qd, .string r2]) ∧ Below w.heap.size w w') ∧
      (∀ w, Calls Tryd.prog 14 #[.string qn] w fun e w' => e = .returned (.bool on) ∧ Below w.heap.size w w') ∧
      (∀ w, Calls Tryd.prog 14 #[.string qd] w fun e w' => e = .returned (.bool od) ∧ Below w.heap.size w w') ∧
      (on = true ↔ pw 16 ≤ ((fval (decide (S ≤ b)) (b % S) mant least).num.natAbs : Nat)) ∧ (od = true ↔ pw 16 ≤ ((fval (decide (S ≤ b)) (b % S) mant least).den : Nat)) ∧
      ratV (fval (decide (S ≤ b)) (b % S) mant least) false = .agg #[.bool (decide (S ≤ b)), .string qn, .string qd, .bool false] := by
  obtain ⟨hm, hH, hEH, hH0, hS0, hS2, hE0⟩ := F.facts
  have hsg := fval_sign (mant := mant) (least := least) hS0 hv
  have hfr : ∀ w, Calls Tryd.prog 11 #[.int .u64 ((b % S : Nat) : Int), .int .i64 size] w fun e w' => e = .returned (fracOf (b % S) mant least) ∧ Below w.heap.size w w' := by
    have h1 := hv.2.2
    have h2 : b % S < S := Nat.mod_lt _ hS0
    intro w
    rcases F with ⟨rfl, rfl, rfl, rfl, rfl, rfl⟩ | ⟨rfl, rfl, rfl, rfl, rfl, rfl⟩
    · exact frac32_any _ w (by omega) (by omega)
    · exact frac64_any _ w (by omega) (by omega)
  have hM : fman (b % S) mant < 9007199254740992 := by
    have h1 := fval_man (b := b % S) hm
    have h2 : 2 ^ mant ≤ 9007199254740992 := by
      rcases F with ⟨rfl, rfl, rfl, rfl, rfl, rfl⟩ | ⟨rfl, rfl, rfl, rfl, rfl, rfl⟩ <;> decide
    omega
  have hrg : -2000 ≤ fexp (b % S) mant least ∧ fexp (b % S) mant least ≤ 2000 := by
    have h1 := hv.2.2
    rw [hH] at h1
    refine fexp_range _ _ _ ?_ ?_
    · rcases F with ⟨rfl, rfl, rfl, rfl, rfl, rfl⟩ | ⟨rfl, rfl, rfl, rfl, rfl, rfl⟩ <;> omega
    · rcases F with ⟨rfl, rfl, rfl, rfl, rfl, rfl⟩ | ⟨rfl, rfl, rfl, rfl, rfl, rfl⟩ <;> omega
  obtain ⟨fN, fD⟩ := far_frac hM hrg.1 hrg.2
  have hD := up_pos (-(fexp (b % S) mant least))
  have ex : fval (decide (S ≤ b)) (b % S) mant least = frac (decide (S ≤ b)) (fman (b % S) mant * up (fexp (b % S) mant least)) (up (-(fexp (b % S) mant least))) := rfl
  unfold fracOf at hfr
  rw [ex] at hsg ⊢
  generalize fman (b % S) mant * up (fexp (b % S) mant least) = N at *
  generalize up (-(fexp (b % S) mant least)) = D at *
  have hG : 0 < Nat.gcd N D := Nat.gcd_pos_of_pos_right _ hD
  have fG : Far (Nat.gcd N D) := by
    have h1 : Nat.gcd N D ≤ D := Nat.gcd_le_right _ hD
    unfold Far at *
    omega
  refine ⟨numStr (N : Int), numStr (D : Int), numStr ((Nat.gcd N D : Nat) : Int), numStr ((N / Nat.gcd N D : Nat) : Int), numStr ((D / Nat.gcd N D : Nat) : Int), numStr ((N : Int) % (Nat.gcd N D : Nat)), numStr ((D : Int) % (Nat.gcd N D : Nat)), _, _, hfr, fun w => common_fun N D w fN fD, fun w => ?_, fun w => ?_, fun w => over_fun _ w (Int.natCast_nonneg _) (fN.part).lt, fun w => over_fun _ w (Int.natCast_nonneg _) (fD.part).lt, ?_, ?_, ?_⟩
  · have h := refdiv2_fun (N : Int) ((Nat.gcd N D : Nat) : Int) w (by omega) fN.lt (by omega) fG
    rw [← Int.natCast_ediv] at h
    exact h
  · have h := refdiv2_fun (D : Int) ((Nat.gcd N D : Nat) : Int) w (by omega) fD.lt (by omega) fG
    rw [← Int.natCast_ediv] at h
    exact h
  · rw [decide_eq_true_iff, frac_abs _ hD]
  · rw [decide_eq_true_iff, frac_den _ hD]
  · unfold ratV fracV
    rw [hsg, frac_abs _ hD, frac_den _ hD]
end Go.Proofs.YtlkadnaoacoicaaDoor
