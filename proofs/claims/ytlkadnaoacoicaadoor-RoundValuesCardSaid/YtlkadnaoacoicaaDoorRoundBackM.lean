/- What the law RoundBack meets: Value and Bits, back and forth, for both sizes. -/
import Derived.Test.YtlkadnaoacoicaaDoorRoundValueW
import Derived.Test.YtlkadnaoacoicaaDoorRoundOrd
namespace Go.Proofs.YtlkadnaoacoicaaDoor
open Go.RowKit NM

/-- The two sizes: the sign's bit, the hidden bit, the exponent of none, the bits of a mantissa, the least exponent. -/
def Form3 (size : Int) (S H E mant least : Nat) : Prop :=
  (size = 32 ∧ S = 2147483648 ∧ H = 8388608 ∧ E = 255 ∧ mant = 24 ∧ least = 149) ∨ (size = 64 ∧ S = 9223372036854775808 ∧ H = 4503599627370496 ∧ E = 2047 ∧ mant = 53 ∧ least = 1074)
theorem Form3.facts {size : Int} {S H E mant least : Nat} (F : Form3 size S H E mant least) : 0 < mant ∧ H = 2 ^ (mant - 1) ∧ E * H ≤ S ∧ 0 < H ∧ 0 < S ∧ 2 * S ≤ 18446744073709551616 ∧ 0 < E := by
  rcases F with ⟨-, rfl, rfl, rfl, rfl, rfl⟩ | ⟨-, rfl, rfl, rfl, rfl, rfl⟩ <;> decide
/-- The bits that a number has. -/
def validb (S H E b : Nat) : Prop := b < 2 * S ∧ b ≠ S ∧ b % S / H < E
def nilR : Value := .agg #[.bool false, .slice none 0 0, .slice none 0 0]
def VRes (w : World) (v : Value) (k : Int) (S H E mant least b : Nat) : Prop :=
  (k = 0 ∧ validb S H E b ∧ RatN w v (fval (decide (S ≤ b)) (b % S) mant least)) ∨ (k = 1 ∧ ¬ validb S H E b ∧ v = nilR) ∨
  (k = 2 ∧ v = nilR ∧ validb S H E b ∧ (pw 16 ≤ ((fval (decide (S ≤ b)) (b % S) mant least).num.natAbs : Nat) ∨ pw 16 ≤ ((fval (decide (S ≤ b)) (b % S) mant least).den : Nat)))
theorem vres_of {x : Rat} {e : Ending} {w' : World} {S H E mant least b : Nat} (hv : validb S H E b) (hx : x = fval (decide (S ≤ b)) (b % S) mant least) (h : ValPost x e w') : ∃ v k, e = .returned (.tuple #[v, .int .i64 k]) ∧ VRes w' v k S H E mant least b := by
  subst hx
  rcases h with ⟨r, rfl, hr⟩ | ⟨rfl, hb⟩
  · exact ⟨_, _, rfl, .inl ⟨rfl, hv, hr⟩⟩
  · exact ⟨_, _, rfl, .inr (.inr ⟨rfl, rfl, hv, hb⟩)⟩
theorem value_res {size : Int} {S H E mant least : Nat} (F : Form3 size S H E mant least) (b : Nat) (w : World) (hb : b < 18446744073709551616) (hT : Tab64 w) :
    Calls Tryd.prog 5 #[.int .u64 b, .int .i64 size] w fun e w' => (∃ v k, e = .returned (.tuple #[v, .int .i64 k]) ∧ VRes w' v k S H E mant least b) ∧ Below w.heap.size w w' := by
  rcases F with ⟨rfl, rfl, rfl, rfl, rfl, rfl⟩ | ⟨rfl, rfl, rfl, rfl, rfl, rfl⟩
  · rcases Nat.lt_or_ge b 4294967296 with h1 | h1
    · by_cases h2 : b = 2147483648
      · subst h2
        exact (value32_sign w).mono fun _ _ ⟨k1, k2⟩ => ⟨⟨_, _, k1, .inr (.inl ⟨rfl, fun h => h.2.1 rfl, rfl⟩)⟩, k2⟩
      · rcases Nat.lt_or_ge (b % 2147483648 / 8388608) 255 with h3 | h3
        · exact (value32_num b w h1 h2 h3 hT).mono fun _ _ ⟨k1, k2⟩ => ⟨vres_of ⟨h1, h2, h3⟩ rfl k1, k2⟩
        · exact (value32_none b w h1 h2 h3).mono fun _ _ ⟨k1, k2⟩ => ⟨⟨_, _, k1, .inr (.inl ⟨rfl, fun h => by have := h.2.2; omega, rfl⟩)⟩, k2⟩
    · exact (value32_high b w hb h1).mono fun _ _ ⟨k1, k2⟩ => ⟨⟨_, _, k1, .inr (.inl ⟨rfl, fun h => by have := h.1; omega, rfl⟩)⟩, k2⟩
  · by_cases h2 : b = 9223372036854775808
    · subst h2
      exact (value64_sign w).mono fun _ _ ⟨k1, k2⟩ => ⟨⟨_, _, k1, .inr (.inl ⟨rfl, fun h => h.2.1 rfl, rfl⟩)⟩, k2⟩
    · rcases Nat.lt_or_ge (b % 9223372036854775808 / 4503599627370496) 2047 with h3 | h3
      · exact (value64_num b w hb h2 h3 hT).mono fun _ _ ⟨k1, k2⟩ => ⟨vres_of ⟨hb, h2, h3⟩ rfl k1, k2⟩
      · exact (value64_none b w hb h2 h3).mono fun _ _ ⟨k1, k2⟩ => ⟨⟨_, _, k1, .inr (.inl ⟨rfl, fun h => by have := h.2.2; omega, rfl⟩)⟩, k2⟩
theorem bits_any3 {size : Int} {S H E mant least : Nat} (F : Form3 size S H E mant least) (v : Value) (x : Rat) (w : World) (h : RatN w v x) (hx : 0 < x.num.natAbs) :
    Calls Tryd.prog 17 #[v, .int .i64 size] w fun e w' => BitsPost x mant least (E * H) S e ∧ Below w.heap.size w w' := by
  rcases F with ⟨rfl, rfl, rfl, rfl, rfl, rfl⟩ | ⟨rfl, rfl, rfl, rfl, rfl, rfl⟩
  · exact bits32_num v x w h hx
  · exact bits64_num v x w h hx
theorem Form3.size {size : Int} {S H E mant least : Nat} (F : Form3 size S H E mant least) : size = 32 ∨ size = 64 := by
  rcases F with ⟨h, -⟩ | ⟨h, -⟩
  · exact .inl h
  · exact .inr h
theorem fval_zero (neg : Bool) (mant least : Nat) : fval neg 0 mant least = 0 := by
  unfold fval
  have : fman 0 mant = 0 := by unfold fman; simp
  rw [this, Nat.zero_mul, frac_zero]
theorem fman_pos {b mant : Nat} (hb : 0 < b) : 0 < fman b mant := by
  unfold fman
  have hp : 0 < 2 ^ (mant - 1) := Nat.pow_pos (by decide)
  split
  · rename_i h
    rw [Nat.mod_eq_of_lt ((Nat.div_eq_zero_iff_lt hp).1 h)]
    omega
  · omega
theorem fval_num (neg : Bool) {b mant least : Nat} (hb : 0 < b) : 0 < (fval neg b mant least).num.natAbs ∧ decide ((fval neg b mant least).num < 0) = neg := by
  have hN : 0 < fman b mant * up (fexp b mant least) := Nat.mul_pos (fman_pos hb) (up_pos _)
  have hD := up_pos (-(fexp b mant least))
  have hg : 0 < Nat.gcd (fman b mant * up (fexp b mant least)) (up (-(fexp b mant least))) := Nat.gcd_pos_of_pos_right _ hD
  have hq : 0 < fman b mant * up (fexp b mant least) / Nat.gcd (fman b mant * up (fexp b mant least)) (up (-(fexp b mant least))) := Nat.div_pos (Nat.le_of_dvd hN (Nat.gcd_dvd_left _ _)) hg
  unfold fval
  rw [frac_abs neg hD, frac_neg neg hD, decide_eq_true hq, Bool.and_true]
  exact ⟨hq, rfl⟩
/-- The bits of the number of bits. -/
theorem fval_of {neg : Bool} {b mant least : Nat} {L : Int} (hm : 0 < mant) (l : IsLog (fval neg b mant least).num.natAbs (fval neg b mant least).den L) :
    bitv (fval neg b mant least).num.natAbs (fval neg b mant least).den L mant least = b ∧ exactv (fval neg b mant least).num.natAbs (fval neg b mant least).den L mant least = true := by
  have hD := up_pos (-(fexp b mant least))
  have hr : (fval neg b mant least).num.natAbs * up (-(fexp b mant least)) = fman b mant * up (fexp b mant least) * (fval neg b mant least).den := frac_ratio neg hD
  have l2 := log_ratio hr (den_pos _) hD l
  obtain ⟨h1, h2⟩ := fval_bits hm l2
  exact ⟨by rw [bitv_ratio hm hr (den_pos _) hD l, h1], exact_ratio hr.symm hD (den_pos _) h2⟩
theorem bits_fval {size : Int} {S H E mant least : Nat} (F : Form3 size S H E mant least) (b : Nat) (v : Value) (w : World) (hs : (Lit.int .i64 size).wf = true) (hb : validb S H E b) (h : RatN w v (fval (decide (S ≤ b)) (b % S) mant least)) :
    Calls Tryd.prog 17 #[v, .int .i64 size] w fun e w' => e = .returned (.tuple #[.int .u64 b, .bool true, .int .i64 0]) ∧ Below w.heap.size w w' := by
  obtain ⟨hm, hH, hEH, hH0, hS0, hS2, hE0⟩ := F.facts
  obtain ⟨h1, h2, h3⟩ := hb
  have hdm := Nat.div_add_mod b S
  by_cases h0 : b % S = 0
  · have hb0 : b = 0 := by
      rw [h0, Nat.add_zero] at hdm
      have h4 : b / S < 2 := (Nat.div_lt_iff_lt_mul hS0).2 h1
      have h5 : b / S = 0 ∨ b / S = 1 := by generalize b / S = q at h4 ⊢; omega
      rcases h5 with h5 | h5
      · rw [h5, Nat.mul_zero] at hdm; exact hdm.symm
      · rw [h5, Nat.mul_one] at hdm; exact absurd hdm.symm h2
    subst hb0
    rw [h0, fval_zero] at h
    exact bits_zero v size w hs F.size h
  · obtain ⟨p1, p2⟩ := fval_num (decide (S ≤ b)) (b := b % S) (mant := mant) (least := least) (by omega)
    refine (bits_any3 F v _ w h p1).mono ?_
    rintro e w' ⟨⟨L, hL, hk⟩, hq⟩
    refine ⟨?_, hq⟩
    obtain ⟨q1, q2⟩ := fval_of hm hL
    rw [q1, q2, p2] at hk
    have htop : b % S < E * H := (Nat.div_lt_iff_lt_mul hH0).1 h3
    rcases hk with ⟨_, hk⟩ | ⟨hk, _⟩
    · rw [hk]
      refine ret3_same ?_
      by_cases hsb : S ≤ b
      · rw [if_pos ⟨decide_eq_true hsb, h0⟩]
        have : b % S = b - S := by rw [Nat.mod_eq_sub_mod hsb, Nat.mod_eq_of_lt (by omega)]
        omega
      · rw [if_neg (fun h => hsb (of_decide_eq_true h.1)), Nat.mod_eq_of_lt (by omega)]
        omega
    · omega
theorem bits_back {size : Int} {S H E mant least : Nat} (F : Form3 size S H E mant least) (v : Value) (x : Rat) (w : World) (hs : (Lit.int .i64 size).wf = true) (h : RatN w v x) :
    Calls Tryd.prog 17 #[v, .int .i64 size] w fun e w' => (∃ (b : Nat) (ex : Bool) (k : Int), e = .returned (.tuple #[.int .u64 b, .bool ex, .int .i64 k]) ∧ ((k = 2 ∧ b = 0) ∨ (k = 0 ∧ validb S H E b ∧ ex = decide (fval (decide (S ≤ b)) (b % S) mant least = x)))) ∧ Below w.heap.size w w' := by
  obtain ⟨hm, hH, hEH, hH0, hS0, hS2, hE0⟩ := F.facts
  by_cases hx : x.num.natAbs = 0
  · obtain rfl : x = 0 := Rat.num_eq_zero.1 (by omega)
    refine (bits_zero v size w hs F.size h).mono ?_
    rintro e w' ⟨he, hq⟩
    refine ⟨⟨0, true, 0, he, .inr ⟨rfl, ⟨by omega, by omega, by simp; omega⟩, ?_⟩⟩, hq⟩
    rw [Nat.zero_mod, fval_zero, decide_eq_true rfl]
  · refine (bits_any3 F v x w h (by omega)).mono ?_
    rintro e w' ⟨⟨L, hL, hk⟩, hq⟩
    refine ⟨?_, hq⟩
    have hd := den_pos x
    rcases hk with ⟨htop, hk⟩ | ⟨_, hk⟩
    · generalize hB : bitv x.num.natAbs x.den L mant least = m at *
      have hmS : m < S := by omega
      refine ⟨m + (if x.num < 0 ∧ m ≠ 0 then S else 0), exactv x.num.natAbs x.den L mant least, 0, ?_, .inr ⟨rfl, ?_⟩⟩
      · rw [hk]
        refine ret3_same ?_
        by_cases h1 : x.num < 0 ∧ m ≠ 0
        · rw [if_pos h1, if_pos ⟨decide_eq_true h1.1, h1.2⟩]
          omega
        · rw [if_neg h1, if_neg (fun h => h1 ⟨of_decide_eq_true h.1, h.2⟩)]
          omega
      · have e1 : (m + (if x.num < 0 ∧ m ≠ 0 then S else 0)) % S = m := by
          split
          · rw [Nat.add_mod_right, Nat.mod_eq_of_lt hmS]
          · rw [Nat.add_zero, Nat.mod_eq_of_lt hmS]
        have e2 : (S ≤ m + (if x.num < 0 ∧ m ≠ 0 then S else 0)) ↔ (x.num < 0 ∧ m ≠ 0) := by
          split
          · rename_i h1
            exact ⟨fun _ => h1, fun _ => by omega⟩
          · rename_i h1
            exact ⟨fun _ => by omega, fun h => absurd h h1⟩
        rw [e1]
        refine ⟨⟨by split <;> omega, ?_, by rw [e1]; exact (Nat.div_lt_iff_lt_mul hH0).2 htop⟩, ?_⟩
        · split
          · rename_i h1
            have := h1.2
            omega
          · omega
        · rw [show decide (S ≤ m + (if x.num < 0 ∧ m ≠ 0 then S else 0)) = decide (x.num < 0 ∧ m ≠ 0) from decide_eq_decide.2 e2, Bool.eq_iff_iff, decide_eq_true_iff]
          constructor
          · intro hex
            have h1 := exact_fval hm hd hL hex
            rw [hB] at h1
            have h2 := frac_same (decide (x.num < 0)) (up_pos (-(fexp m mant least))) hd (N1 := fman m mant * up (fexp m mant least)) (N2 := x.num.natAbs) h1.symm
            rw [frac_self] at h2
            have h3 : fval (decide (x.num < 0)) m mant least = x := h2
            by_cases hm0 : m = 0
            · rw [hm0, fval_zero] at h3
              rw [← h3] at hx
              exact absurd rfl hx
            · rw [show decide (x.num < 0 ∧ m ≠ 0) = decide (x.num < 0) by rw [decide_eq_decide]; exact ⟨And.left, fun h => ⟨h, hm0⟩⟩]
              exact h3
          · intro h1
            generalize decide (x.num < 0 ∧ m ≠ 0) = sg at h1
            rw [← h1] at hL ⊢
            exact (fval_of hm hL).2
    · exact ⟨0, false, 2, hk, .inl ⟨rfl, rfl⟩⟩
/-- A block of the call's own that a number is put into. -/
theorem held (W : World) (s : Bool) (o1 o2 : Option Addr) (n1 n2 c1 c2 : Nat) (t : TypeId) : ∃ V, V = ((((W.alloc (.cells #[.bool false, .slice none 0 0, .slice none 0 0] t)).setCell ⟨W.heap.size, 0, none⟩ (.bool s)).setCell ⟨W.heap.size, 1, none⟩ (.slice o1 n1 c1)).setCell ⟨W.heap.size, 2, none⟩ (.slice o2 n2 c2)) ∧
    BlockAt V W.heap.size #[.bool s, .slice o1 n1 c1, .slice o2 n2 c2] t ∧ Below W.heap.size W V := by
  refine ⟨_, rfl, ?_, ?_⟩
  · have h := BlockAt.new W #[.bool false, .slice none 0 0, .slice none 0 0] t
    exact ((h.set 0 _).set 1 _).set 2 _
  · have h : Below W.heap.size W (W.alloc (.cells #[.bool false, .slice none 0 0, .slice none 0 0] t)) := (Below.refl _ _).alloc (Nat.le_refl _) _
    exact ((h.setCell (p := ⟨W.heap.size, 0, none⟩) (Nat.le_refl _) _).setCell (p := ⟨W.heap.size, 1, none⟩) (Nat.le_refl _) _).setCell (p := ⟨W.heap.size, 2, none⟩) (Nat.le_refl _) _
end Go.Proofs.YtlkadnaoacoicaaDoor
