/- What the reference's Nearest meets: fractions of bits, how they compare, what is left. -/
import Derived.Test.YtlkadnaoacoicaaRoundNear
import Derived.Test.YtlkadnaoacoicaaRefFrac
import Derived.Test.YtlkadnaoacoicaaRefCmp
import Derived.Test.YtlkadnaoacoicaaRB
namespace Go.Proofs.Ytlkadnaoacoicaa
open Go.RowKit NM

/-- The two sizes: the sign's bit, the hidden bit, the exponent of none, the bits of a mantissa, the least exponent. -/
def Form3 (size : Int) (S H E mant least : Nat) : Prop :=
  (size = 32 ∧ S = 2147483648 ∧ H = 8388608 ∧ E = 255 ∧ mant = 24 ∧ least = 149) ∨ (size = 64 ∧ S = 9223372036854775808 ∧ H = 4503599627370496 ∧ E = 2047 ∧ mant = 53 ∧ least = 1074)
theorem Form3.facts {size : Int} {S H E mant least : Nat} (F : Form3 size S H E mant least) : 0 < mant ∧ H = 2 ^ (mant - 1) ∧ E * H ≤ S ∧ 0 < H ∧ 0 < S ∧ 2 * S ≤ 18446744073709551616 ∧ 0 < E := by
  rcases F with ⟨-, rfl, rfl, rfl, rfl, rfl⟩ | ⟨-, rfl, rfl, rfl, rfl, rfl⟩ <;> decide
theorem Form3.size {size : Int} {S H E mant least : Nat} (F : Form3 size S H E mant least) : size = 32 ∨ size = 64 := by
  rcases F with ⟨h, -⟩ | ⟨h, -⟩
  · exact .inl h
  · exact .inr h
theorem fman_pos {b mant : Nat} (hb : 0 < b) : 0 < fman b mant := by
  unfold fman
  have hp : 0 < 2 ^ (mant - 1) := Nat.pow_pos (by decide)
  split
  · rename_i h
    rw [Nat.mod_eq_of_lt ((Nat.div_eq_zero_iff_lt hp).1 h)]
    omega
  · omega
/-- The fraction of bits, as text. -/
def sN (b mant least : Nat) : ByteArray := numStr (vn b mant least : Nat)
def sD (b mant least : Nat) : ByteArray := numStr (vd b mant least : Nat)
theorem fr_any {size : Int} {S H E mant least : Nat} (F : Form3 size S H E mant least) {b : Nat} (hb : b ≤ E * H) (w : World) :
    Calls Try.prog 24 #[.int .u64 b, .int .i64 size] w fun e w' => e = .returned (.agg #[.string (sN b mant least), .string (sD b mant least)]) ∧ Below w.heap.size w w' := by
  rcases F with ⟨rfl, rfl, rfl, rfl, rfl, rfl⟩ | ⟨rfl, rfl, rfl, rfl, rfl, rfl⟩
  · exact frac32_any b w (by omega) (by omega)
  · exact frac64_any b w (by omega) (by omega)
theorem two_lt {a b : Nat} (h : a < b) : (2 : Nat) ^ a < 2 ^ b := Nat.pow_lt_pow_right (by decide) h
def KN : Nat := 512
def K0 : Nat := 1100
def K1 : Nat := 1620
def K2 : Nat := 3240
theorem mul_less {A B a b c : Nat} (hA : A < 2 ^ a) (hB : B < 2 ^ b) (h : a + b ≤ c) : A * B < 2 ^ c := by
  have h1 : A * B < 2 ^ a * 2 ^ b := Nat.mul_lt_mul_of_lt_of_lt hA hB
  rw [← Nat.pow_add] at h1
  exact Nat.lt_of_lt_of_le h1 (Nat.pow_le_pow_right (by decide) h)
theorem v_bounds {size : Int} {S H E mant least : Nat} (F : Form3 size S H E mant least) {b : Nat} (hb : b ≤ E * H) : vn b mant least < 2 ^ K0 ∧ vd b mant least < 2 ^ K0 := by
  have hm := F.facts.1
  have h1 := fval_man (b := b) hm
  have hq : b / 2 ^ (mant - 1) ≤ E := by
    rw [← F.facts.2.1]
    exact Nat.div_le_of_le_mul (by rw [Nat.mul_comm]; exact hb)
  have he : fexp b mant least ≤ 1000 ∧ -1090 ≤ fexp b mant least ∧ mant ≤ 53 := by
    unfold fexp
    generalize b / 2 ^ (mant - 1) = y at *
    rcases F with ⟨rfl, rfl, rfl, rfl, rfl, rfl⟩ | ⟨rfl, rfl, rfl, rfl, rfl, rfl⟩ <;> (split <;> omega)
  have h2 : 2 ^ mant ≤ 2 ^ 53 := Nat.pow_le_pow_right (by decide) he.2.2
  unfold vn vd up
  constructor
  · have h5 : (fexp b mant least).toNat < 1001 := by omega
    have h6 := two_lt h5
    exact mul_less (a := 54) (b := 1001) (c := K0) (Nat.lt_of_lt_of_le h1 (Nat.le_trans h2 (Nat.pow_le_pow_right (by decide) (by decide)))) h6 (by decide)
  · have h7 : (-(fexp b mant least)).toNat < K0 := by unfold K0; omega
    exact two_lt h7
theorem nat_big {A : Nat} {n : Nat} (h : A < 2 ^ n) (hn : n ≤ 3300) : (A : Int) < big := by
  have h1 := pow_ltbig hn
  have h2 : ((A : Nat) : Int) < ((2 ^ n : Nat) : Int) := Int.ofNat_lt.2 h
  rw [pow_nat] at h2
  omega
theorem mul_nat {A B : Nat} (hA : A < 2 ^ K1) (hB : B < 2 ^ K1) (w : World) :
    Calls Try.prog 39 #[.string (numStr (A : Int)), .string (numStr (B : Int))] w fun e w' => e = .returned (.string (numStr ((A * B : Nat) : Int))) ∧ Below w.heap.size w w' := by
  have h1 := mul_less hA hB (c := K2) (by decide)
  have h2 : 10 * ((2 : Int) ^ K2) + 10 * 2 ^ K1 < big := by unfold K1 K2 big; decide +kernel
  have h3 : ((A * B : Nat) : Int) < ((2 ^ K2 : Nat) : Int) := Int.ofNat_lt.2 h1
  have h4 : ((A : Nat) : Int) < ((2 ^ K1 : Nat) : Int) := Int.ofNat_lt.2 hA
  rw [pow_nat] at h3 h4
  have h := refmul_big (A : Int) (B : Int) w (by omega) (by omega) (nat_big hA (by decide)) (nat_big hB (by decide)) (by rw [← Int.natCast_mul]; omega)
  rw [← Int.natCast_mul] at h
  exact h
theorem cmp_nat {A B : Nat} (hA : A < 2 ^ K2) (hB : B < 2 ^ K2) (w : World) :
    Calls Try.prog 38 #[.string (numStr (A : Int)), .string (numStr (B : Int))] w fun e w' => e = .returned (.int .i64 (sgn (A : Int) (B : Int))) ∧ w = w' :=
  cmp_fun (A : Int) (B : Int) w (by omega) (by omega) (nat_big hA (by decide)) (nat_big hB (by decide))
theorem sub_nat {A B : Nat} (hA : A < 2 ^ K2) (hB : B ≤ A) (w : World) :
    Calls Try.prog 43 #[.string (numStr (A : Int)), .string (numStr (B : Int))] w fun e w' => e = .returned (.string (numStr ((A - B : Nat) : Int))) ∧ Below w.heap.size w w' := by
  have h := refsub_fun (A : Int) (B : Int) w (by omega) (nat_big hA (by decide)) (by omega)
  rw [show (A : Int) - (B : Int) = ((A - B : Nat) : Int) by omega] at h
  exact h
/-- Two fractions, compared. -/
theorem cmp_frac {a b c d : Nat} (ha : a < 2 ^ K1) (hb : b < 2 ^ K1) (hc : c < 2 ^ K1) (hd : d < 2 ^ K1) (w : World) :
    Calls Try.prog 23 #[.agg #[.string (numStr (a : Int)), .string (numStr (b : Int))], .agg #[.string (numStr (c : Int)), .string (numStr (d : Int))]] w fun e w' => e = .returned (.int .i64 (sgn ((a * d : Nat) : Int) ((c * b : Nat) : Int))) ∧ Below w.heap.size w w' :=
  fcmp _ _ _ _ _ _ _ w (fun w => mul_nat ha hd w) (fun w => mul_nat hc hb w) (fun w => cmp_nat (mul_less ha hd (by decide)) (mul_less hc hb (by decide)) w)
theorem less_frac {a b c d : Nat} (ha : a < 2 ^ K1) (hb : b < 2 ^ K1) (hc : c < 2 ^ K1) (hd : d < 2 ^ K1) (h : c * b ≤ a * d) (w : World) :
    Calls Try.prog 25 #[.agg #[.string (numStr (a : Int)), .string (numStr (b : Int))], .agg #[.string (numStr (c : Int)), .string (numStr (d : Int))]] w fun e w' => e = .returned (.agg #[.string (numStr ((a * d - c * b : Nat) : Int)), .string (numStr ((b * d : Nat) : Int))]) ∧ Below w.heap.size w w' :=
  fless _ _ _ _ _ _ _ _ w (fun w => mul_nat ha hd w) (fun w => mul_nat hc hb w) (fun w => sub_nat (mul_less ha hd (by decide)) h w) (fun w => mul_nat hb hd w)
theorem sgn_gt {A B : Int} (h : B < A) : sgn A B = 1 := by unfold sgn; rw [if_neg (by omega), if_pos h]
theorem sgn_eq {A B : Int} (h : A = B) : sgn A B = 0 := by unfold sgn; rw [if_neg (by omega), if_neg (by omega)]
theorem str_zero (n : Nat) : (numStr (n : Int) = ⟨#[48]⟩) ↔ n = 0 := by
  constructor
  · intro h
    by_cases h0 : n = 0
    · exact h0
    · exfalso
      have e0 : numStr 0 = ⟨#[48]⟩ := by decide +kernel
      have := numStr_inj (by omega) (by omega) (h.trans e0.symm)
      omega
  · rintro rfl
    decide +kernel
/-- What Nearest answers: the top; or the place where the search ends, or the next one. -/
def NearPost (N D E H mant least : Nat) (e : Ending) : Prop :=
  (vn (E * H) mant least * D ≤ N * vd (E * H) mant least ∧ e = .returned (.agg #[.int .u64 ((E * H : Nat) : Int), .bool false])) ∨
  (∃ lo, lo < E * H ∧ NearEnds N D mant least lo ∧ ((nearer N D mant least lo = 1 ∧ e = .returned (.agg #[.int .u64 ((lo + 1 : Nat) : Int), .bool false])) ∨
    (nearer N D mant least lo = 0 ∧ e = .returned (.agg #[.int .u64 (lo : Int), .bool (decide (N * vd lo mant least - vn lo mant least * D = 0))]))))
end Go.Proofs.Ytlkadnaoacoicaa
