/- Value: the number of a floating number's bits. -/
import Derived.Test.YtlkadnaoacoicaaDoorRoundValue
import Derived.Deep.RegionHeld3
import Derived.IntWalk
import Derived.WalkSmall
namespace Go.Proofs.YtlkadnaoacoicaaDoor
open Go.RowKit NM

theorem sign_and (k b : Nat) (hb : b < 2 ^ (k + 1)) : b &&& 2 ^ k = if 2 ^ k ≤ b then 2 ^ k else 0 := by
  have hp : 0 < 2 ^ k := Nat.pow_pos (by decide)
  rw [Nat.pow_succ] at hb
  apply Nat.eq_of_testBit_eq
  intro i
  rw [Nat.testBit_and, Nat.testBit_two_pow]
  by_cases hi : k = i
  · subst hi
    rw [decide_eq_true rfl, Bool.and_true, Nat.testBit_eq_decide_div_mod_eq]
    split
    · rename_i h
      have : b / 2 ^ k = 1 := by
        rw [Nat.div_eq_iff hp]
        omega
      rw [this, Nat.testBit_two_pow]
      simp
    · rename_i h
      rw [Nat.div_eq_of_lt (by omega)]
      simp
  · rw [decide_eq_false hi, Bool.and_false]
    split
    · rw [Nat.testBit_two_pow, decide_eq_false hi]
    · simp
theorem rest_and (k b M : Nat) (hb : b < 2 ^ (k + 1)) (hM : M % 2 ^ (k + 1) = 2 ^ k - 1) : b &&& M = b % 2 ^ k := by
  have h1 : b &&& M < 2 ^ (k + 1) := Nat.lt_of_le_of_lt Nat.and_le_left hb
  rw [← Nat.mod_eq_of_lt h1, Nat.and_mod_two_pow, hM, Nat.mod_eq_of_lt hb, Nat.and_two_pow_sub_one_eq_mod]
theorem and_not64 (b s : Nat) (hb : b < 18446744073709551616) (hs : s < 18446744073709551616) : bits .andNot .u64 (b : Int) (s : Int) = ((b &&& (18446744073709551615 - s) : Nat) : Int) := by
  have hx : b &&& (18446744073709551615 - s) < 18446744073709551616 := Nat.lt_of_le_of_lt Nat.and_le_left hb
  have h1 : (BitVec.ofInt 64 (b : Int)).toNat = b := by
    rw [BitVec.ofInt_natCast, BitVec.toNat_ofNat]; exact Nat.mod_eq_of_lt (by omega)
  have h2 : (BitVec.ofInt 64 (s : Int)).toNat = s := by
    rw [BitVec.ofInt_natCast, BitVec.toNat_ofNat]; exact Nat.mod_eq_of_lt (by omega)
  show IntKind.u64.wrap ((BitVec.ofInt 64 (b : Int) &&& ~~~ BitVec.ofInt 64 (s : Int)).toNat : Int) = _
  have e : 2 ^ 64 - 1 - s = 18446744073709551615 - s := rfl
  rw [BitVec.toNat_and, BitVec.toNat_not, h1, h2, e, IntKind.wrap_u64]
  omega
theorem sign31 (b : Nat) (hb : b < 4294967296) : bits .and .u64 (b : Int) 2147483648 = if 2147483648 ≤ b then 2147483648 else 0 := by
  have h := bits_and_u64_nat b 2147483648 (by omega) (by decide)
  have h2 : b &&& 2147483648 = if 2147483648 ≤ b then 2147483648 else 0 := sign_and 31 b hb
  rw [h2] at h
  rw [show (2147483648 : Int) = ((2147483648 : Nat) : Int) from rfl, h]
  split <;> rfl
theorem sign63 (b : Nat) (hb : b < 18446744073709551616) : bits .and .u64 (b : Int) 9223372036854775808 = if 9223372036854775808 ≤ b then 9223372036854775808 else 0 := by
  have h := bits_and_u64_nat b 9223372036854775808 (by omega) (by decide)
  have h2 : b &&& 9223372036854775808 = if 9223372036854775808 ≤ b then 9223372036854775808 else 0 := sign_and 63 b hb
  rw [h2] at h
  rw [show (9223372036854775808 : Int) = ((9223372036854775808 : Nat) : Int) from rfl, h]
  split <;> rfl
theorem mag31 (b : Nat) (hb : b < 4294967296) : bits .andNot .u64 (b : Int) 2147483648 = ((b % 2147483648 : Nat) : Int) := by
  have h := and_not64 b 2147483648 (by omega) (by decide)
  have h2 : b &&& (18446744073709551615 - 2147483648) = b % 2147483648 := rest_and 31 b _ hb (by decide)
  rw [h2] at h
  exact h
theorem mag63 (b : Nat) (hb : b < 18446744073709551616) : bits .andNot .u64 (b : Int) 9223372036854775808 = ((b % 9223372036854775808 : Nat) : Int) := by
  have h := and_not64 b 9223372036854775808 (by omega) (by decide)
  have h2 : b &&& (18446744073709551615 - 9223372036854775808) = b % 9223372036854775808 := rest_and 63 b _ hb (by decide)
  rw [h2] at h
  exact h
theorem fexp_range (b mant least : Nat) (h : b / 2 ^ (mant - 1) ≤ least + 1000) (hl : least ≤ 1074) : -2000 ≤ fexp b mant least ∧ fexp b mant least ≤ 2000 := by
  unfold fexp
  generalize b / 2 ^ (mant - 1) = x at *
  split <;> omega
set_option maxHeartbeats 1600000 in
set_option maxRecDepth 100000 in
theorem value32_high (b : Nat) (w : World) (hb : b < 18446744073709551616) (h : 4294967296 ≤ b) :
    Calls Tryd.prog 5 #[.int .u64 b, .int .i64 32] w fun e w' => e = .returned (.tuple #[.agg #[.bool false, .slice none 0 0, .slice none 0 0], .int .i64 1]) ∧ Below w.heap.size w w' := by
  obtain ⟨a, ha⟩ : ∃ a, bits .and .u64 (b : Int) 2147483648 = a := ⟨_, rfl⟩
  have hd : (((b : Int) / 2147483648 / 2 == 0)) = false := by rw [beq_eq_false_iff_ne]; omega
  have B : Below w.heap.size w (w.alloc (.cells #[.bool false, .slice none 0 0, .slice none 0 0] 26)) := (Below.refl _ _).alloc (Nat.le_refl _) _
  have hr := BlockAt.new w #[.bool false, .slice none 0 0, .slice none 0 0] 26
  have hf := form_any 32 (w.alloc (.cells #[.bool false, .slice none 0 0, .slice none 0 0] 26)) (by decide)
  have hfv : formV 32 = (24, 149, 104, true) := rfl
  rw [hfv] at hf
  have HF := Lib.hid hf
  clear hf hfv
  go_enter Tryd.func5, Tryd.ntmps5
  go_wp2_with fail
  refine HF.out.mono ?_
  rintro e W1 ⟨rfl, bq⟩
  have hr := hr.below bq
  have B := B.trans (bq.mono B.size)
  clear bq HF
  have b4 : Below W1.heap.size W1 (W1.alloc (.cells #[.int .i64 24, .int .i64 149, .int .i64 104] 53)) := (Below.refl _ _).alloc (Nat.le_refl _) _
  have hr := hr.below b4
  have B := B.trans (b4.mono B.size)
  obtain ⟨c0, c1, c2⟩ := block3 (BlockAt.new W1 #[.int .i64 24, .int .i64 149, .int .i64 104] 53)
  clear b4
  have f0 := hr.free 0
  have f1 := hr.free 1
  have f2 := hr.free 2
  have g0 := hr.cell 0
  have g1 := hr.cell 1
  have g2 := hr.cell 2
  simp at g0 g1 g2
  go_wp2_with fail
  refine bodyPost_ret (v := .tuple #[.agg #[.bool false, .slice none 0 0, .slice none 0 0], .int .i64 1]) (by simp [results, Tryd.results5, go_sem, g0, g1, g2]) rfl ⟨rfl, ?_⟩
  exact ((B.setCell (by simp) _).setCell (by simp) _).setCell (by simp) _
set_option maxHeartbeats 1600000 in
set_option maxRecDepth 100000 in
theorem value32_sign (w : World)  :
    Calls Tryd.prog 5 #[.int .u64 2147483648, .int .i64 32] w fun e w' => e = .returned (.tuple #[.agg #[.bool false, .slice none 0 0, .slice none 0 0], .int .i64 1]) ∧ Below w.heap.size w w' := by
  have ha : bits .and .u64 2147483648 2147483648 = 2147483648 := by decide +kernel
  have B : Below w.heap.size w (w.alloc (.cells #[.bool false, .slice none 0 0, .slice none 0 0] 26)) := (Below.refl _ _).alloc (Nat.le_refl _) _
  have hr := BlockAt.new w #[.bool false, .slice none 0 0, .slice none 0 0] 26
  have hf := form_any 32 (w.alloc (.cells #[.bool false, .slice none 0 0, .slice none 0 0] 26)) (by decide)
  have hfv : formV 32 = (24, 149, 104, true) := rfl
  rw [hfv] at hf
  have HF := Lib.hid hf
  clear hf hfv
  go_enter Tryd.func5, Tryd.ntmps5
  go_wp2_with fail
  refine HF.out.mono ?_
  rintro e W1 ⟨rfl, bq⟩
  have hr := hr.below bq
  have B := B.trans (bq.mono B.size)
  clear bq HF
  have b4 : Below W1.heap.size W1 (W1.alloc (.cells #[.int .i64 24, .int .i64 149, .int .i64 104] 53)) := (Below.refl _ _).alloc (Nat.le_refl _) _
  have hr := hr.below b4
  have B := B.trans (b4.mono B.size)
  obtain ⟨c0, c1, c2⟩ := block3 (BlockAt.new W1 #[.int .i64 24, .int .i64 149, .int .i64 104] 53)
  clear b4
  have f0 := hr.free 0
  have f1 := hr.free 1
  have f2 := hr.free 2
  have g0 := hr.cell 0
  have g1 := hr.cell 1
  have g2 := hr.cell 2
  simp at g0 g1 g2
  go_wp2_with fail
  refine bodyPost_ret (v := .tuple #[.agg #[.bool false, .slice none 0 0, .slice none 0 0], .int .i64 1]) (by simp [results, Tryd.results5, go_sem, g0, g1, g2]) rfl ⟨rfl, ?_⟩
  exact ((B.setCell (by simp) _).setCell (by simp) _).setCell (by simp) _
set_option maxHeartbeats 1600000 in
set_option maxRecDepth 100000 in
theorem value32_none (b : Nat) (w : World) (hb : b < 4294967296) (h : b ≠ 2147483648) (hE : 255 ≤ b % 2147483648 / 8388608) :
    Calls Tryd.prog 5 #[.int .u64 b, .int .i64 32] w fun e w' => e = .returned (.tuple #[.agg #[.bool false, .slice none 0 0, .slice none 0 0], .int .i64 1]) ∧ Below w.heap.size w w' := by
  have ha := sign31 b hb
  have hm := mag31 b hb
  have hmb : b % 2147483648 < 2147483648 := Nat.mod_lt _ (by decide)
  generalize b % 2147483648 = r at *
  have hq : ((b : Int) == 2147483648) = false := by rw [beq_eq_false_iff_ne]; omega
  obtain ⟨s, hsd⟩ : ∃ s, decide (2147483648 ≤ b) = s := ⟨_, rfl⟩
  obtain ⟨A, hA⟩ : ∃ A : Int, (if 2147483648 ≤ b then (2147483648 : Int) else 0) = A := ⟨_, rfl⟩
  rw [hA] at ha
  have hsb : (A != 0) = s := by
    rw [← hA, ← hsd, Bool.eq_iff_iff, bne_iff_ne, decide_eq_true_iff]
    split <;> omega
  have hd : ((b : Int) / 2147483648 / 2 == 0) = true := by rw [beq_iff_eq]; omega
  have HS := Lib.hid (fun (W : World) => split32 (r) W hmb)
  have hE2 : decide (r / 8388608 < 255) = false := decide_eq_false (by omega)
  clear hmb hsd hE hA
  have B : Below w.heap.size w (w.alloc (.cells #[.bool false, .slice none 0 0, .slice none 0 0] 26)) := (Below.refl _ _).alloc (Nat.le_refl _) _
  have hr := BlockAt.new w #[.bool false, .slice none 0 0, .slice none 0 0] 26
  have hf := form_any 32 (w.alloc (.cells #[.bool false, .slice none 0 0, .slice none 0 0] 26)) (by decide)
  have hfv : formV 32 = (24, 149, 104, true) := rfl
  rw [hfv] at hf
  have HF := Lib.hid hf
  clear hf hfv
  go_enter Tryd.func5, Tryd.ntmps5
  go_wp2_with fail
  refine HF.out.mono ?_
  rintro e W1 ⟨rfl, bq⟩
  have hr := hr.below bq
  have B := B.trans (bq.mono B.size)
  clear bq HF
  have b4 : Below W1.heap.size W1 (W1.alloc (.cells #[.int .i64 24, .int .i64 149, .int .i64 104] 53)) := (Below.refl _ _).alloc (Nat.le_refl _) _
  have hr := hr.below b4
  have B := B.trans (b4.mono B.size)
  obtain ⟨c0, c1, c2⟩ := block3 (BlockAt.new W1 #[.int .i64 24, .int .i64 149, .int .i64 104] 53)
  clear b4
  go_wp2_with fail
  refine (HS.out _).mono ?_
  rintro e W2 ⟨rfl, bq⟩
  have hr := hr.below bq
  have B := B.trans (bq.mono B.size)
  clear bq HS c0 c1 c2
  have f0 := hr.free 0
  have f1 := hr.free 1
  have f2 := hr.free 2
  have g0 := hr.cell 0
  have g1 := hr.cell 1
  have g2 := hr.cell 2
  simp at g0 g1 g2
  go_wp2_with fail
  refine bodyPost_ret (v := .tuple #[.agg #[.bool false, .slice none 0 0, .slice none 0 0], .int .i64 1]) (by simp [results, Tryd.results5, go_sem, g0, g1, g2]) rfl ⟨rfl, ?_⟩
  exact ((B.setCell (by simp) _).setCell (by simp) _).setCell (by simp) _
set_option maxHeartbeats 1600000 in
set_option maxRecDepth 100000 in
theorem value32_num (b : Nat) (w : World) (hb : b < 4294967296) (h : b ≠ 2147483648) (hE : b % 2147483648 / 8388608 < 255) (hT : Tab64 w) :
    Calls Tryd.prog 5 #[.int .u64 b, .int .i64 32] w fun e w' => ValPost (fval (decide (2147483648 ≤ b)) (b % 2147483648) 24 149) e w' ∧ Below w.heap.size w w' := by
  have ha := sign31 b hb
  have hm := mag31 b hb
  have hmb : b % 2147483648 < 2147483648 := Nat.mod_lt _ (by decide)
  generalize b % 2147483648 = r at *
  have hq : ((b : Int) == 2147483648) = false := by rw [beq_eq_false_iff_ne]; omega
  obtain ⟨s, hsd⟩ : ∃ s, decide (2147483648 ≤ b) = s := ⟨_, rfl⟩
  obtain ⟨A, hA⟩ : ∃ A : Int, (if 2147483648 ≤ b then (2147483648 : Int) else 0) = A := ⟨_, rfl⟩
  rw [hA] at ha
  have hsb : (A != 0) = s := by
    rw [← hA, ← hsd, Bool.eq_iff_iff, bne_iff_ne, decide_eq_true_iff]
    split <;> omega
  have hd : ((b : Int) / 2147483648 / 2 == 0) = true := by rw [beq_iff_eq]; omega
  have HS := Lib.hid (fun (W : World) => split32 (r) W hmb)
  have hE2 : decide (r / 8388608 < 255) = true := decide_eq_true (by omega)
  have hrg := fexp_range (r) 24 149 (by show r / 8388608 ≤ 149 + 1000; omega) (by decide)
  have hmn : fman (r) 24 < 18446744073709551616 := Nat.lt_of_lt_of_le (fval_man (by decide)) (by decide)
  have HV := Lib.hid (fun (W : World) (B : Below w.heap.size w W) => value_any s (fman (r) 24) (fexp (r) 24 149) W hmn hrg.1 (by omega) (hT.below B))
  have hfv : fval (decide (2147483648 ≤ b)) (r) 24 149 = frac s (fman (r) 24 * up (fexp (r) 24 149)) (up (-(fexp (r) 24 149))) := by rw [hsd]; rfl
  rw [hfv]
  generalize frac s (fman (r) 24 * up (fexp (r) 24 149)) (up (-(fexp (r) 24 149))) = X at *
  clear hmb hsd hE hfv hT hrg hmn hA
  have B : Below w.heap.size w (w.alloc (.cells #[.bool false, .slice none 0 0, .slice none 0 0] 26)) := (Below.refl _ _).alloc (Nat.le_refl _) _
  have hr := BlockAt.new w #[.bool false, .slice none 0 0, .slice none 0 0] 26
  have hf := form_any 32 (w.alloc (.cells #[.bool false, .slice none 0 0, .slice none 0 0] 26)) (by decide)
  have hfv : formV 32 = (24, 149, 104, true) := rfl
  rw [hfv] at hf
  have HF := Lib.hid hf
  clear hf hfv
  go_enter Tryd.func5, Tryd.ntmps5
  go_wp2_with fail
  refine HF.out.mono ?_
  rintro e W1 ⟨rfl, bq⟩
  have hr := hr.below bq
  have B := B.trans (bq.mono B.size)
  clear bq HF
  have b4 : Below W1.heap.size W1 (W1.alloc (.cells #[.int .i64 24, .int .i64 149, .int .i64 104] 53)) := (Below.refl _ _).alloc (Nat.le_refl _) _
  have hr := hr.below b4
  have B := B.trans (b4.mono B.size)
  obtain ⟨c0, c1, c2⟩ := block3 (BlockAt.new W1 #[.int .i64 24, .int .i64 149, .int .i64 104] 53)
  clear b4
  go_wp2_with fail
  refine (HS.out _).mono ?_
  rintro e W2 ⟨rfl, bq⟩
  have hr := hr.below bq
  have B := B.trans (bq.mono B.size)
  clear bq HS c0 c1 c2
  generalize fman (r) 24 = M at *
  generalize fexp (r) 24 149 = P at *
  go_wp2_with fail
  refine (HV.out _ B).mono ?_
  rintro e W3 ⟨hv, bq⟩
  have hr := hr.below bq
  have B := B.trans (bq.mono B.size)
  clear HV bq
  have f0 := hr.free 0
  have f1 := hr.free 1
  have f2 := hr.free 2
  have g0 := hr.cell 0
  have g1 := hr.cell 1
  have g2 := hr.cell 2
  simp at g0 g1 g2
  rcases hv with ⟨r, rfl, hrat⟩ | ⟨rfl, hbig⟩
  · obtain ⟨s_, o1, m1, k1, o2, m2, k2, rfl⟩ := RawN.form hrat
    have Hr := Lib.hid hrat
    clear hrat
    go_wp2_with fail
    refine bodyPost_ret (v := .tuple #[.agg #[.bool s_, .slice o1 m1 k1, .slice o2 m2 k2], .int .i64 0]) (by simp [results, Tryd.results5, go_sem, g0, g1, g2]) rfl ⟨.inl ⟨_, rfl, RawN.set3 Hr.out hr⟩, ?_⟩
    exact ((B.setCell (by simp) _).setCell (by simp) _).setCell (by simp) _
  · have Hb := Lib.hid hbig
    clear hbig
    go_wp2_with fail
    refine bodyPost_ret (v := .tuple #[.agg #[.bool false, .slice none 0 0, .slice none 0 0], .int .i64 2]) (by simp [results, Tryd.results5, go_sem, g0, g1, g2]) rfl ⟨.inr ⟨rfl, Hb.out⟩, ?_⟩
    exact ((B.setCell (by simp) _).setCell (by simp) _).setCell (by simp) _
set_option maxHeartbeats 1600000 in
set_option maxRecDepth 100000 in
theorem value64_sign (w : World)  :
    Calls Tryd.prog 5 #[.int .u64 9223372036854775808, .int .i64 64] w fun e w' => e = .returned (.tuple #[.agg #[.bool false, .slice none 0 0, .slice none 0 0], .int .i64 1]) ∧ Below w.heap.size w w' := by
  have ha : bits .and .u64 9223372036854775808 9223372036854775808 = 9223372036854775808 := by decide +kernel
  have B : Below w.heap.size w (w.alloc (.cells #[.bool false, .slice none 0 0, .slice none 0 0] 26)) := (Below.refl _ _).alloc (Nat.le_refl _) _
  have hr := BlockAt.new w #[.bool false, .slice none 0 0, .slice none 0 0] 26
  have hf := form_any 64 (w.alloc (.cells #[.bool false, .slice none 0 0, .slice none 0 0] 26)) (by decide)
  have hfv : formV 64 = (53, 1074, 971, true) := rfl
  rw [hfv] at hf
  have HF := Lib.hid hf
  clear hf hfv
  go_enter Tryd.func5, Tryd.ntmps5
  go_wp2_with fail
  refine HF.out.mono ?_
  rintro e W1 ⟨rfl, bq⟩
  have hr := hr.below bq
  have B := B.trans (bq.mono B.size)
  clear bq HF
  have b4 : Below W1.heap.size W1 (W1.alloc (.cells #[.int .i64 53, .int .i64 1074, .int .i64 971] 53)) := (Below.refl _ _).alloc (Nat.le_refl _) _
  have hr := hr.below b4
  have B := B.trans (b4.mono B.size)
  obtain ⟨c0, c1, c2⟩ := block3 (BlockAt.new W1 #[.int .i64 53, .int .i64 1074, .int .i64 971] 53)
  clear b4
  have f0 := hr.free 0
  have f1 := hr.free 1
  have f2 := hr.free 2
  have g0 := hr.cell 0
  have g1 := hr.cell 1
  have g2 := hr.cell 2
  simp at g0 g1 g2
  go_wp2_with fail
  refine bodyPost_ret (v := .tuple #[.agg #[.bool false, .slice none 0 0, .slice none 0 0], .int .i64 1]) (by simp [results, Tryd.results5, go_sem, g0, g1, g2]) rfl ⟨rfl, ?_⟩
  exact ((B.setCell (by simp) _).setCell (by simp) _).setCell (by simp) _
set_option maxHeartbeats 1600000 in
set_option maxRecDepth 100000 in
theorem value64_none (b : Nat) (w : World) (hb : b < 18446744073709551616) (h : b ≠ 9223372036854775808) (hE : 2047 ≤ b % 9223372036854775808 / 4503599627370496) :
    Calls Tryd.prog 5 #[.int .u64 b, .int .i64 64] w fun e w' => e = .returned (.tuple #[.agg #[.bool false, .slice none 0 0, .slice none 0 0], .int .i64 1]) ∧ Below w.heap.size w w' := by
  have ha := sign63 b hb
  have hm := mag63 b hb
  have hmb : b % 9223372036854775808 < 9223372036854775808 := Nat.mod_lt _ (by decide)
  generalize b % 9223372036854775808 = r at *
  have hq : ((b : Int) == 9223372036854775808) = false := by rw [beq_eq_false_iff_ne]; omega
  obtain ⟨s, hsd⟩ : ∃ s, decide (9223372036854775808 ≤ b) = s := ⟨_, rfl⟩
  obtain ⟨A, hA⟩ : ∃ A : Int, (if 9223372036854775808 ≤ b then (9223372036854775808 : Int) else 0) = A := ⟨_, rfl⟩
  rw [hA] at ha
  have hsb : (A != 0) = s := by
    rw [← hA, ← hsd, Bool.eq_iff_iff, bne_iff_ne, decide_eq_true_iff]
    split <;> omega
  have hd : ((b : Int) / 9223372036854775808 / 2 == 0) = true := by rw [beq_iff_eq]; omega
  have HS := Lib.hid (fun (W : World) => split64 (r) W hmb)
  have hE2 : decide (r / 4503599627370496 < 2047) = false := decide_eq_false (by omega)
  clear hmb hsd hE hA
  have B : Below w.heap.size w (w.alloc (.cells #[.bool false, .slice none 0 0, .slice none 0 0] 26)) := (Below.refl _ _).alloc (Nat.le_refl _) _
  have hr := BlockAt.new w #[.bool false, .slice none 0 0, .slice none 0 0] 26
  have hf := form_any 64 (w.alloc (.cells #[.bool false, .slice none 0 0, .slice none 0 0] 26)) (by decide)
  have hfv : formV 64 = (53, 1074, 971, true) := rfl
  rw [hfv] at hf
  have HF := Lib.hid hf
  clear hf hfv
  go_enter Tryd.func5, Tryd.ntmps5
  go_wp2_with fail
  refine HF.out.mono ?_
  rintro e W1 ⟨rfl, bq⟩
  have hr := hr.below bq
  have B := B.trans (bq.mono B.size)
  clear bq HF
  have b4 : Below W1.heap.size W1 (W1.alloc (.cells #[.int .i64 53, .int .i64 1074, .int .i64 971] 53)) := (Below.refl _ _).alloc (Nat.le_refl _) _
  have hr := hr.below b4
  have B := B.trans (b4.mono B.size)
  obtain ⟨c0, c1, c2⟩ := block3 (BlockAt.new W1 #[.int .i64 53, .int .i64 1074, .int .i64 971] 53)
  clear b4
  go_wp2_with fail
  refine (HS.out _).mono ?_
  rintro e W2 ⟨rfl, bq⟩
  have hr := hr.below bq
  have B := B.trans (bq.mono B.size)
  clear bq HS c0 c1 c2
  have f0 := hr.free 0
  have f1 := hr.free 1
  have f2 := hr.free 2
  have g0 := hr.cell 0
  have g1 := hr.cell 1
  have g2 := hr.cell 2
  simp at g0 g1 g2
  go_wp2_with fail
  refine bodyPost_ret (v := .tuple #[.agg #[.bool false, .slice none 0 0, .slice none 0 0], .int .i64 1]) (by simp [results, Tryd.results5, go_sem, g0, g1, g2]) rfl ⟨rfl, ?_⟩
  exact ((B.setCell (by simp) _).setCell (by simp) _).setCell (by simp) _
set_option maxHeartbeats 1600000 in
set_option maxRecDepth 100000 in
theorem value64_num (b : Nat) (w : World) (hb : b < 18446744073709551616) (h : b ≠ 9223372036854775808) (hE : b % 9223372036854775808 / 4503599627370496 < 2047) (hT : Tab64 w) :
    Calls Tryd.prog 5 #[.int .u64 b, .int .i64 64] w fun e w' => ValPost (fval (decide (9223372036854775808 ≤ b)) (b % 9223372036854775808) 53 1074) e w' ∧ Below w.heap.size w w' := by
  have ha := sign63 b hb
  have hm := mag63 b hb
  have hmb : b % 9223372036854775808 < 9223372036854775808 := Nat.mod_lt _ (by decide)
  generalize b % 9223372036854775808 = r at *
  have hq : ((b : Int) == 9223372036854775808) = false := by rw [beq_eq_false_iff_ne]; omega
  obtain ⟨s, hsd⟩ : ∃ s, decide (9223372036854775808 ≤ b) = s := ⟨_, rfl⟩
  obtain ⟨A, hA⟩ : ∃ A : Int, (if 9223372036854775808 ≤ b then (9223372036854775808 : Int) else 0) = A := ⟨_, rfl⟩
  rw [hA] at ha
  have hsb : (A != 0) = s := by
    rw [← hA, ← hsd, Bool.eq_iff_iff, bne_iff_ne, decide_eq_true_iff]
    split <;> omega
  have hd : ((b : Int) / 9223372036854775808 / 2 == 0) = true := by rw [beq_iff_eq]; omega
  have HS := Lib.hid (fun (W : World) => split64 (r) W hmb)
  have hE2 : decide (r / 4503599627370496 < 2047) = true := decide_eq_true (by omega)
  have hrg := fexp_range (r) 53 1074 (by show r / 4503599627370496 ≤ 1074 + 1000; omega) (by decide)
  have hmn : fman (r) 53 < 18446744073709551616 := Nat.lt_of_lt_of_le (fval_man (by decide)) (by decide)
  have HV := Lib.hid (fun (W : World) (B : Below w.heap.size w W) => value_any s (fman (r) 53) (fexp (r) 53 1074) W hmn hrg.1 (by omega) (hT.below B))
  have hfv : fval (decide (9223372036854775808 ≤ b)) (r) 53 1074 = frac s (fman (r) 53 * up (fexp (r) 53 1074)) (up (-(fexp (r) 53 1074))) := by rw [hsd]; rfl
  rw [hfv]
  generalize frac s (fman (r) 53 * up (fexp (r) 53 1074)) (up (-(fexp (r) 53 1074))) = X at *
  clear hmb hsd hE hfv hT hrg hmn hA
  have B : Below w.heap.size w (w.alloc (.cells #[.bool false, .slice none 0 0, .slice none 0 0] 26)) := (Below.refl _ _).alloc (Nat.le_refl _) _
  have hr := BlockAt.new w #[.bool false, .slice none 0 0, .slice none 0 0] 26
  have hf := form_any 64 (w.alloc (.cells #[.bool false, .slice none 0 0, .slice none 0 0] 26)) (by decide)
  have hfv : formV 64 = (53, 1074, 971, true) := rfl
  rw [hfv] at hf
  have HF := Lib.hid hf
  clear hf hfv
  go_enter Tryd.func5, Tryd.ntmps5
  go_wp2_with fail
  refine HF.out.mono ?_
  rintro e W1 ⟨rfl, bq⟩
  have hr := hr.below bq
  have B := B.trans (bq.mono B.size)
  clear bq HF
  have b4 : Below W1.heap.size W1 (W1.alloc (.cells #[.int .i64 53, .int .i64 1074, .int .i64 971] 53)) := (Below.refl _ _).alloc (Nat.le_refl _) _
  have hr := hr.below b4
  have B := B.trans (b4.mono B.size)
  obtain ⟨c0, c1, c2⟩ := block3 (BlockAt.new W1 #[.int .i64 53, .int .i64 1074, .int .i64 971] 53)
  clear b4
  go_wp2_with fail
  refine (HS.out _).mono ?_
  rintro e W2 ⟨rfl, bq⟩
  have hr := hr.below bq
  have B := B.trans (bq.mono B.size)
  clear bq HS c0 c1 c2
  generalize fman (r) 53 = M at *
  generalize fexp (r) 53 1074 = P at *
  go_wp2_with fail
  refine (HV.out _ B).mono ?_
  rintro e W3 ⟨hv, bq⟩
  have hr := hr.below bq
  have B := B.trans (bq.mono B.size)
  clear HV bq
  have f0 := hr.free 0
  have f1 := hr.free 1
  have f2 := hr.free 2
  have g0 := hr.cell 0
  have g1 := hr.cell 1
  have g2 := hr.cell 2
  simp at g0 g1 g2
  rcases hv with ⟨r, rfl, hrat⟩ | ⟨rfl, hbig⟩
  · obtain ⟨s_, o1, m1, k1, o2, m2, k2, rfl⟩ := RawN.form hrat
    have Hr := Lib.hid hrat
    clear hrat
    go_wp2_with fail
    refine bodyPost_ret (v := .tuple #[.agg #[.bool s_, .slice o1 m1 k1, .slice o2 m2 k2], .int .i64 0]) (by simp [results, Tryd.results5, go_sem, g0, g1, g2]) rfl ⟨.inl ⟨_, rfl, RawN.set3 Hr.out hr⟩, ?_⟩
    exact ((B.setCell (by simp) _).setCell (by simp) _).setCell (by simp) _
  · have Hb := Lib.hid hbig
    clear hbig
    go_wp2_with fail
    refine bodyPost_ret (v := .tuple #[.agg #[.bool false, .slice none 0 0, .slice none 0 0], .int .i64 2]) (by simp [results, Tryd.results5, go_sem, g0, g1, g2]) rfl ⟨.inr ⟨rfl, Hb.out⟩, ?_⟩
    exact ((B.setCell (by simp) _).setCell (by simp) _).setCell (by simp) _
set_option maxHeartbeats 1600000 in
set_option maxRecDepth 100000 in
theorem value_none (b : Nat) (size : Int) (w : World) (hs : (Lit.int .i64 size).wf = true) (h32 : size ≠ 32) (h64 : size ≠ 64) :
    Calls Tryd.prog 5 #[.int .u64 b, .int .i64 size] w fun e w' => e = .returned (.tuple #[.agg #[.bool false, .slice none 0 0, .slice none 0 0], .int .i64 1]) ∧ Below w.heap.size w w' := by
  have B : Below w.heap.size w (w.alloc (.cells #[.bool false, .slice none 0 0, .slice none 0 0] 26)) := (Below.refl _ _).alloc (Nat.le_refl _) _
  have hr := BlockAt.new w #[.bool false, .slice none 0 0, .slice none 0 0] 26
  have hf := form_any size (w.alloc (.cells #[.bool false, .slice none 0 0, .slice none 0 0] 26)) hs
  have hfv : formV size = (0, 0, 0, false) := by unfold formV; rw [if_neg h32, if_neg h64]
  rw [hfv] at hf
  have HF := Lib.hid hf
  clear hf hfv
  go_enter Tryd.func5, Tryd.ntmps5
  go_wp2_with fail
  refine HF.out.mono ?_
  rintro e W1 ⟨rfl, bq⟩
  have hr := hr.below bq
  have B := B.trans (bq.mono B.size)
  clear bq HF
  have b4 : Below W1.heap.size W1 (W1.alloc (.cells #[.int .i64 0, .int .i64 0, .int .i64 0] 53)) := (Below.refl _ _).alloc (Nat.le_refl _) _
  have hr := hr.below b4
  have B := B.trans (b4.mono B.size)
  clear b4
  have f0 := hr.free 0
  have f1 := hr.free 1
  have f2 := hr.free 2
  have g0 := hr.cell 0
  have g1 := hr.cell 1
  have g2 := hr.cell 2
  simp at g0 g1 g2
  go_wp2_with fail
  refine bodyPost_ret (v := .tuple #[.agg #[.bool false, .slice none 0 0, .slice none 0 0], .int .i64 1]) (by simp [results, Tryd.results5, go_sem, g0, g1, g2]) rfl ⟨rfl, ?_⟩
  exact ((B.setCell (by simp) _).setCell (by simp) _).setCell (by simp) _
end Go.Proofs.YtlkadnaoacoicaaDoor
