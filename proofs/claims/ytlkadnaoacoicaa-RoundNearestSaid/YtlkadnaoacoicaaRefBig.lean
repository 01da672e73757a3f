/- The reference's Mul, as wide as its numbers go; small functions of the reference of layer 3: Mantissa, Least, High, power, text. -/
import Derived.Test.YtlkadnaoacoicaaNE
import Derived.Test.YtlkadnaoacoicaaRoundMath
namespace Go.Proofs.Ytlkadnaoacoicaa
open Go.RowKit NM

theorem dv_take_le : ∀ {ds : List Int} (_ : Digs ds) (k : Nat), dv (ds.drop k) ≤ dv ds
  | [], _, k => by simp [dv]
  | d :: ds, h, 0 => by simp
  | d :: ds, h, k + 1 => by
    have h1 := dv_take_le (Digs_tail h) k
    have h2 := dv_range (Digs_tail h)
    have h3 := h d (List.mem_cons_self ..)
    rw [List.drop_succ_cons, dv]
    omega
theorem refmul_big (A B : Int) (w : World) (hA0 : 0 ≤ A) (hB0 : 0 ≤ B) (hA : A < big) (hB : B < big) (h : 10 * (A * B) + 10 * A < big) :
    Calls Try.prog 39 #[.string (numStr A), .string (numStr B)] w fun e w' => e = .returned (.string (numStr (A * B))) ∧ Below w.heap.size w w' := by
  have hf := digsN_dec B.toNat
  rw [show ((B.toNat : Nat) : Int) = B by omega] at hf
  have l2 := dec_small hf hB
  have h := refmul_dec (numStr A) A (digsN B.toNat) w (numStr_dec hA0) hf.1 hA0 hA (by omega) (fun i => by
    have h1 := dv_take_le hf.1 ((digsN B.toNat).length - i)
    rw [hf.2.1] at h1
    have h2 : A * dv ((digsN B.toNat).drop ((digsN B.toNat).length - i)) ≤ A * B := Int.mul_le_mul_of_nonneg_left h1 hA0
    omega)
  rw [hf.2.1] at h
  exact h.mono fun _ _ ⟨⟨_, h1, h2⟩, h3⟩ => ⟨by rw [h1, h2.eq], h3⟩
theorem one_str : numStr 1 = ⟨#[49]⟩ := by decide +kernel
theorem mantissa32 (w : World) : Calls Try.prog 12 #[.int .i64 32] w fun e w' => e = .returned (.int .i64 24) ∧ w = w' := by
  go_enter Try.func12, Try.ntmps12
  go_wp2_with fail
  go_ret
  exact ⟨rfl, rfl⟩
theorem mantissa64 (w : World) : Calls Try.prog 12 #[.int .i64 64] w fun e w' => e = .returned (.int .i64 53) ∧ w = w' := by
  go_enter Try.func12, Try.ntmps12
  go_wp2_with fail
  go_ret
  exact ⟨rfl, rfl⟩
theorem least32 (w : World) : Calls Try.prog 40 #[.int .i64 32] w fun e w' => e = .returned (.int .i64 149) ∧ w = w' := by
  go_enter Try.func40, Try.ntmps40
  go_wp2_with fail
  go_ret
  exact ⟨rfl, rfl⟩
theorem least64 (w : World) : Calls Try.prog 40 #[.int .i64 64] w fun e w' => e = .returned (.int .i64 1074) ∧ w = w' := by
  go_enter Try.func40, Try.ntmps40
  go_wp2_with fail
  go_ret
  exact ⟨rfl, rfl⟩
theorem rhigh32 (w : World) : Calls Try.prog 11 #[.int .i64 32] w fun e w' => e = .returned (.int .u64 255) ∧ w = w' := by
  go_enter Try.func11, Try.ntmps11
  go_wp2_with fail
  go_ret
  exact ⟨rfl, rfl⟩
theorem rhigh64 (w : World) : Calls Try.prog 11 #[.int .i64 64] w fun e w' => e = .returned (.int .u64 2047) ∧ w = w' := by
  go_enter Try.func11, Try.ntmps11
  go_wp2_with fail
  go_ret
  exact ⟨rfl, rfl⟩
set_option maxHeartbeats 1600000 in
theorem refpow (n : Nat) (w : World) (hn : n ≤ 62) :
    Calls Try.prog 22 #[.int .i64 (n : Int)] w fun e w' => e = .returned (.int .u64 ((2 ^ n : Nat) : Int)) ∧ w = w' := by
  go_enter Try.func22, Try.ntmps22
  go_wp2_with fail
  go_loopw [3, 4] (fun so i wr => ∃ (k : Nat) (P : Int), k ≤ n ∧ i = .int .i64 k ∧ so = .int .u64 P ∧ Hid (P = ((2 ^ k : Nat) : Int)) ∧ wr = w) (fun _ i _ => n - (intOf i).toNat)
  case atStart => exact ⟨0, 1, Nat.zero_le _, rfl, rfl, Lib.hid (by simp), rfl⟩
  case round =>
    obtain ⟨k, P, hk, rfl, rfl, hP, rfl⟩ := hrel
    by_cases hkn : k < n
    · have hp : 0 ≤ P ∧ P ≤ 4611686018427387904 := by
        rw [hP.out]
        have h1 : 2 ^ k ≤ 2 ^ 62 := Nat.pow_le_pow_right (by decide) (by omega)
        have h2 : (2 : Nat) ^ 62 = 4611686018427387904 := by decide
        generalize 2 ^ k = y at *
        omega
      obtain ⟨p0, p1⟩ := hp
      have hP2 := Lib.hid (show 2 * P = ((2 ^ (k + 1) : Nat) : Int) by rw [hP.out, Nat.pow_succ]; omega)
      clear hP
      go_wp2_with fail
      go_roundw
      case rel => exact ⟨k + 1, 2 * P, by omega, by go_num, rfl, hP2, by first | rfl | trivial⟩
      case measure => simp [intOf]; omega
    · obtain rfl : k = n := by omega
      go_wp2_with fail
      go_ret
      exact ⟨ret_int hP.out, rfl⟩
set_option maxHeartbeats 1600000 in
theorem reftxt (n : Nat) (w : World) (hn : n < 18446744073709551616) :
    Calls Try.prog 41 #[.int .u64 (n : Int)] w fun e w' => e = .returned (.string (numStr (n : Int))) ∧ Below w.heap.size w w' := by
  have hb : (4294967296 : Int) < big := by unfold big; decide +kernel
  have S1 := Lib.hid (fun (w : World) => small_fun 1 ((n : Int) / 4294967296) 0 ((n : Int) / 4294967296) w (by omega) (by omega) (by omega) (by omega) (by omega) (by omega) (by omega))
  have S2 := Lib.hid (fun (w : World) => small_fun ((n : Int) / 4294967296) 4294967296 ((n : Int) % 4294967296) n w (by omega) (by omega) (by omega) (by omega) (by omega) (by omega) (by omega))
  obtain ⟨q, hq⟩ : ∃ q, (n : Int) / 4294967296 = q := ⟨_, rfl⟩
  obtain ⟨r, hr⟩ : ∃ r, (n : Int) % 4294967296 = r := ⟨_, rfl⟩
  have h0 : 0 ≤ q := by omega
  have h1 : q < 4294967296 := by omega
  have h2 : 0 ≤ r := by omega
  have h3 : r < 4294967296 := by omega
  rw [one_str, hq] at S1
  rw [hq, hr] at S2
  generalize numStr q = sq at *
  generalize numStr (n : Int) = sn at *
  go_enter Try.func41, Try.ntmps41
  go_wp2_with fail
  refine (S1.out _).mono ?_
  rintro e W1 ⟨rfl, bq⟩
  have B := bq
  clear S1 bq
  go_wp2_with fail
  refine (S2.out _).mono ?_
  rintro e W2 ⟨rfl, bq⟩
  have B := B.trans (bq.mono B.size)
  clear S2 bq
  go_wp2_with fail
  go_ret
  exact ⟨rfl, B⟩
end Go.Proofs.Ytlkadnaoacoicaa
