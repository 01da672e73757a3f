/- The reference's Frac: the fraction of bits without a sign. -/
import Derived.Test.YtlkadnaoacoicaaRefBig
import Derived.Test.YtlkadnaoacoicaaRoundFval
import Derived.IntWalk
import Derived.WalkSmall
namespace Go.Proofs.Ytlkadnaoacoicaa
open Go.RowKit NM

/-- The reference's fraction of bits. -/
def fracOf (b mant least : Nat) : Value := .agg #[.string (numStr ((fman b mant * up (fexp b mant least) : Nat) : Int)), .string (numStr ((up (-(fexp b mant least)) : Nat) : Int))]
theorem pow_ltbig {n : Nat} (h : n ≤ 3300) : (2 : Int) ^ n < big := by
  have h1 := pow_le h
  have h2 : (2 : Int) ^ 3300 < big := by unfold big; decide +kernel
  omega
theorem pow_nat (n : Nat) : ((2 ^ n : Nat) : Int) = (2 : Int) ^ n := Int.natCast_pow 2 n
theorem mulpow_big {m n : Nat} (hm : m < 9007199254740992) (hn : n ≤ 2000) : (0 : Int) ≤ m ∧ (m : Int) < big ∧ 10 * ((m : Int) * 2 ^ n) + 10 * m < big := by
  have h1 := pow_le hn
  have h0 := pow_pos2 n
  have h2 : (10 : Int) * (9007199254740992 * 2 ^ 2000) + 10 * 9007199254740992 < big := by unfold big; decide +kernel
  have h3 : (m : Int) * 2 ^ n ≤ 9007199254740992 * 2 ^ 2000 := Int.mul_le_mul (by omega) h1 (by omega) (by omega)
  have h4 : (9007199254740992 : Int) < big := by unfold big; decide +kernel
  omega
set_option maxHeartbeats 1600000 in
set_option maxRecDepth 100000 in
theorem frac32_z (b : Nat) (w : World) (_hb : b < 18446744073709551616) (h0 : b / 8388608 = 0) :
    Calls Try.prog 24 #[.int .u64 b, .int .i64 32] w fun e w' => e = .returned (fracOf b 24 149) ∧ Below w.heap.size w w' := by
  obtain ⟨r, hr⟩ : ∃ r, b % 8388608 = r := ⟨_, rfl⟩
  have r1 : r < 8388608 := by omega
  have e1 : fman b 24 = r := by rw [show fman b 24 = b % 8388608 + (if b / 8388608 = 0 then 0 else 8388608) from rfl, if_pos h0, hr, Nat.add_zero]
  have e2 : fexp b 24 149 = -149 := by rw [show fexp b 24 149 = (if b / 8388608 = 0 then 1 else (b / 8388608 : Nat)) - 1 - 149 from rfl, if_pos h0]; rfl
  have hm : (b : Int) % 8388608 = r := by omega
  have hE : (b : Int) / 8388608 = 0 := by omega
  have HR1 := Lib.hid (show numStr ((fman b 24 * up (fexp b 24 149) : Nat) : Int) = numStr (r : Int) by rw [e1, e2, show up (-149) = 1 from rfl, Nat.mul_one])
  obtain ⟨k, hk⟩ : ∃ k : Nat, (k : Int) = 149 := ⟨149, rfl⟩
  have HR2 := Lib.hid (show numStr ((up (-(fexp b 24 149)) : Nat) : Int) = numStr (2 ^ k) by rw [e2, ← hk, Int.neg_neg]; exact congrArg numStr (pow_nat k))
  have T1 := Lib.hid (fun (w : World) => reftxt r w (by omega))
  have T2 := Lib.hid (fun (w : World) => power_fun k w (by omega))
  rw [hk] at T2
  clear e1 e2 h0
  generalize numStr (r : Int) = s1 at *
  generalize numStr (2 ^ k) = s2 at *
  have B : Below w.heap.size w (w.alloc (.cells #[.string ByteArray.empty, .string ByteArray.empty] 38)) := (Below.refl _ _).alloc (Nat.le_refl _) _
  have hblk := BlockAt.new w #[.string ByteArray.empty, .string ByteArray.empty] 38
  have HP := Lib.hid (fun (w : World) => refpow 23 w (by omega))
  have hpw : (2 : Nat) ^ 23 = 8388608 := by decide
  rw [hpw] at HP
  clear hpw
  go_enter Try.func24, Try.ntmps24
  go_wp2_with fail
  refine (mantissa32 _).mono ?_
  rintro e W0 ⟨rfl, rfl⟩
  go_wp2_with fail
  refine (HP.out _).mono ?_
  rintro e W0 ⟨rfl, rfl⟩
  clear HP
  go_wp2_with fail
  refine (least32 _).mono ?_
  rintro e W0 ⟨rfl, rfl⟩
  go_wp2_with fail
  refine (T1.out _).mono ?_
  rintro e W1 ⟨rfl, bq⟩
  have hblk := hblk.below bq
  have B := B.trans (bq.mono B.size)
  clear bq T1
  go_wp2_with fail
  refine (T2.out _).mono ?_
  rintro e W2 ⟨rfl, bq⟩
  have hblk := hblk.below bq
  have B := B.trans (bq.mono B.size)
  clear bq T2
  have f0 := hblk.free 0
  have f1 := hblk.free 1
  have g0 := hblk.cell 0
  have g1 := hblk.cell 1
  simp at g0 g1
  go_wp2_with fail
  refine bodyPost_ret (v := .agg #[.string s1, .string s2]) (by simp [results, Try.results24, go_sem, g0, g1]) rfl ⟨by unfold fracOf; rw [HR1.out, HR2.out], ?_⟩
  exact (B.setCell (by simp) _).setCell (by simp) _
set_option maxHeartbeats 1600000 in
set_option maxRecDepth 100000 in
theorem frac32_d (b : Nat) (w : World) (hb : b < 18446744073709551616) (h0 : b / 8388608 ≠ 0) (h1 : b / 8388608 ≤ 149) :
    Calls Try.prog 24 #[.int .u64 b, .int .i64 32] w fun e w' => e = .returned (fracOf b 24 149) ∧ Below w.heap.size w w' := by
  obtain ⟨r, hr⟩ : ∃ r, b % 8388608 = r := ⟨_, rfl⟩
  have r1 : r < 8388608 := by omega
  obtain ⟨E, hEE⟩ : ∃ E, b / 8388608 = E := ⟨_, rfl⟩
  rw [hEE] at h0 h1 
  have e1 : fman b 24 = r + 8388608 := by rw [show fman b 24 = b % 8388608 + (if b / 8388608 = 0 then 0 else 8388608) from rfl, hEE, if_neg h0, hr]
  have e2 : fexp b 24 149 = (E : Int) - 1 - 149 := by rw [show fexp b 24 149 = (if b / 8388608 = 0 then 1 else (b / 8388608 : Nat)) - 1 - 149 from rfl, hEE, if_neg h0]
  have hm : (b : Int) % 8388608 = r := by omega
  have hE : (b : Int) / 8388608 = (E : Int) := by omega
  have hz : ((E : Int) == 0) = false := by rw [beq_eq_false_iff_ne]; omega
  have hw : IntKind.i64.wrap (E : Int) = E := by simp only [IntKind.wrap, IntKind.signed, IntKind.bits]; simp; omega
  obtain ⟨n, hn⟩ : ∃ n : Nat, (r : Int) + 8388608 = n := ⟨r + 8388608, by omega⟩
  have n1 : n < 16777216 := by omega
  obtain ⟨k, hk⟩ : ∃ k : Nat, (E : Int) - 1 - 149 = -(k : Int) := ⟨150 - E, by omega⟩
  have k1 : 0 < k := by omega
  have k2 : k ≤ 2000 := by omega
  have HR1 := Lib.hid (show numStr ((fman b 24 * up (fexp b 24 149) : Nat) : Int) = numStr (n : Int) by
    rw [e1, e2, hk, show up (-(k : Int)) = 1 by unfold up; rw [show (-(k : Int)).toNat = 0 by omega], Nat.mul_one]
    exact congrArg numStr (by omega))
  have HR2 := Lib.hid (show numStr ((up (-(fexp b 24 149)) : Nat) : Int) = numStr (2 ^ k) by rw [e2, hk, Int.neg_neg]; exact congrArg numStr (pow_nat k))
  have T1 := Lib.hid (fun (w : World) => reftxt n w (by omega))
  have T2 := Lib.hid (fun (w : World) => power_fun k w k2)
  have hneg : -((k : Nat) : Int) < 0 := by omega
  have hsub : (0 : Int) - -(k : Int) = k := by omega
  clear e1 e2 h0 hr hEE
  generalize numStr (n : Int) = s1 at *
  generalize numStr (2 ^ k) = s2 at *
  obtain ⟨x, hx⟩ : ∃ x : Int, -(k : Int) = x := ⟨_, rfl⟩
  rw [hx] at hk
  have hx0 : x < 0 := by omega
  have hx1 : -3000 ≤ x := by omega
  have hxk : -x = (k : Int) := by omega
  clear hx hneg hsub
  have B : Below w.heap.size w (w.alloc (.cells #[.string ByteArray.empty, .string ByteArray.empty] 38)) := (Below.refl _ _).alloc (Nat.le_refl _) _
  have hblk := BlockAt.new w #[.string ByteArray.empty, .string ByteArray.empty] 38
  have HP := Lib.hid (fun (w : World) => refpow 23 w (by omega))
  have hpw : (2 : Nat) ^ 23 = 8388608 := by decide
  rw [hpw] at HP
  clear hpw
  go_enter Try.func24, Try.ntmps24
  go_wp2_with fail
  refine (mantissa32 _).mono ?_
  rintro e W0 ⟨rfl, rfl⟩
  go_wp2_with fail
  refine (HP.out _).mono ?_
  rintro e W0 ⟨rfl, rfl⟩
  clear HP
  go_wp2_with fail
  refine (least32 _).mono ?_
  rintro e W0 ⟨rfl, rfl⟩
  go_wp2_with fail
  refine (T1.out _).mono ?_
  rintro e W1 ⟨rfl, bq⟩
  have hblk := hblk.below bq
  have B := B.trans (bq.mono B.size)
  clear bq T1
  go_wp2_with fail
  refine (T2.out _).mono ?_
  rintro e W2 ⟨rfl, bq⟩
  have hblk := hblk.below bq
  have B := B.trans (bq.mono B.size)
  clear bq T2
  have f0 := hblk.free 0
  have f1 := hblk.free 1
  have g0 := hblk.cell 0
  have g1 := hblk.cell 1
  simp at g0 g1
  go_wp2_with fail
  refine bodyPost_ret (v := .agg #[.string s1, .string s2]) (by simp [results, Try.results24, go_sem, g0, g1]) rfl ⟨by unfold fracOf; rw [HR1.out, HR2.out], ?_⟩
  exact (B.setCell (by simp) _).setCell (by simp) _
set_option maxHeartbeats 1600000 in
set_option maxRecDepth 100000 in
theorem frac32_u (b : Nat) (w : World) (hb : b < 18446744073709551616) (h0 : b / 8388608 ≠ 0) (h1 : 150 ≤ b / 8388608) (h2 : b / 8388608 ≤ 255) :
    Calls Try.prog 24 #[.int .u64 b, .int .i64 32] w fun e w' => e = .returned (fracOf b 24 149) ∧ Below w.heap.size w w' := by
  obtain ⟨r, hr⟩ : ∃ r, b % 8388608 = r := ⟨_, rfl⟩
  have r1 : r < 8388608 := by omega
  obtain ⟨E, hEE⟩ : ∃ E, b / 8388608 = E := ⟨_, rfl⟩
  rw [hEE] at h0 h1 h2
  have e1 : fman b 24 = r + 8388608 := by rw [show fman b 24 = b % 8388608 + (if b / 8388608 = 0 then 0 else 8388608) from rfl, hEE, if_neg h0, hr]
  have e2 : fexp b 24 149 = (E : Int) - 1 - 149 := by rw [show fexp b 24 149 = (if b / 8388608 = 0 then 1 else (b / 8388608 : Nat)) - 1 - 149 from rfl, hEE, if_neg h0]
  have hm : (b : Int) % 8388608 = r := by omega
  have hE : (b : Int) / 8388608 = (E : Int) := by omega
  have hz : ((E : Int) == 0) = false := by rw [beq_eq_false_iff_ne]; omega
  have hw : IntKind.i64.wrap (E : Int) = E := by simp only [IntKind.wrap, IntKind.signed, IntKind.bits]; simp; omega
  obtain ⟨n, hn⟩ : ∃ n : Nat, (r : Int) + 8388608 = n := ⟨r + 8388608, by omega⟩
  have n1 : n < 16777216 := by omega
  obtain ⟨k, hk⟩ : ∃ k : Nat, (E : Int) - 1 - 149 = (k : Int) := ⟨E - 150, by omega⟩
  have k2 : k ≤ 2000 := by omega
  have hB := mulpow_big (m := n) (n := k) (by omega) k2
  have HR1 := Lib.hid (show numStr ((fman b 24 * up (fexp b 24 149) : Nat) : Int) = numStr ((n : Int) * 2 ^ k) by
    rw [e1, e2, hk, Int.natCast_mul, show ((up (k : Int) : Nat) : Int) = 2 ^ k from pow_nat k]
    exact congrArg (fun y : Int => numStr (y * 2 ^ k)) (by omega))
  have HR2 := Lib.hid (show numStr ((up (-(fexp b 24 149)) : Nat) : Int) = ⟨#[49]⟩ by rw [e2, hk, show up (-(k : Int)) = 1 by unfold up; rw [show (-(k : Int)).toNat = 0 by omega]]; exact one_str)
  have T1 := Lib.hid (fun (w : World) => reftxt n w (by omega))
  have T2 := Lib.hid (fun (w : World) => power_fun k w k2)
  have T3 := Lib.hid (fun (w : World) => refmul_big (n : Int) (2 ^ k) w hB.1 (by have := pow_pos2 k; omega) hB.2.1 (pow_ltbig (by omega)) hB.2.2)
  clear e1 e2 h0 hr hEE hB
  generalize numStr (n : Int) = s0 at *
  generalize numStr (2 ^ k) = s3 at *
  generalize numStr ((n : Int) * 2 ^ k) = s1 at *
  obtain ⟨s2, hs2⟩ : ∃ s2 : ByteArray, s2 = ⟨#[49]⟩ := ⟨_, rfl⟩
  have B : Below w.heap.size w (w.alloc (.cells #[.string ByteArray.empty, .string ByteArray.empty] 38)) := (Below.refl _ _).alloc (Nat.le_refl _) _
  have hblk := BlockAt.new w #[.string ByteArray.empty, .string ByteArray.empty] 38
  have HP := Lib.hid (fun (w : World) => refpow 23 w (by omega))
  have hpw : (2 : Nat) ^ 23 = 8388608 := by decide
  rw [hpw] at HP
  clear hpw
  go_enter Try.func24, Try.ntmps24
  go_wp2_with fail
  refine (mantissa32 _).mono ?_
  rintro e W0 ⟨rfl, rfl⟩
  go_wp2_with fail
  refine (HP.out _).mono ?_
  rintro e W0 ⟨rfl, rfl⟩
  clear HP
  go_wp2_with fail
  refine (least32 _).mono ?_
  rintro e W0 ⟨rfl, rfl⟩
  go_wp2_with fail
  refine (T1.out _).mono ?_
  rintro e W1 ⟨rfl, bq⟩
  have hblk := hblk.below bq
  have B := B.trans (bq.mono B.size)
  clear bq T1
  go_wp2_with fail
  refine (T2.out _).mono ?_
  rintro e W2 ⟨rfl, bq⟩
  have hblk := hblk.below bq
  have B := B.trans (bq.mono B.size)
  clear bq T2
  go_wp2_with fail
  refine (T3.out _).mono ?_
  rintro e W3 ⟨rfl, bq⟩
  have hblk := hblk.below bq
  have B := B.trans (bq.mono B.size)
  clear bq T3
  have f0 := hblk.free 0
  have f1 := hblk.free 1
  have g0 := hblk.cell 0
  have g1 := hblk.cell 1
  simp at g0 g1
  go_wp2_with fail
  refine bodyPost_ret (v := .agg #[.string s1, .string ⟨#[49]⟩]) (by simp [results, Try.results24, go_sem, g0, g1]) rfl ⟨by unfold fracOf; rw [HR1.out, HR2.out], ?_⟩
  exact (B.setCell (by simp) _).setCell (by simp) _
set_option maxHeartbeats 1600000 in
set_option maxRecDepth 100000 in
theorem frac64_z (b : Nat) (w : World) (_hb : b < 18446744073709551616) (h0 : b / 4503599627370496 = 0) :
    Calls Try.prog 24 #[.int .u64 b, .int .i64 64] w fun e w' => e = .returned (fracOf b 53 1074) ∧ Below w.heap.size w w' := by
  obtain ⟨r, hr⟩ : ∃ r, b % 4503599627370496 = r := ⟨_, rfl⟩
  have r1 : r < 4503599627370496 := by omega
  have e1 : fman b 53 = r := by rw [show fman b 53 = b % 4503599627370496 + (if b / 4503599627370496 = 0 then 0 else 4503599627370496) from rfl, if_pos h0, hr, Nat.add_zero]
  have e2 : fexp b 53 1074 = -1074 := by rw [show fexp b 53 1074 = (if b / 4503599627370496 = 0 then 1 else (b / 4503599627370496 : Nat)) - 1 - 1074 from rfl, if_pos h0]; rfl
  have hm : (b : Int) % 4503599627370496 = r := by omega
  have hE : (b : Int) / 4503599627370496 = 0 := by omega
  have HR1 := Lib.hid (show numStr ((fman b 53 * up (fexp b 53 1074) : Nat) : Int) = numStr (r : Int) by rw [e1, e2, show up (-1074) = 1 from rfl, Nat.mul_one])
  obtain ⟨k, hk⟩ : ∃ k : Nat, (k : Int) = 1074 := ⟨1074, rfl⟩
  have HR2 := Lib.hid (show numStr ((up (-(fexp b 53 1074)) : Nat) : Int) = numStr (2 ^ k) by rw [e2, ← hk, Int.neg_neg]; exact congrArg numStr (pow_nat k))
  have T1 := Lib.hid (fun (w : World) => reftxt r w (by omega))
  have T2 := Lib.hid (fun (w : World) => power_fun k w (by omega))
  rw [hk] at T2
  clear e1 e2 h0
  generalize numStr (r : Int) = s1 at *
  generalize numStr (2 ^ k) = s2 at *
  have B : Below w.heap.size w (w.alloc (.cells #[.string ByteArray.empty, .string ByteArray.empty] 38)) := (Below.refl _ _).alloc (Nat.le_refl _) _
  have hblk := BlockAt.new w #[.string ByteArray.empty, .string ByteArray.empty] 38
  have HP := Lib.hid (fun (w : World) => refpow 52 w (by omega))
  have hpw : (2 : Nat) ^ 52 = 4503599627370496 := by decide
  rw [hpw] at HP
  clear hpw
  go_enter Try.func24, Try.ntmps24
  go_wp2_with fail
  refine (mantissa64 _).mono ?_
  rintro e W0 ⟨rfl, rfl⟩
  go_wp2_with fail
  refine (HP.out _).mono ?_
  rintro e W0 ⟨rfl, rfl⟩
  clear HP
  go_wp2_with fail
  refine (least64 _).mono ?_
  rintro e W0 ⟨rfl, rfl⟩
  go_wp2_with fail
  refine (T1.out _).mono ?_
  rintro e W1 ⟨rfl, bq⟩
  have hblk := hblk.below bq
  have B := B.trans (bq.mono B.size)
  clear bq T1
  go_wp2_with fail
  refine (T2.out _).mono ?_
  rintro e W2 ⟨rfl, bq⟩
  have hblk := hblk.below bq
  have B := B.trans (bq.mono B.size)
  clear bq T2
  have f0 := hblk.free 0
  have f1 := hblk.free 1
  have g0 := hblk.cell 0
  have g1 := hblk.cell 1
  simp at g0 g1
  go_wp2_with fail
  refine bodyPost_ret (v := .agg #[.string s1, .string s2]) (by simp [results, Try.results24, go_sem, g0, g1]) rfl ⟨by unfold fracOf; rw [HR1.out, HR2.out], ?_⟩
  exact (B.setCell (by simp) _).setCell (by simp) _
set_option maxHeartbeats 1600000 in
set_option maxRecDepth 100000 in
theorem frac64_d (b : Nat) (w : World) (hb : b < 18446744073709551616) (h0 : b / 4503599627370496 ≠ 0) (h1 : b / 4503599627370496 ≤ 1074) :
    Calls Try.prog 24 #[.int .u64 b, .int .i64 64] w fun e w' => e = .returned (fracOf b 53 1074) ∧ Below w.heap.size w w' := by
  obtain ⟨r, hr⟩ : ∃ r, b % 4503599627370496 = r := ⟨_, rfl⟩
  have r1 : r < 4503599627370496 := by omega
  obtain ⟨E, hEE⟩ : ∃ E, b / 4503599627370496 = E := ⟨_, rfl⟩
  rw [hEE] at h0 h1 
  have e1 : fman b 53 = r + 4503599627370496 := by rw [show fman b 53 = b % 4503599627370496 + (if b / 4503599627370496 = 0 then 0 else 4503599627370496) from rfl, hEE, if_neg h0, hr]
  have e2 : fexp b 53 1074 = (E : Int) - 1 - 1074 := by rw [show fexp b 53 1074 = (if b / 4503599627370496 = 0 then 1 else (b / 4503599627370496 : Nat)) - 1 - 1074 from rfl, hEE, if_neg h0]
  have hm : (b : Int) % 4503599627370496 = r := by omega
  have hE : (b : Int) / 4503599627370496 = (E : Int) := by omega
  have hz : ((E : Int) == 0) = false := by rw [beq_eq_false_iff_ne]; omega
  have hw : IntKind.i64.wrap (E : Int) = E := by simp only [IntKind.wrap, IntKind.signed, IntKind.bits]; simp; omega
  obtain ⟨n, hn⟩ : ∃ n : Nat, (r : Int) + 4503599627370496 = n := ⟨r + 4503599627370496, by omega⟩
  have n1 : n < 9007199254740992 := by omega
  obtain ⟨k, hk⟩ : ∃ k : Nat, (E : Int) - 1 - 1074 = -(k : Int) := ⟨1075 - E, by omega⟩
  have k1 : 0 < k := by omega
  have k2 : k ≤ 2000 := by omega
  have HR1 := Lib.hid (show numStr ((fman b 53 * up (fexp b 53 1074) : Nat) : Int) = numStr (n : Int) by
    rw [e1, e2, hk, show up (-(k : Int)) = 1 by unfold up; rw [show (-(k : Int)).toNat = 0 by omega], Nat.mul_one]
    exact congrArg numStr (by omega))
  have HR2 := Lib.hid (show numStr ((up (-(fexp b 53 1074)) : Nat) : Int) = numStr (2 ^ k) by rw [e2, hk, Int.neg_neg]; exact congrArg numStr (pow_nat k))
  have T1 := Lib.hid (fun (w : World) => reftxt n w (by omega))
  have T2 := Lib.hid (fun (w : World) => power_fun k w k2)
  have hneg : -((k : Nat) : Int) < 0 := by omega
  have hsub : (0 : Int) - -(k : Int) = k := by omega
  clear e1 e2 h0 hr hEE
  generalize numStr (n : Int) = s1 at *
  generalize numStr (2 ^ k) = s2 at *
  obtain ⟨x, hx⟩ : ∃ x : Int, -(k : Int) = x := ⟨_, rfl⟩
  rw [hx] at hk
  have hx0 : x < 0 := by omega
  have hx1 : -3000 ≤ x := by omega
  have hxk : -x = (k : Int) := by omega
  clear hx hneg hsub
  have B : Below w.heap.size w (w.alloc (.cells #[.string ByteArray.empty, .string ByteArray.empty] 38)) := (Below.refl _ _).alloc (Nat.le_refl _) _
  have hblk := BlockAt.new w #[.string ByteArray.empty, .string ByteArray.empty] 38
  have HP := Lib.hid (fun (w : World) => refpow 52 w (by omega))
  have hpw : (2 : Nat) ^ 52 = 4503599627370496 := by decide
  rw [hpw] at HP
  clear hpw
  go_enter Try.func24, Try.ntmps24
  go_wp2_with fail
  refine (mantissa64 _).mono ?_
  rintro e W0 ⟨rfl, rfl⟩
  go_wp2_with fail
  refine (HP.out _).mono ?_
  rintro e W0 ⟨rfl, rfl⟩
  clear HP
  go_wp2_with fail
  refine (least64 _).mono ?_
  rintro e W0 ⟨rfl, rfl⟩
  go_wp2_with fail
  refine (T1.out _).mono ?_
  rintro e W1 ⟨rfl, bq⟩
  have hblk := hblk.below bq
  have B := B.trans (bq.mono B.size)
  clear bq T1
  go_wp2_with fail
  refine (T2.out _).mono ?_
  rintro e W2 ⟨rfl, bq⟩
  have hblk := hblk.below bq
  have B := B.trans (bq.mono B.size)
  clear bq T2
  have f0 := hblk.free 0
  have f1 := hblk.free 1
  have g0 := hblk.cell 0
  have g1 := hblk.cell 1
  simp at g0 g1
  go_wp2_with fail
  refine bodyPost_ret (v := .agg #[.string s1, .string s2]) (by simp [results, Try.results24, go_sem, g0, g1]) rfl ⟨by unfold fracOf; rw [HR1.out, HR2.out], ?_⟩
  exact (B.setCell (by simp) _).setCell (by simp) _
set_option maxHeartbeats 1600000 in
set_option maxRecDepth 100000 in
theorem frac64_u (b : Nat) (w : World) (hb : b < 18446744073709551616) (h0 : b / 4503599627370496 ≠ 0) (h1 : 1075 ≤ b / 4503599627370496) (h2 : b / 4503599627370496 ≤ 2047) :
    Calls Try.prog 24 #[.int .u64 b, .int .i64 64] w fun e w' => e = .returned (fracOf b 53 1074) ∧ Below w.heap.size w w' := by
  obtain ⟨r, hr⟩ : ∃ r, b % 4503599627370496 = r := ⟨_, rfl⟩
  have r1 : r < 4503599627370496 := by omega
  obtain ⟨E, hEE⟩ : ∃ E, b / 4503599627370496 = E := ⟨_, rfl⟩
  rw [hEE] at h0 h1 h2
  have e1 : fman b 53 = r + 4503599627370496 := by rw [show fman b 53 = b % 4503599627370496 + (if b / 4503599627370496 = 0 then 0 else 4503599627370496) from rfl, hEE, if_neg h0, hr]
  have e2 : fexp b 53 1074 = (E : Int) - 1 - 1074 := by rw [show fexp b 53 1074 = (if b / 4503599627370496 = 0 then 1 else (b / 4503599627370496 : Nat)) - 1 - 1074 from rfl, hEE, if_neg h0]
  have hm : (b : Int) % 4503599627370496 = r := by omega
  have hE : (b : Int) / 4503599627370496 = (E : Int) := by omega
  have hz : ((E : Int) == 0) = false := by rw [beq_eq_false_iff_ne]; omega
  have hw : IntKind.i64.wrap (E : Int) = E := by simp only [IntKind.wrap, IntKind.signed, IntKind.bits]; simp; omega
  obtain ⟨n, hn⟩ : ∃ n : Nat, (r : Int) + 4503599627370496 = n := ⟨r + 4503599627370496, by omega⟩
  have n1 : n < 9007199254740992 := by omega
  obtain ⟨k, hk⟩ : ∃ k : Nat, (E : Int) - 1 - 1074 = (k : Int) := ⟨E - 1075, by omega⟩
  have k2 : k ≤ 2000 := by omega
  have hB := mulpow_big (m := n) (n := k) (by omega) k2
  have HR1 := Lib.hid (show numStr ((fman b 53 * up (fexp b 53 1074) : Nat) : Int) = numStr ((n : Int) * 2 ^ k) by
    rw [e1, e2, hk, Int.natCast_mul, show ((up (k : Int) : Nat) : Int) = 2 ^ k from pow_nat k]
    exact congrArg (fun y : Int => numStr (y * 2 ^ k)) (by omega))
  have HR2 := Lib.hid (show numStr ((up (-(fexp b 53 1074)) : Nat) : Int) = ⟨#[49]⟩ by rw [e2, hk, show up (-(k : Int)) = 1 by unfold up; rw [show (-(k : Int)).toNat = 0 by omega]]; exact one_str)
  have T1 := Lib.hid (fun (w : World) => reftxt n w (by omega))
  have T2 := Lib.hid (fun (w : World) => power_fun k w k2)
  have T3 := Lib.hid (fun (w : World) => refmul_big (n : Int) (2 ^ k) w hB.1 (by have := pow_pos2 k; omega) hB.2.1 (pow_ltbig (by omega)) hB.2.2)
  clear e1 e2 h0 hr hEE hB
  generalize numStr (n : Int) = s0 at *
  generalize numStr (2 ^ k) = s3 at *
  generalize numStr ((n : Int) * 2 ^ k) = s1 at *
  obtain ⟨s2, hs2⟩ : ∃ s2 : ByteArray, s2 = ⟨#[49]⟩ := ⟨_, rfl⟩
  have B : Below w.heap.size w (w.alloc (.cells #[.string ByteArray.empty, .string ByteArray.empty] 38)) := (Below.refl _ _).alloc (Nat.le_refl _) _
  have hblk := BlockAt.new w #[.string ByteArray.empty, .string ByteArray.empty] 38
  have HP := Lib.hid (fun (w : World) => refpow 52 w (by omega))
  have hpw : (2 : Nat) ^ 52 = 4503599627370496 := by decide
  rw [hpw] at HP
  clear hpw
  go_enter Try.func24, Try.ntmps24
  go_wp2_with fail
  refine (mantissa64 _).mono ?_
  rintro e W0 ⟨rfl, rfl⟩
  go_wp2_with fail
  refine (HP.out _).mono ?_
  rintro e W0 ⟨rfl, rfl⟩
  clear HP
  go_wp2_with fail
  refine (least64 _).mono ?_
  rintro e W0 ⟨rfl, rfl⟩
  go_wp2_with fail
  refine (T1.out _).mono ?_
  rintro e W1 ⟨rfl, bq⟩
  have hblk := hblk.below bq
  have B := B.trans (bq.mono B.size)
  clear bq T1
  go_wp2_with fail
  refine (T2.out _).mono ?_
  rintro e W2 ⟨rfl, bq⟩
  have hblk := hblk.below bq
  have B := B.trans (bq.mono B.size)
  clear bq T2
  go_wp2_with fail
  refine (T3.out _).mono ?_
  rintro e W3 ⟨rfl, bq⟩
  have hblk := hblk.below bq
  have B := B.trans (bq.mono B.size)
  clear bq T3
  have f0 := hblk.free 0
  have f1 := hblk.free 1
  have g0 := hblk.cell 0
  have g1 := hblk.cell 1
  simp at g0 g1
  go_wp2_with fail
  refine bodyPost_ret (v := .agg #[.string s1, .string ⟨#[49]⟩]) (by simp [results, Try.results24, go_sem, g0, g1]) rfl ⟨by unfold fracOf; rw [HR1.out, HR2.out], ?_⟩
  exact (B.setCell (by simp) _).setCell (by simp) _
theorem frac32_any (b : Nat) (w : World) (hb : b < 18446744073709551616) (h : b / 8388608 ≤ 255) :
    Calls Try.prog 24 #[.int .u64 b, .int .i64 32] w fun e w' => e = .returned (fracOf b 24 149) ∧ Below w.heap.size w w' := by
  by_cases h0 : b / 8388608 = 0
  · exact frac32_z b w hb h0
  · rcases Nat.lt_or_ge (b / 8388608) 150 with h1 | h1
    · exact frac32_d b w hb h0 (by omega)
    · exact frac32_u b w hb h0 h1 h
theorem frac64_any (b : Nat) (w : World) (hb : b < 18446744073709551616) (h : b / 4503599627370496 ≤ 2047) :
    Calls Try.prog 24 #[.int .u64 b, .int .i64 64] w fun e w' => e = .returned (fracOf b 53 1074) ∧ Below w.heap.size w w' := by
  by_cases h0 : b / 4503599627370496 = 0
  · exact frac64_z b w hb h0
  · rcases Nat.lt_or_ge (b / 4503599627370496) 1075 with h1 | h1
    · exact frac64_d b w hb h0 (by omega)
    · exact frac64_u b w hb h0 h1 h
end Go.Proofs.Ytlkadnaoacoicaa
