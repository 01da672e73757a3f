/- log: the greatest power of two that is not above a number. -/
import Derived.Test.YtlkadnaoacoicaaRA
import Derived.Test.YtlkadnaoacoicaaRoundMath
namespace Go.Proofs.Ytlkadnaoacoicaa
open Go.RowKit NM

theorem log_parts {N D k1 k2 : Nat} (h1 : 2 ^ (k1 - 1) ≤ N) (h2 : N < 2 ^ k1) (h3 : 2 ^ (k2 - 1) ≤ D) (h4 : D < 2 ^ k2) (p1 : 0 < k1) (p2 : 0 < k2) {n : Int} (hn : (k1 : Int) - k2 = n) :
    N * up (-(n + 1)) < D * up (n + 1) ∧ D * up (n - 1) ≤ N * up (-(n - 1)) := by
  constructor
  · have e : 2 ^ k1 * up (-(n + 1)) = 2 ^ (k2 - 1) * up (n + 1) := by
      unfold up
      rw [← Nat.pow_add, ← Nat.pow_add]
      congr 1
      omega
    have a : N * up (-(n + 1)) < 2 ^ k1 * up (-(n + 1)) := Nat.mul_lt_mul_of_pos_right h2 (up_pos _)
    have b : 2 ^ (k2 - 1) * up (n + 1) ≤ D * up (n + 1) := Nat.mul_le_mul_right _ h3
    omega
  · have e : 2 ^ k2 * up (n - 1) = 2 ^ (k1 - 1) * up (-(n - 1)) := by
      unfold up
      rw [← Nat.pow_add, ← Nat.pow_add]
      congr 1
      omega
    have a : D * up (n - 1) ≤ 2 ^ k2 * up (n - 1) := Nat.mul_le_mul_right _ (by omega)
    have b : 2 ^ (k1 - 1) * up (-(n - 1)) ≤ N * up (-(n - 1)) := Nat.mul_le_mul_right _ h1
    omega
theorem log_same {N D k1 k2 : Nat} (h1 : 2 ^ (k1 - 1) ≤ N) (h2 : N < 2 ^ k1) (h3 : 2 ^ (k2 - 1) ≤ D) (h4 : D < 2 ^ k2) (p1 : 0 < k1) (p2 : 0 < k2) {n : Int} (hn : (k1 : Int) - k2 = n) (h : D * up n ≤ N * up (-n)) : IsLog N D n :=
  ⟨h, (log_parts h1 h2 h3 h4 p1 p2 hn).1⟩
theorem log_less {N D k1 k2 : Nat} (h1 : 2 ^ (k1 - 1) ≤ N) (h2 : N < 2 ^ k1) (h3 : 2 ^ (k2 - 1) ≤ D) (h4 : D < 2 ^ k2) (p1 : 0 < k1) (p2 : 0 < k2) {n : Int} (hn : (k1 : Int) - k2 = n) (h : N * up (-n) < D * up n) : IsLog N D (n - 1) :=
  ⟨(log_parts h1 h2 h3 h4 p1 p2 hn).2, by rw [show n - 1 + 1 = n by omega]; exact h⟩
theorem bits_nat {N : Nat} {k : Nat} (h0 : 0 < N) (h : IsBits (N : Int) k) : 0 < k ∧ 2 ^ (k - 1) ≤ N ∧ N < 2 ^ k := by
  rcases h with ⟨h, _⟩ | ⟨_, h1, h2, h3⟩
  · omega
  · refine ⟨by omega, ?_, ?_⟩
    · have : ((2 ^ (k - 1) : Nat) : Int) ≤ (N : Int) := by rw [Int.natCast_pow]; exact h2
      omega
    · have : (N : Int) < ((2 ^ k : Nat) : Int) := by rw [Int.natCast_pow]; exact h3
      omega
theorem up_fits {D k2 : Nat} {k : Nat} {n : Int} (h4 : D < 2 ^ k2) (hk : k2 + n.toNat ≤ 512) (_hk : k = k2) : ((D * up n : Nat) : Int) < pw 16 := by
  rw [pow16]
  have a : D * up n < 2 ^ k2 * up n := Nat.mul_lt_mul_of_pos_right h4 (up_pos _)
  have e : 2 ^ k2 * up n = 2 ^ (k2 + n.toNat) := by unfold up; rw [Nat.pow_add]
  rw [e] at a
  have c : ((2 ^ (k2 + n.toNat) : Nat) : Int) = (2 : Int) ^ (k2 + n.toNat) := Int.natCast_pow 2 _
  have d : ((D * up n : Nat) : Int) < (2 : Int) ^ (k2 + n.toNat) := by rw [← c]; exact Int.ofNat_lt.2 a
  exact Int.lt_of_lt_of_le d (pow_le hk)
theorem num_up (N : Nat) (n : Int) : (N : Int) * 2 ^ n.toNat = ((N * up n : Nat) : Int) := by
  unfold up
  rw [Int.natCast_mul, Int.natCast_pow]
  rfl
theorem Told.fine {N : Int} {e : Ending} {w : World} (h : Told N e w) (hN : N < pw 16) : ∃ v, e = .returned (.tuple #[v, .int .i64 0]) ∧ Num w v N := by
  rcases h with ⟨_, h⟩ | ⟨h, _⟩
  · exact h
  · omega

set_option maxHeartbeats 3200000 in
set_option maxRecDepth 100000 in
theorem log_rat (neg : Bool) (v u : Value) (N D : Nat) (w : World) (h1 : Num w v N) (h2 : Num w u D) (hN : 0 < N) (hD : 0 < D) :
    Calls Try.prog 17 #[.agg #[.bool neg, v, u]] w fun e w' => (∃ L : Int, e = .returned (.int .i64 L) ∧ IsLog N D L ∧ -513 ≤ L ∧ L ≤ 512) ∧ Below w.heap.size w w' := by
  have B : Below w.heap.size w (w.alloc (.cells #[.bool neg, v, u] 25)) := (Below.refl _ _).alloc (Nat.le_refl _) _
  have ha := BlockAt.new w #[.bool neg, v, u] 25
  have a1 := h1.below B
  have a2 := h2.below B
  clear h1 h2
  have HB1 := Lib.hid (bits_num v N _ a1)
  have HB2 := Lib.hid (bits_num u D _ a2)
  obtain ⟨c0, c1, c2⟩ := block3 ha
  go_enter Try.func17, Try.ntmps17
  go_wp2_with fail
  generalize w.alloc (.cells #[.bool neg, v, u] 25) = W at *
  refine HB1.out.mono ?_
  rintro e w' ⟨⟨k1, rfl, i1, l1⟩, rfl⟩
  obtain ⟨p1, b1, t1⟩ := bits_nat hN i1
  go_wp2_with fail
  refine HB2.out.mono ?_
  rintro e w' ⟨⟨k2, rfl, i2, l2⟩, rfl⟩
  obtain ⟨p2, b2, t2⟩ := bits_nat hD i2
  obtain ⟨n, hn⟩ : ∃ n, (k1 : Int) - (k2 : Int) = n := ⟨_, rfl⟩
  obtain ⟨p, hp⟩ : ∃ p : Nat, p = n.toNat := ⟨_, rfl⟩
  obtain ⟨q, hq⟩ : ∃ q : Nat, q = (-n).toNat := ⟨_, rfl⟩
  have hmax : max n 0 = (p : Int) := by omega
  have hsub : (p : Int) - n = (q : Int) := by omega
  have lp : p ≤ 512 := by omega
  have lq : q ≤ 512 := by omega
  have n0 : -512 ≤ n := by omega
  have n1 : n ≤ 512 := by omega
  have HS1 := shift_up u D p W a2 (by omega)
  have HS2 := fun (W : World) (h : Num W v N) => shift_up v N q W h (by omega)
  have fit1 : ((D * up n : Nat) : Int) < pw 16 := up_fits (k := k2) t2 (by omega) rfl
  have fit2 : ((N * up (-n) : Nat) : Int) < pw 16 := up_fits (k := k1) t1 (by omega) rfl
  rw [hp, num_up, ← hp] at HS1
  rw [hq] at HS2
  simp only [num_up] at HS2
  rw [← hq] at HS2
  have HLs := Lib.hid (fun h => log_same b1 t1 b2 t2 p1 p2 hn h)
  have HLl := Lib.hid (fun h => log_less b1 t1 b2 t2 p1 p2 hn h)
  have HS1' := Lib.hid HS1
  have HS2' := Lib.hid HS2
  have Hf1 := Lib.hid fit1
  have Hf2 := Lib.hid fit2
  clear HS1 HS2 fit1 fit2 hp hq b1 t1 b2 t2 i1 i2 HB1 HB2 p1 p2 hN hD
  go_wp2_with fail
  refine HS1'.out.mono ?_
  rintro e W2 ⟨hk, bq⟩
  obtain ⟨d1, rfl, hd⟩ := hk.fine Hf1.out
  have ha := ha.below bq
  have a1 := a1.below bq
  have B := B.trans (bq.mono B.size)
  clear bq hk c0 c1 c2
  obtain ⟨c0, c1, c2⟩ := block3 ha
  go_wp2_with fail
  refine (HS2'.out _ a1).mono ?_
  rintro e W3 ⟨hk, bq⟩
  obtain ⟨d2, rfl, hd2⟩ := hk.fine Hf2.out
  have hd := hd.below bq
  have B := B.trans (bq.mono B.size)
  have HC := cmp_num hd2 hd
  clear bq hk c0 c1 c2 hd hd2 HS1' HS2' Hf1 Hf2
  by_cases hlt : N * up (-n) < D * up n
  · have Hl := Lib.hid (HLl.out hlt)
    rw [sgn_less (by omega)] at HC
    have HC' := Lib.hid HC
    clear HC hlt HLs HLl
    go_wp2_with fail
    refine HC'.out.mono ?_
    rintro e W4 ⟨rfl, bq⟩
    have B := B.trans (bq.mono B.size)
    clear bq
    go_wp2_with fail
    go_ret
    exact ⟨⟨_, rfl, Hl.out, by omega, by omega⟩, B⟩
  · have Hl := Lib.hid (HLs.out (by omega))
    have hg := sgn_ge (A := ((N * up (-n) : Nat) : Int)) (B := ((D * up n : Nat) : Int)) (by omega)
    obtain ⟨g, hgg⟩ : ∃ g, sgn ((N * up (-n) : Nat) : Int) ((D * up n : Nat) : Int) = g := ⟨_, rfl⟩
    rw [hgg] at HC hg
    have HC' := Lib.hid HC
    clear HC hlt HLs HLl hgg
    go_wp2_with fail
    refine HC'.out.mono ?_
    rintro e W4 ⟨rfl, bq⟩
    have B := B.trans (bq.mono B.size)
    clear bq
    go_wp2_with fail
    go_ret
    exact ⟨⟨_, rfl, Hl.out, by omega, by omega⟩, B⟩
end Go.Proofs.Ytlkadnaoacoicaa
