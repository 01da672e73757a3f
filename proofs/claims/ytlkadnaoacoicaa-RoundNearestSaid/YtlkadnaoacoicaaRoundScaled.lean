/- scaled: a number divided by a power of two, rounded down. -/
import Derived.Test.YtlkadnaoacoicaaRoundLog
import Derived.Test.YtlkadnaoacoicaaRoundSmall
namespace Go.Proofs.Ytlkadnaoacoicaa
open Go.RowKit NM

theorem shift_dn (v : Value) (N : Nat) (e : Int) (w : World) (h1 : Num w v N) (e0 : 0 ≤ e) (e1 : e ≤ 9223372036854775807) :
    Calls Try.prog 33 #[v, .int .i64 (-e)] w fun en w' => (∃ r, en = .returned (.tuple #[r, .int .i64 0]) ∧ Num w' r ((N / up e : Nat) : Int)) ∧ Below w.heap.size w w' := by
  obtain ⟨s, rfl⟩ : ∃ s : Nat, e = (s : Int) := ⟨e.toNat, by omega⟩
  have hup : up (s : Int) = 2 ^ s := rfl
  rw [hup]
  have hc : ((N / 2 ^ s : Nat) : Int) = (N : Int) / 2 ^ s := by rw [Int.natCast_ediv, Int.natCast_pow]; rfl
  rw [hc]
  by_cases h : 0 < s
  · exact shift_down v N s w h1 h (by omega)
  · obtain rfl : s = 0 := by omega
    have h2 := shift_up v N 0 w h1 (by omega)
    refine h2.mono ?_
    rintro en w' ⟨hk, hb⟩
    have hr := h1.range
    obtain ⟨r, h3, h4⟩ := hk.fine (by simpa using hr.2)
    exact ⟨⟨r, h3, by simpa using h4⟩, hb⟩
/-- What is left behind the two divisions. -/
theorem rest_iff {N D : Nat} {P : Nat} (hD : 0 < D) (_hP : 0 < P) : N / (D * P) = N / D / P ∧ (N % (D * P) ≠ 0 ↔ (N / D / P * P ≠ N / D ∨ N % D ≠ 0)) := by
  refine ⟨(Nat.div_div_eq_div_mul _ _ _).symm, ?_⟩
  have h1 := Nat.mod_mul (x := N) (a := D) (b := P)
  have h2 := Nat.div_add_mod (N / D) P
  have h3 : N / D / P * P = P * (N / D / P) := Nat.mul_comm _ _
  rw [h1, h3]
  constructor
  · intro h
    by_cases h4 : N % D = 0
    · left
      intro h5
      apply h
      have : N / D % P = 0 := by omega
      rw [this, h4]
      simp
    · exact .inr h4
  · intro h h4
    have h5 : N % D = 0 := by omega
    have h6 : D * (N / D % P) = 0 := by omega
    have h7 : N / D % P = 0 := by
      rcases Nat.mul_eq_zero.1 h6 with h7 | h7
      · omega
      · exact h7
    rcases h with h | h
    · apply h; omega
    · exact h h5
set_option maxHeartbeats 3200000 in
set_option maxRecDepth 100000 in
theorem scaled_up (neg : Bool) (v u : Value) (N D : Nat) (e : Int) (w : World) (h1 : Num w v N) (h2 : Num w u D) (hD : 0 < D) (e0 : 0 ≤ e) (e1 : e ≤ 5000) (hA : N / (D * up e) < 18446744073709551616) :
    Calls Try.prog 18 #[.agg #[.bool neg, v, u], .int .i64 e] w fun en w' => en = .returned (.tuple #[.int .u64 ((N / (D * up e) : Nat) : Int), .bool (decide (N % (D * up e) ≠ 0))]) ∧ Below w.heap.size w w' := by
  have B : Below w.heap.size w (w.alloc (.cells #[.bool neg, v, u] 25)) := (Below.refl _ _).alloc (Nat.le_refl _) _
  have ha := BlockAt.new w #[.bool neg, v, u] 25
  have a1 := h1.below B
  have a2 := h2.below B
  clear h1 h2
  obtain ⟨r1, r2⟩ := rest_iff (N := N) hD (up_pos e)
  obtain ⟨rs, hrs⟩ : ∃ rs : Bool, decide (N % (D * up e) ≠ 0) = rs := ⟨_, rfl⟩
  have hz0 : rs = true ↔ N % (D * up e) ≠ 0 := by rw [← hrs, decide_eq_true_eq]
  have hz1 := hz0.trans r2
  rw [hrs]
  clear hrs hz0 r2
  rw [r1] at hA ⊢
  have HD := Lib.hid (div_num v u N D _ a1 a2 (by omega))
  obtain ⟨c0, c1, c2⟩ := block3 ha
  obtain ⟨Q, hQ⟩ : ∃ Q, N / D = Q := ⟨_, rfl⟩
  obtain ⟨R, hR⟩ : ∃ R, N % D = R := ⟨_, rfl⟩
  have hQi : (N : Int) / (D : Int) = (Q : Int) := by rw [← hQ]; rfl
  have hRi : (N : Int) % (D : Int) = (R : Int) := by rw [← hR]; rfl
  rw [hQi, hRi] at HD
  rw [hQ, hR] at hz1
  rw [hQ] at hA ⊢
  have up0 := up_pos e
  have hle : Q / up e * up e ≤ Q := Nat.div_mul_le_self Q (up e)
  have HA := Lib.hid hA
  have Hle := Lib.hid hle
  clear hQ hR hQi hRi r1 hA hle a1 a2 hD
  obtain ⟨P, hP⟩ : ∃ P, Q / up e = P := ⟨_, rfl⟩
  rw [hP] at HA Hle hz1 ⊢
  have HP := Lib.hid hP
  obtain ⟨T, hT⟩ : ∃ T, P * up e = T := ⟨_, rfl⟩
  rw [hT] at Hle hz1
  have HT := Lib.hid hT
  have HZ := Lib.hid hz1
  clear hP hT up0 hz1
  go_enter Try.func18, Try.ntmps18
  go_wp2_with fail
  generalize w.alloc (.cells #[.bool neg, v, u] 25) = W at *
  refine HD.out.mono ?_
  rintro en W2 ⟨⟨q, r, rfl, hq, hr⟩, bq⟩
  have B := B.trans (bq.mono B.size)
  clear bq HD c0 c1 c2 ha
  have HS := Lib.hid (shift_dn q Q e W2 hq e0 (by omega))
  rw [HP.out] at HS
  go_wp2_with fail
  refine HS.out.mono ?_
  rintro en W3 ⟨⟨hi, rfl, hhi⟩, bq⟩
  have hq := hq.below bq
  have hr := hr.below bq
  have B := B.trans (bq.mono B.size)
  clear bq HS
  have hs2 := shift_up hi P e.toNat W3 hhi (by omega)
  rw [num_up, HT.out, show ((e.toNat : Nat) : Int) = e by omega] at hs2
  have HS := Lib.hid hs2
  have hqr := hq.range
  have hTf := Lib.hid (show (T : Int) < pw 16 by have := Hle.out; omega)
  clear hs2 hqr
  go_wp2_with fail
  refine HS.out.mono ?_
  rintro en W4 ⟨hk, bq⟩
  obtain ⟨bk, rfl, hb⟩ := hk.fine hTf.out
  have hq := hq.below bq
  have hr := hr.below bq
  have hhi := hhi.below bq
  have B := B.trans (bq.mono B.size)
  clear bq HS hk hTf
  have HC := cmp_num hb hq
  obtain ⟨ro, rn, rc, rfl, -, rz, -, -⟩ := hr.len
  by_cases hTQ : T = Q
  · have hsg : sgn (T : Int) (Q : Int) = 0 := by unfold sgn; rw [if_neg (by omega), if_neg (by omega)]
    rw [hsg] at HC
    have HC' := Lib.hid HC
    have hz := Lib.hid (show rs = decide (0 < rn) by rw [Bool.eq_iff_iff, HZ.out, decide_eq_true_eq]; omega)
    clear HC hsg hTQ rz hb hq hr HZ
    go_wp2_with fail
    refine HC'.out.mono ?_
    rintro en W5 ⟨rfl, bq⟩
    have hhi := hhi.below bq
    have B := B.trans (bq.mono B.size)
    clear bq HC'
    have HM := Lib.hid (small_num hi P W5 hhi (by have := HA.out; omega))
    go_wp2_with fail
    refine HM.out.mono ?_
    rintro en w' ⟨rfl, rfl⟩
    go_wp2_with fail
    go_ret2
    exact ⟨by rw [hz.out]; rfl, B⟩
  · have hsg : sgn (T : Int) (Q : Int) = -1 := by have := Hle.out; unfold sgn; rw [if_pos (by omega)]
    rw [hsg] at HC
    have HC' := Lib.hid HC
    have hz := Lib.hid (show rs = true from HZ.out.2 (.inl hTQ))
    clear HC hsg hTQ rz hb hq hr HZ
    go_wp2_with fail
    refine HC'.out.mono ?_
    rintro en W5 ⟨rfl, bq⟩
    have hhi := hhi.below bq
    have B := B.trans (bq.mono B.size)
    clear bq HC'
    have HM := Lib.hid (small_num hi P W5 hhi (by have := HA.out; omega))
    go_wp2_with fail
    refine HM.out.mono ?_
    rintro en w' ⟨rfl, rfl⟩
    go_wp2_with fail
    go_ret2
    exact ⟨by rw [hz.out]; rfl, B⟩

theorem or_one {m : Int} (h0 : 0 ≤ m) (h1 : m < 4611686018427387904) : bits .or .u64 (m * 2) 1 = m * 2 + 1 := by
  refine bits_join .u64 64 (by decide) ?_ 1 _ _ (by omega) (by omega) (by omega) (by omega) (by omega) (by omega)
  intro n n0 n1
  simp only [IntKind.wrap, IntKind.signed, IntKind.bits]
  simp
  omega
/-- One bit more of a quotient. -/
theorem bit_more {N D i : Nat} (hD : 0 < D) : N * 2 ^ (i + 1) / D = 2 * (N * 2 ^ i / D) + (if D ≤ 2 * (N * 2 ^ i % D) then 1 else 0) ∧ N * 2 ^ (i + 1) % D = (if D ≤ 2 * (N * 2 ^ i % D) then 2 * (N * 2 ^ i % D) - D else 2 * (N * 2 ^ i % D)) := by
  have e : N * 2 ^ (i + 1) = 2 * (N * 2 ^ i) := by rw [Nat.pow_succ, ← Nat.mul_assoc, Nat.mul_comm]
  rw [e]
  generalize N * 2 ^ i = A
  have h1 := Nat.div_add_mod A D
  have h2 := Nat.mod_lt A hD
  generalize A / D = q at *
  generalize A % D = r at *
  subst h1
  have e2 : 2 * (D * q + r) = 2 * r + D * (2 * q) := by
    rw [Nat.mul_add, Nat.mul_left_comm, Nat.add_comm]
  rw [e2, Nat.add_mul_div_left _ _ hD, Nat.add_mul_mod_self_left]
  split
  · rename_i h
    have a : 2 * r = (2 * r - D) + D * 1 := by omega
    rw [a, Nat.add_mul_div_left _ _ hD, Nat.add_mul_mod_self_left, Nat.div_eq_of_lt (by omega), Nat.mod_eq_of_lt (by omega)]
    omega
  · rename_i h
    rw [Nat.div_eq_of_lt (by omega), Nat.mod_eq_of_lt (by omega)]
    omega
theorem part_le {N D i t : Nat} (h : i ≤ t) : N * 2 ^ i / D ≤ N * 2 ^ t / D :=
  Nat.div_le_div_right (Nat.mul_le_mul_left _ (Nat.pow_le_pow_right (by decide) h))
set_option maxHeartbeats 6400000 in
set_option maxRecDepth 100000 in
theorem scaled_down (neg : Bool) (v u : Value) (N D t : Nat) (w : World) (h1 : Num w v N) (h2 : Num w u D) (hD : 0 < D) (_t0 : 0 < t) (t1 : t ≤ 5000) (hA : N * 2 ^ t / D < 4611686018427387904) :
    Calls Try.prog 18 #[.agg #[.bool neg, v, u], .int .i64 (-(t : Int))] w fun en w' => en = .returned (.tuple #[.int .u64 ((N * 2 ^ t / D : Nat) : Int), .bool (decide (N * 2 ^ t % D ≠ 0))]) ∧ Below w.heap.size w w' := by
  have B : Below w.heap.size w (w.alloc (.cells #[.bool neg, v, u] 25)) := (Below.refl _ _).alloc (Nat.le_refl _) _
  have ha := BlockAt.new w #[.bool neg, v, u] 25
  have a1 := h1.below B
  have a2 := h2.below B
  clear h1 h2
  have HDv := Lib.hid (div_num v u N D _ a1 a2 (by omega))
  obtain ⟨c0, c1, c2⟩ := block3 ha
  obtain ⟨z0, hz0⟩ : ∃ z : Int, z = -(t : Int) := ⟨_, rfl⟩
  have hzn : z0 < 0 := by omega
  have hzl : -5000 ≤ z0 := by omega
  rw [← hz0]
  have Hz0 := Lib.hid hz0
  have HA := Lib.hid hA
  have HD := Lib.hid hD
  clear hz0 hA hD a1
  go_enter Try.func18, Try.ntmps18
  go_wp2_with fail
  generalize w.alloc (.cells #[.bool neg, v, u] 25) = W at *
  refine HDv.out.mono ?_
  rintro en W2 ⟨⟨q, r, rfl, hq, hr⟩, bq⟩
  have hq : Num W2 q ((N / D : Nat) : Int) := hq
  have hr : Num W2 r ((N % D : Nat) : Int) := hr
  have ha := ha.below bq
  have a2 := a2.below bq
  have B := B.trans (bq.mono B.size)
  clear bq HDv c0 c1 c2
  have hq64 : ((N / D : Nat) : Int) < 18446744073709551616 := by
    have := part_le (N := N) (D := D) (Nat.zero_le t)
    rw [Nat.pow_zero, Nat.mul_one] at this
    have := HA.out
    omega
  have HM := Lib.hid (small_num q _ W2 hq hq64)
  clear hq64
  go_wp2_with fail
  refine HM.out.mono ?_
  rintro en w' ⟨rfl, rfl⟩
  clear HM hq
  have Hr := Lib.hid hr
  have Ha := Lib.hid ha
  have Hd := Lib.hid a2
  have HB := Lib.hid B
  clear hr ha a2 B
  go_wp2_with fail
  go_loopg [1, 7, 15] t (fun k ve vl vm wr => ∃ (i : Nat) (z : Int), i + k = t ∧ ve = .int .i64 z ∧ Hid (z = -(k : Int)) ∧ z ≤ 0 ∧ -5000 ≤ z ∧ vm = .int .u64 ((N * 2 ^ i / D : Nat) : Int) ∧ Hid (Num wr vl ((N * 2 ^ i % D : Nat) : Int)) ∧ Hid (BlockAt wr w.heap.size #[.bool neg, v, u] 25) ∧ Hid (Num wr u (D : Int)) ∧ Hid (Below w.heap.size w wr))
  case atStart => exact ⟨0, z0, by omega, rfl, Hz0, by omega, hzl, by rw [Nat.pow_zero, Nat.mul_one]; rfl, by rw [Nat.pow_zero, Nat.mul_one]; exact Hr, Ha, Hd, HB⟩
  case round =>
    obtain ⟨i, z, hik, rfl, hz, hz1, hz2, rfl, hl, ha, hd, hbl⟩ := hrel
    by_cases hk0 : gk = 0
    · subst hk0
      obtain rfl : z = 0 := by have := hz.out; omega
      obtain rfl : i = t := by omega
      obtain ⟨ro, rn, rc, rfl, -, rz, -, -⟩ := hl.out.len
      have hzz := Lib.hid (show decide (N * 2 ^ i % D ≠ 0) = decide (0 < rn) by rw [decide_eq_decide]; omega)
      obtain ⟨m, hm⟩ : ∃ m, N * 2 ^ i / D = m := ⟨_, rfl⟩
      have Hm := Lib.hid hm
      rw [hm]
      clear rz hm hz Hz0 hzn hzl HA Hr Ha Hd HB hd ha
      go_wp2_with fail
      go_ret2
      exact ⟨by rw [hzz.out, Hm.out]; rfl, hbl.out⟩
    · have hzneg : z < 0 := by have := hz.out; omega
      have hzs := Lib.hid (show z + 1 = -((gk - 1 : Nat) : Int) by have := hz.out; omega)
      obtain ⟨e1, e2⟩ := bit_more (N := N) (i := i) HD.out
      have hml := part_le (N := N) (D := D) (show i ≤ t by omega)
      have hrl := Nat.mod_lt (N * 2 ^ i) HD.out
      have hmb : N * 2 ^ i / D < 4611686018427387904 := by have := HA.out; omega
      obtain ⟨m, hm⟩ : ∃ m, N * 2 ^ i / D = m := ⟨_, rfl⟩
      obtain ⟨R, hR⟩ : ∃ R, N * 2 ^ i % D = R := ⟨_, rfl⟩
      rw [hm] at hmb e1 ⊢
      rw [hR] at e1 e2 hl hrl
      clear hml hm hR
      have E1 := Lib.hid e1
      have E2 := Lib.hid e2
      have hik2 := Lib.hid (show i + 1 + (gk - 1) = t by omega)
      have hlt := Lib.hid (show gk - 1 < gk by omega)
      have HS := Lib.hid (sub_num u _ (D : Int) (R : Int) wr hd.out hl.out (by omega))
      have hdr := hd.out.range
      obtain ⟨c0, c1, c2⟩ := block3 ha.out
      have hw := wrap_in (x := (m : Int) * 2) (by omega) (by omega)
      have hor := or_one (m := (m : Int)) (by omega) (by omega)
      have hm0 : (0 : Int) ≤ (m : Int) * 2 := by omega
      have hm1 : (m : Int) * 2 < 9223372036854775808 := by omega
      clear hk0 hz e1 e2 Hz0 hzn hzl HA Hr Ha Hd HB
      go_wp2_with fail
      refine HS.out.mono ?_
      rintro en W3 ⟨⟨ms, rfl, hms⟩, bq⟩
      have Ha := Lib.hid (ha.out.below bq)
      have Hd := Lib.hid (hd.out.below bq)
      have Hl := Lib.hid (hl.out.below bq)
      have HB := Lib.hid (hbl.out.trans (bq.mono hbl.out.size))
      have Hms := Lib.hid hms
      clear bq HS c0 c1 c2 ha hd hl hbl hms
      have HC := cmp_num Hl.out Hms.out
      by_cases hge : D ≤ 2 * R
      · have hg := sgn_ge (A := (R : Int)) (B := (D : Int) - R) (by omega)
        obtain ⟨g, hgg⟩ : ∃ g, sgn (R : Int) ((D : Int) - R) = g := ⟨_, rfl⟩
        rw [hgg] at HC hg
        have HC' := Lib.hid HC
        have E1' := E1.out
        have E2' := E2.out
        rw [if_pos hge] at E1' E2'
        have E3 := Lib.hid E1'
        have E4 := Lib.hid E2'
        have hDR := Lib.hid (show (D : Int) - R ≤ R by omega)
        have hval := Lib.hid (show (R : Int) - ((D : Int) - R) = ((2 * R - D : Nat) : Int) by omega)
        clear HC hgg E1 E2 E1' E2' hge
        go_wp2_with fail
        refine HC'.out.mono ?_
        rintro en W4 ⟨rfl, bq⟩
        have Ha := Lib.hid (Ha.out.below bq)
        have Hd := Lib.hid (Hd.out.below bq)
        have HB := Lib.hid (HB.out.trans (bq.mono HB.out.size))
        have HS := Lib.hid (sub_num _ ms (R : Int) ((D : Int) - R) W4 (Hl.out.below bq) (Hms.out.below bq) hDR.out)
        rw [hval.out] at HS
        clear bq HC' Hl Hms
        go_wp2_with fail
        refine HS.out.mono ?_
        rintro en W5 ⟨⟨nl, rfl, hnl⟩, bq⟩
        have Ha := Lib.hid (Ha.out.below bq)
        have Hd := Lib.hid (Hd.out.below bq)
        have HB := Lib.hid (HB.out.trans (bq.mono HB.out.size))
        have Hnl := Lib.hid hnl
        rw [← E4.out] at Hnl
        clear bq HS hnl hg
        go_wp2_with fail
        go_roundg (gk - 1)
        case measure => exact hlt.out
        case rel => exact ⟨i + 1, z + 1, hik2.out, rfl, hzs, by omega, by omega, by rw [E3.out]; congr 1; omega, Hnl, Ha, Hd, HB⟩
      · have hsg : sgn (R : Int) ((D : Int) - R) = -1 := sgn_less (by omega)
        rw [hsg] at HC
        have HC' := Lib.hid HC
        have E1' := E1.out
        have E2' := E2.out
        rw [if_neg hge] at E1' E2'
        have E3 := Lib.hid E1'
        have E4 := Lib.hid E2'
        have hfit := Lib.hid (show (R : Int) * 2 ^ 1 < pw 16 by omega)
        clear HC hsg E1 E2 E1' E2' hge Hms
        go_wp2_with fail
        refine HC'.out.mono ?_
        rintro en W4 ⟨rfl, bq⟩
        have Ha := Lib.hid (Ha.out.below bq)
        have Hd := Lib.hid (Hd.out.below bq)
        have HB := Lib.hid (HB.out.trans (bq.mono HB.out.size))
        have HS := Lib.hid (shift_up _ (R : Int) 1 W4 (Hl.out.below bq) (by omega))
        clear bq HC' Hl
        go_wp2_with fail
        refine HS.out.mono ?_
        rintro en W5 ⟨hk, bq⟩
        obtain ⟨nl, rfl, hnl⟩ := hk.fine hfit.out
        have Ha := Lib.hid (Ha.out.below bq)
        have Hd := Lib.hid (Hd.out.below bq)
        have HB := Lib.hid (HB.out.trans (bq.mono HB.out.size))
        have hnl2 : Num W5 nl ((2 * R : Nat) : Int) := by
          rw [show ((2 * R : Nat) : Int) = (R : Int) * 2 ^ 1 by omega]
          exact hnl
        have Hnl := Lib.hid hnl2
        rw [← E4.out] at Hnl
        clear bq HS hnl hnl2 hk hfit
        go_wp2_with fail
        go_roundg (gk - 1)
        case measure => exact hlt.out
        case rel => exact ⟨i + 1, z + 1, hik2.out, rfl, hzs, by omega, by omega, by rw [E3.out]; congr 1; omega, Hnl, Ha, Hd, HB⟩
end Go.Proofs.Ytlkadnaoacoicaa
