/- Bits: the floating number's bits that are nearest to a number. -/
import Derived.Test.YtlkadnaoacoicaaRoundJoin
import Derived.Test.YtlkadnaoacoicaaRoundForm
import Derived.Deep.RegionHeld3
import Derived.IntWalk
import Derived.WalkSmall
namespace Go.Proofs.Ytlkadnaoacoicaa
open Go.RowKit NM

/-- Whether a number is one of the floating ones. -/
def exactv (N D : Nat) (L : Int) (mant least : Nat) : Bool := decide (N * up (-(lead L mant least - 1)) / (D * up (lead L mant least - 1)) % 2 = 0) && decide (N * up (-(lead L mant least - 1)) % (D * up (lead L mant least - 1)) = 0)
/-- What Bits answers to a number that is not 0. -/
def BitsPost (x : Rat) (mant least : Nat) (top : Nat) (sg : Int) (e : Ending) : Prop :=
  ∃ L, IsLog x.num.natAbs x.den L ∧
    ((bitv x.num.natAbs x.den L mant least < top ∧ e = .returned (.tuple #[.int .u64 ((bitv x.num.natAbs x.den L mant least : Int) + (if decide (x.num < 0) = true ∧ bitv x.num.natAbs x.den L mant least ≠ 0 then sg else 0)), .bool (exactv x.num.natAbs x.den L mant least), .int .i64 0])) ∨
     (top ≤ bitv x.num.natAbs x.den L mant least ∧ e = .returned (.tuple #[.int .u64 0, .bool false, .int .i64 2])))
theorem scaled_any (neg : Bool) (v u : Value) (N D : Nat) (e : Int) (w : World) (h1 : Num w v N) (h2 : Num w u D) (hD : 0 < D) (e0 : -5000 ≤ e) (e1 : e ≤ 5000) (hA : N * up (-e) / (D * up e) < 4611686018427387904) :
    Calls Try.prog 18 #[.agg #[.bool neg, v, u], .int .i64 e] w fun en w' => en = .returned (.tuple #[.int .u64 ((N * up (-e) / (D * up e) : Nat) : Int), .bool (decide (N * up (-e) % (D * up e) ≠ 0))]) ∧ Below w.heap.size w w' := by
  rcases Int.lt_or_le e 0 with h | h
  · have u1 : up e = 1 := by unfold up; rw [show e.toNat = 0 by omega]
    have u2 : up (-e) = 2 ^ (-e).toNat := rfl
    rw [u1, u2, Nat.mul_one] at hA ⊢
    have := scaled_down neg v u N D (-e).toNat w h1 h2 hD (by omega) (by omega) hA
    rw [show -(((-e).toNat : Nat) : Int) = e by omega] at this
    exact this
  · have u1 : up (-e) = 1 := by unfold up; rw [show (-e).toNat = 0 by omega]
    rw [u1, Nat.mul_one] at hA ⊢
    exact scaled_up neg v u N D e w h1 h2 hD h (by omega) (by omega)
/-- How great what is rounded may be. -/
theorem lead_facts {N D : Nat} {L : Int} {mant least : Nat} (hm : 0 < mant) (hD : 0 < D) (l : IsLog N D L) :
    N * up (-(lead L mant least - 1)) / (D * up (lead L mant least - 1)) < 2 ^ (mant + 1) ∧ rnd (N * up (-(lead L mant least - 1))) (D * up (lead L mant least - 1)) ≤ 2 * 2 ^ (mant - 1) ∧
    (-(least : Int) < lead L mant least → 2 ^ (mant - 1) ≤ rnd (N * up (-(lead L mant least - 1))) (D * up (lead L mant least - 1))) := by
  have p1 : 2 ^ mant = 2 * 2 ^ (mant - 1) := by rw [Nat.mul_comm, ← Nat.pow_succ]; congr 1; omega
  have p2 : 2 ^ (mant + 1) = 2 * (2 * 2 ^ (mant - 1)) := by rw [Nat.pow_succ, p1, Nat.mul_comm]
  have p0 : 0 < 2 ^ (mant - 1) := Nat.pow_pos (by decide)
  have hB : 0 < D * up (lead L mant least - 1) := Nat.mul_pos hD (up_pos _)
  have hi := log_hi (log_later l.hi (show L + 1 ≤ (lead L mant least - 1) + (mant + 1 : Nat) by unfold lead; omega))
  refine ⟨?_, ?_, fun hh => ?_⟩
  · exact (Nat.div_lt_iff_lt_mul hB).2 hi
  · rw [p2] at hi
    exact rnd_high hB hi
  · have e : L = (lead L mant least - 1) + mant := by unfold lead at hh ⊢; omega
    have h3 := l.lo
    rw [e] at h3
    have h4 := log_lo h3
    rw [p1] at h4
    exact rnd_low hB p0 h4
theorem rnd_cases (A B : Nat) : (A / B % 2 = 0 ∧ rnd A B = A / B / 2) ∨ (A / B % 2 = 1 ∧ A % B ≠ 0 ∧ rnd A B = A / B / 2 + 1) ∨ (A / B % 2 = 1 ∧ A % B = 0 ∧ A / B / 2 % 2 = 1 ∧ rnd A B = A / B / 2 + 1) ∨ (A / B % 2 = 1 ∧ A % B = 0 ∧ A / B / 2 % 2 = 0 ∧ rnd A B = A / B / 2) := by
  unfold rnd
  generalize A / B = q
  generalize A % B = r
  split <;> omega
theorem ret3_same {a b : Int} {x : Bool} (h : a = b) : Ending.returned (.tuple #[.int .u64 a, .bool x, .int .i64 0]) = .returned (.tuple #[.int .u64 b, .bool x, .int .i64 0]) := by rw [h]
set_option maxHeartbeats 100000000 in
set_option maxRecDepth 100000 in
theorem bits32_num (v : Value) (x : Rat) (w : World) (h : RatN w v x) (hx : 0 < x.num.natAbs) :
    Calls Try.prog 6 #[v, .int .i64 32] w fun e w' => BitsPost x 24 149 2139095040 2147483648 e ∧ Below w.heap.size w w' := by
  have R := fun (W : World) (B : Below w.heap.size w W) => right_rat (h.below B)
  obtain ⟨n, d, rfl, h1, h2⟩ := h
  have hxd := den_pos x
  unfold BitsPost
  generalize hN : x.num.natAbs = N at *
  generalize hDD : x.den = D at *
  generalize decide (x.num < 0) = neg at *
  have b1 : Below w.heap.size w (w.alloc (.cells #[.bool neg, n, d] 25)) := (Below.refl _ _).alloc (Nat.le_refl _) _
  have ha := BlockAt.new w #[.bool neg, n, d] 25
  have R := Lib.hid R
  clear hN hDD
  have HF := Lib.hid (form_any 32 (w.alloc (.cells #[.bool neg, n, d] 25)) (by decide))
  rw [show formV 32 = (24, 149, 104, true) from rfl] at HF
  go_enter Try.func6, Try.ntmps6
  go_wp2_with fail
  refine HF.out.mono ?_
  rintro e W1 ⟨rfl, bq⟩
  have B := b1.trans (bq.mono b1.size)
  have ha := ha.below bq
  clear bq b1 HF
  have b4 : Below W1.heap.size W1 (W1.alloc (.cells #[.int .i64 24, .int .i64 149, .int .i64 104] 46)) := (Below.refl _ _).alloc (Nat.le_refl _) _
  have hf := BlockAt.new W1 #[.int .i64 24, .int .i64 149, .int .i64 104] 46
  have ha := ha.below b4
  have B := B.trans (b4.mono B.size)
  have HR := Lib.hid (R.out _ B)
  clear b4
  obtain ⟨c0, c1, c2⟩ := block3 ha
  go_wp2_with fail
  generalize W1.alloc (.cells #[.int .i64 24, .int .i64 149, .int .i64 104] 46) = U at *
  obtain ⟨pf, hpf⟩ : ∃ p, W1.heap.size = p := ⟨_, rfl⟩
  rw [hpf] at hf ⊢
  clear hpf
  refine HR.out.mono ?_
  rintro e W2 ⟨rfl, bq⟩
  have ha := ha.below bq
  have hf := hf.below bq
  have B := B.trans (bq.mono B.size)
  clear bq HR R c0 c1 c2
  have h1 := h1.below B
  have h2 := h2.below B
  obtain ⟨lo, ln, lc, rfl, -, lz, -, -⟩ := h1.len
  have hln : ((ln : Int) == 0) = false := by rw [beq_eq_false_iff_ne]; omega
  clear lz
  obtain ⟨c0, c1, c2⟩ := block3 ha
  obtain ⟨f0, f1, f2⟩ := block3 hf
  go_wp2_with fail
  have D0 := (Below.refl W2.heap.size W2).drew
  have ha := ha.below D0
  have hf := hf.below D0
  have h1 := h1.below D0
  have h2 := h2.below D0
  have B := B.drew
  clear D0 c0 c1 c2 f0 f1 f2
  obtain ⟨c0, c1, c2⟩ := block3 ha
  obtain ⟨f0, f1, f2⟩ := block3 hf
  skip
  have hw3 : IntKind.i64.wrap (-149) = -149 := by decide
  go_region_held3 (fun w' => w'.cell? ⟨w.heap.size, 0, none⟩ = some (.bool neg) ∧ w'.cell? ⟨w.heap.size, 1, none⟩ = some (.slice lo ln lc) ∧ w'.cell? ⟨w.heap.size, 2, none⟩ = some d ∧ w'.cell? ⟨pf, 0, none⟩ = some (.int .i64 24) ∧ w'.cell? ⟨pf, 1, none⟩ = some (.int .i64 149))
    (first | go_keep | (exact ⟨c0, c1, c2, f0, f1⟩))
    (first | (go_at_call 17; refine (log_rat neg _ _ N D _ h1 h2 hx hxd).mono ?_; rintro e W3 ⟨⟨L, rfl, hl, l0, l1⟩, bq⟩; have ha := ha.below bq; have hf := hf.below bq; have h1 := h1.below bq; have h2 := h2.below bq; have B := B.trans (bq.mono B.size); clear bq c0 c1 c2 f0 f1 f2; obtain ⟨c0, c1, c2⟩ := block3 ha; obtain ⟨f0, f1, f2⟩ := block3 hf; have hw1 : IntKind.i64.wrap (L - 24) = L - 24 := IntWalk.i64_in _ (by omega); have hw2 : IntKind.i64.wrap (L - 24 + 1) = L - 24 + 1 := IntWalk.i64_in _ (by omega)))
  obtain ⟨k1, k2, k3⟩ := lead_facts (mant := 24) (least := 149) (by decide) hxd hl
  have hbv : bitv N D L 24 149 = rnd (N * up (-(lead L 24 149 - 1))) (D * up (lead L 24 149 - 1)) + (lead L 24 149 + 149).toNat * 8388608 := rfl
  have hev : exactv N D L 24 149 = (decide (N * up (-(lead L 24 149 - 1)) / (D * up (lead L 24 149 - 1)) % 2 = 0) && decide (N * up (-(lead L 24 149 - 1)) % (D * up (lead L 24 149 - 1)) = 0)) := rfl
  have hE0 : -149 ≤ lead L 24 149 := by unfold lead; omega
  have hE1 : lead L 24 149 ≤ 1000 := by unfold lead; omega
  have hmax : max (L - 24 + 1) (-149) = lead L 24 149 := rfl
  have HS := scaled_any neg _ _ N D (lead L 24 149 - 1) _ h1 h2 hxd (by omega) (by omega) (Nat.lt_trans k1 (by decide))
  obtain ⟨bv, hbv0⟩ : ∃ b, bitv N D L 24 149 = b := ⟨_, rfl⟩
  rw [hbv0] at hbv
  obtain ⟨ev, hev0⟩ : ∃ b, exactv N D L 24 149 = b := ⟨_, rfl⟩
  rw [hev0] at hev
  have rc := rnd_cases (N * up (-(lead L 24 149 - 1))) (D * up (lead L 24 149 - 1))
  generalize rnd (N * up (-(lead L 24 149 - 1))) (D * up (lead L 24 149 - 1)) = M at *
  generalize N * up (-(lead L 24 149 - 1)) / (D * up (lead L 24 149 - 1)) = m2 at *
  generalize N * up (-(lead L 24 149 - 1)) % (D * up (lead L 24 149 - 1)) = rs at *
  generalize lead L 24 149 = E at *
  have k4 : m2 < 33554432 := k1
  have K2 := Lib.hid (show M ≤ 16777216 from k2)
  have K3 := Lib.hid (show -149 < E → 8388608 ≤ M from k3)
  clear k1
  have HS2 := Lib.hid HS
  have Hbv := Lib.hid hbv
  have Hbv0 := Lib.hid hbv0
  have Hev0 := Lib.hid hev0
  have Hev := Lib.hid hev
  have Hl := Lib.hid hl
  clear hbv hbv0 hev hev0 hl k3 k2 h1 h2 hw1 hw2 l0 l1 HS
  go_wp2_with fail
  refine HS2.out.mono ?_
  rintro e W4 ⟨rfl, bq⟩
  have ha := ha.below bq
  have hf := hf.below bq
  have B := B.trans (bq.mono B.size)
  clear bq HS2 c0 c1 c2 f0 f1 f2
  obtain ⟨c0, c1, c2⟩ := block3 ha
  obtain ⟨f0, f1, f2⟩ := block3 hf
  have hand := and_one_u64 (m2 : Int) (by omega) (by omega)
  have hand2 := and_one_u64 ((m2 : Int) / 2) (by omega) (by omega)
  have HB := Lib.hid B
  clear B
  rcases rc with ⟨r1, r2⟩ | ⟨r1, r2, r3⟩ | ⟨r1, r2, r3, r4⟩ | ⟨r1, r2, r3, r4⟩
  · have q1 : (((m2 : Int) % 2) == 0) = true := by rw [beq_iff_eq]; omega
    have q2 : (((m2 : Int) % 2) != 0) = false := by rw [bne_eq_false_iff_eq]; omega
    have hM : M = m2 / 2 := r2
    have HX := Lib.hid (show ev = decide (rs = 0) by rw [Hev.out]; simp [r1])
    clear r1 r2
    obtain ⟨Mi, hMi⟩ : ∃ Mi : Int, ((m2 : Int) / 2) = Mi := ⟨_, rfl⟩
    have HMM := Lib.hid (show (M : Int) = Mi by omega)
    have b0 : 0 ≤ Mi := by omega
    have b2 : Mi ≤ 16777216 := by have := K2.out; omega
    clear hM
    by_cases hc : Mi = 16777216
    · exfalso
      omega
    · have s1 : ((Mi / 16777216) != 0) = false := by rw [bne_eq_false_iff_eq]; omega
      by_cases ho : E ≤ 104
      · by_cases hz : Mi = 0
        · subst hz
          cases neg
          · skip
            have HJ := Lib.hid (join32_zero E false W4)
            go_wp2_with fail
            refine HJ.out.mono ?_
            rintro e W5 ⟨rfl, bq⟩
            clear c0 c1 c2 f0 f1 f2 HJ
            go_wp2_with fail
            go_ret3
            have hb := Hbv.out
            have hk2 := K2.out
            have hk3 := K3.out
            have hMM := HMM.out
            refine ⟨⟨L, Hl.out, .inl ?_⟩, HB.out.trans (bq.mono HB.out.size)⟩
            rw [Hbv0.out, Hev0.out]
            refine ⟨by omega, ?_⟩
            rw [HX.out]
            show Ending.returned (.tuple #[.int .u64 _, .bool _, .int .i64 0]) = _
            refine ret3_same ?_
            first | omega | (rw [if_neg (by simp)]; omega) | (split <;> omega)
          · skip
            have HJ := Lib.hid (join32_zero E true W4)
            go_wp2_with fail
            refine HJ.out.mono ?_
            rintro e W5 ⟨rfl, bq⟩
            clear c0 c1 c2 f0 f1 f2 HJ
            go_wp2_with fail
            go_ret3
            have hb := Hbv.out
            have hk2 := K2.out
            have hk3 := K3.out
            have hMM := HMM.out
            refine ⟨⟨L, Hl.out, .inl ?_⟩, HB.out.trans (bq.mono HB.out.size)⟩
            rw [Hbv0.out, Hev0.out]
            refine ⟨by omega, ?_⟩
            rw [HX.out]
            show Ending.returned (.tuple #[.int .u64 _, .bool _, .int .i64 0]) = _
            refine ret3_same ?_
            first | omega | (rw [if_neg (by simp)]; omega) | (split <;> omega)
        · by_cases hlow : Mi < 8388608
          · skip
            cases neg
            · skip
              have HJ := Lib.hid (join32_low_f Mi E (by omega) (by omega) W4)
              go_wp2_with fail
              refine HJ.out.mono ?_
              rintro e W5 ⟨rfl, bq⟩
              clear c0 c1 c2 f0 f1 f2 HJ
              go_wp2_with fail
              go_ret3
              have hb := Hbv.out
              have hk2 := K2.out
              have hk3 := K3.out
              have hMM := HMM.out
              refine ⟨⟨L, Hl.out, .inl ?_⟩, HB.out.trans (bq.mono HB.out.size)⟩
              rw [Hbv0.out, Hev0.out]
              refine ⟨by omega, ?_⟩
              rw [HX.out]
              show Ending.returned (.tuple #[.int .u64 _, .bool _, .int .i64 0]) = _
              refine ret3_same ?_
              first | omega | (rw [if_neg (by simp)]; omega) | (split <;> omega)
            · skip
              have HJ := Lib.hid (join32_low_t Mi E (by omega) (by omega) W4)
              go_wp2_with fail
              refine HJ.out.mono ?_
              rintro e W5 ⟨rfl, bq⟩
              clear c0 c1 c2 f0 f1 f2 HJ
              go_wp2_with fail
              go_ret3
              have hb := Hbv.out
              have hk2 := K2.out
              have hk3 := K3.out
              have hMM := HMM.out
              refine ⟨⟨L, Hl.out, .inl ?_⟩, HB.out.trans (bq.mono HB.out.size)⟩
              rw [Hbv0.out, Hev0.out]
              refine ⟨by omega, ?_⟩
              rw [HX.out]
              show Ending.returned (.tuple #[.int .u64 _, .bool _, .int .i64 0]) = _
              refine ret3_same ?_
              first | omega | (rw [if_neg (by simp)]; omega) | (split <;> omega)
          · skip
            cases neg
            · skip
              have HJ := Lib.hid (join32_high_f Mi E (by omega) (by omega) (by omega) (by omega) W4)
              go_wp2_with fail
              refine HJ.out.mono ?_
              rintro e W5 ⟨rfl, bq⟩
              clear c0 c1 c2 f0 f1 f2 HJ
              go_wp2_with fail
              go_ret3
              have hb := Hbv.out
              have hk2 := K2.out
              have hk3 := K3.out
              have hMM := HMM.out
              refine ⟨⟨L, Hl.out, .inl ?_⟩, HB.out.trans (bq.mono HB.out.size)⟩
              rw [Hbv0.out, Hev0.out]
              refine ⟨by omega, ?_⟩
              rw [HX.out]
              show Ending.returned (.tuple #[.int .u64 _, .bool _, .int .i64 0]) = _
              refine ret3_same ?_
              first | omega | (rw [if_neg (by simp)]; omega) | (split <;> omega)
            · skip
              have HJ := Lib.hid (join32_high_t Mi E (by omega) (by omega) (by omega) (by omega) W4)
              go_wp2_with fail
              refine HJ.out.mono ?_
              rintro e W5 ⟨rfl, bq⟩
              clear c0 c1 c2 f0 f1 f2 HJ
              go_wp2_with fail
              go_ret3
              have hb := Hbv.out
              have hk2 := K2.out
              have hk3 := K3.out
              have hMM := HMM.out
              refine ⟨⟨L, Hl.out, .inl ?_⟩, HB.out.trans (bq.mono HB.out.size)⟩
              rw [Hbv0.out, Hev0.out]
              refine ⟨by omega, ?_⟩
              rw [HX.out]
              show Ending.returned (.tuple #[.int .u64 _, .bool _, .int .i64 0]) = _
              refine ret3_same ?_
              first | omega | (rw [if_neg (by simp)]; omega) | (split <;> omega)
      · skip
        go_wp2_with fail
        go_ret3
        refine ⟨⟨L, Hl.out, .inr ?_⟩, HB.out⟩
        rw [Hbv0.out]
        have hb := Hbv.out
        have hk2 := K2.out
        have hk3 := K3.out
        have hMM := HMM.out
        exact ⟨by omega, rfl⟩
  · have q2 : (((m2 : Int) % 2) != 0) = true := by rw [bne_iff_ne]; omega
    have HX := Lib.hid (show ev = false by rw [Hev.out]; simp [r1])
    have q3 : decide (rs ≠ 0) = true := by rw [decide_eq_true_eq]; exact r2
    have hM : M = m2 / 2 + 1 := r3
    clear r1 r2 r3
    obtain ⟨Mi, hMi⟩ : ∃ Mi : Int, ((m2 : Int) / 2 + 1) = Mi := ⟨_, rfl⟩
    have HMM := Lib.hid (show (M : Int) = Mi by omega)
    have b0 : 0 ≤ Mi := by omega
    have b2 : Mi ≤ 16777216 := by have := K2.out; omega
    clear hM
    by_cases hc : Mi = 16777216
    · subst hc
      by_cases ho : E + 1 ≤ 104
      · skip
        cases neg
        · skip
          have HJ := Lib.hid (join32_high_f 8388608 (E + 1) (by omega) (by omega) (by omega) (by omega) W4)
          go_wp2_with fail
          refine HJ.out.mono ?_
          rintro e W5 ⟨rfl, bq⟩
          clear c0 c1 c2 f0 f1 f2 HJ
          go_wp2_with fail
          go_ret3
          have hb := Hbv.out
          have hk2 := K2.out
          have hk3 := K3.out
          have hMM := HMM.out
          refine ⟨⟨L, Hl.out, .inl ?_⟩, HB.out.trans (bq.mono HB.out.size)⟩
          rw [Hbv0.out, Hev0.out]
          refine ⟨by omega, ?_⟩
          rw [HX.out]
          show Ending.returned (.tuple #[.int .u64 _, .bool _, .int .i64 0]) = _
          refine ret3_same ?_
          first | omega | (rw [if_neg (by simp)]; omega) | (split <;> omega)
        · skip
          have HJ := Lib.hid (join32_high_t 8388608 (E + 1) (by omega) (by omega) (by omega) (by omega) W4)
          go_wp2_with fail
          refine HJ.out.mono ?_
          rintro e W5 ⟨rfl, bq⟩
          clear c0 c1 c2 f0 f1 f2 HJ
          go_wp2_with fail
          go_ret3
          have hb := Hbv.out
          have hk2 := K2.out
          have hk3 := K3.out
          have hMM := HMM.out
          refine ⟨⟨L, Hl.out, .inl ?_⟩, HB.out.trans (bq.mono HB.out.size)⟩
          rw [Hbv0.out, Hev0.out]
          refine ⟨by omega, ?_⟩
          rw [HX.out]
          show Ending.returned (.tuple #[.int .u64 _, .bool _, .int .i64 0]) = _
          refine ret3_same ?_
          first | omega | (rw [if_neg (by simp)]; omega) | (split <;> omega)
      · skip
        go_wp2_with fail
        go_ret3
        refine ⟨⟨L, Hl.out, .inr ?_⟩, HB.out⟩
        rw [Hbv0.out]
        have hb := Hbv.out
        have hk2 := K2.out
        have hk3 := K3.out
        have hMM := HMM.out
        exact ⟨by omega, rfl⟩
    · have s1 : ((Mi / 16777216) != 0) = false := by rw [bne_eq_false_iff_eq]; omega
      by_cases ho : E ≤ 104
      · by_cases hz : Mi = 0
        · exfalso
          omega
        · by_cases hlow : Mi < 8388608
          · skip
            cases neg
            · skip
              have HJ := Lib.hid (join32_low_f Mi E (by omega) (by omega) W4)
              go_wp2_with fail
              refine HJ.out.mono ?_
              rintro e W5 ⟨rfl, bq⟩
              clear c0 c1 c2 f0 f1 f2 HJ
              go_wp2_with fail
              go_ret3
              have hb := Hbv.out
              have hk2 := K2.out
              have hk3 := K3.out
              have hMM := HMM.out
              refine ⟨⟨L, Hl.out, .inl ?_⟩, HB.out.trans (bq.mono HB.out.size)⟩
              rw [Hbv0.out, Hev0.out]
              refine ⟨by omega, ?_⟩
              rw [HX.out]
              show Ending.returned (.tuple #[.int .u64 _, .bool _, .int .i64 0]) = _
              refine ret3_same ?_
              first | omega | (rw [if_neg (by simp)]; omega) | (split <;> omega)
            · skip
              have HJ := Lib.hid (join32_low_t Mi E (by omega) (by omega) W4)
              go_wp2_with fail
              refine HJ.out.mono ?_
              rintro e W5 ⟨rfl, bq⟩
              clear c0 c1 c2 f0 f1 f2 HJ
              go_wp2_with fail
              go_ret3
              have hb := Hbv.out
              have hk2 := K2.out
              have hk3 := K3.out
              have hMM := HMM.out
              refine ⟨⟨L, Hl.out, .inl ?_⟩, HB.out.trans (bq.mono HB.out.size)⟩
              rw [Hbv0.out, Hev0.out]
              refine ⟨by omega, ?_⟩
              rw [HX.out]
              show Ending.returned (.tuple #[.int .u64 _, .bool _, .int .i64 0]) = _
              refine ret3_same ?_
              first | omega | (rw [if_neg (by simp)]; omega) | (split <;> omega)
          · skip
            cases neg
            · skip
              have HJ := Lib.hid (join32_high_f Mi E (by omega) (by omega) (by omega) (by omega) W4)
              go_wp2_with fail
              refine HJ.out.mono ?_
              rintro e W5 ⟨rfl, bq⟩
              clear c0 c1 c2 f0 f1 f2 HJ
              go_wp2_with fail
              go_ret3
              have hb := Hbv.out
              have hk2 := K2.out
              have hk3 := K3.out
              have hMM := HMM.out
              refine ⟨⟨L, Hl.out, .inl ?_⟩, HB.out.trans (bq.mono HB.out.size)⟩
              rw [Hbv0.out, Hev0.out]
              refine ⟨by omega, ?_⟩
              rw [HX.out]
              show Ending.returned (.tuple #[.int .u64 _, .bool _, .int .i64 0]) = _
              refine ret3_same ?_
              first | omega | (rw [if_neg (by simp)]; omega) | (split <;> omega)
            · skip
              have HJ := Lib.hid (join32_high_t Mi E (by omega) (by omega) (by omega) (by omega) W4)
              go_wp2_with fail
              refine HJ.out.mono ?_
              rintro e W5 ⟨rfl, bq⟩
              clear c0 c1 c2 f0 f1 f2 HJ
              go_wp2_with fail
              go_ret3
              have hb := Hbv.out
              have hk2 := K2.out
              have hk3 := K3.out
              have hMM := HMM.out
              refine ⟨⟨L, Hl.out, .inl ?_⟩, HB.out.trans (bq.mono HB.out.size)⟩
              rw [Hbv0.out, Hev0.out]
              refine ⟨by omega, ?_⟩
              rw [HX.out]
              show Ending.returned (.tuple #[.int .u64 _, .bool _, .int .i64 0]) = _
              refine ret3_same ?_
              first | omega | (rw [if_neg (by simp)]; omega) | (split <;> omega)
      · skip
        go_wp2_with fail
        go_ret3
        refine ⟨⟨L, Hl.out, .inr ?_⟩, HB.out⟩
        rw [Hbv0.out]
        have hb := Hbv.out
        have hk2 := K2.out
        have hk3 := K3.out
        have hMM := HMM.out
        exact ⟨by omega, rfl⟩
  · have q2 : (((m2 : Int) % 2) != 0) = true := by rw [bne_iff_ne]; omega
    have HX := Lib.hid (show ev = false by rw [Hev.out]; simp [r1])
    have q3 : decide (rs ≠ 0) = false := by rw [decide_eq_false_iff_not]; omega
    have q4 : (((m2 : Int) / 2 % 2) != 0) = true := by rw [bne_iff_ne]; omega
    have hM : M = m2 / 2 + 1 := r4
    clear r1 r2 r3 r4
    obtain ⟨Mi, hMi⟩ : ∃ Mi : Int, ((m2 : Int) / 2 + 1) = Mi := ⟨_, rfl⟩
    have HMM := Lib.hid (show (M : Int) = Mi by omega)
    have b0 : 0 ≤ Mi := by omega
    have b2 : Mi ≤ 16777216 := by have := K2.out; omega
    clear hM
    by_cases hc : Mi = 16777216
    · subst hc
      by_cases ho : E + 1 ≤ 104
      · skip
        cases neg
        · skip
          have HJ := Lib.hid (join32_high_f 8388608 (E + 1) (by omega) (by omega) (by omega) (by omega) W4)
          go_wp2_with fail
          refine HJ.out.mono ?_
          rintro e W5 ⟨rfl, bq⟩
          clear c0 c1 c2 f0 f1 f2 HJ
          go_wp2_with fail
          go_ret3
          have hb := Hbv.out
          have hk2 := K2.out
          have hk3 := K3.out
          have hMM := HMM.out
          refine ⟨⟨L, Hl.out, .inl ?_⟩, HB.out.trans (bq.mono HB.out.size)⟩
          rw [Hbv0.out, Hev0.out]
          refine ⟨by omega, ?_⟩
          rw [HX.out]
          show Ending.returned (.tuple #[.int .u64 _, .bool _, .int .i64 0]) = _
          refine ret3_same ?_
          first | omega | (rw [if_neg (by simp)]; omega) | (split <;> omega)
        · skip
          have HJ := Lib.hid (join32_high_t 8388608 (E + 1) (by omega) (by omega) (by omega) (by omega) W4)
          go_wp2_with fail
          refine HJ.out.mono ?_
          rintro e W5 ⟨rfl, bq⟩
          clear c0 c1 c2 f0 f1 f2 HJ
          go_wp2_with fail
          go_ret3
          have hb := Hbv.out
          have hk2 := K2.out
          have hk3 := K3.out
          have hMM := HMM.out
          refine ⟨⟨L, Hl.out, .inl ?_⟩, HB.out.trans (bq.mono HB.out.size)⟩
          rw [Hbv0.out, Hev0.out]
          refine ⟨by omega, ?_⟩
          rw [HX.out]
          show Ending.returned (.tuple #[.int .u64 _, .bool _, .int .i64 0]) = _
          refine ret3_same ?_
          first | omega | (rw [if_neg (by simp)]; omega) | (split <;> omega)
      · skip
        go_wp2_with fail
        go_ret3
        refine ⟨⟨L, Hl.out, .inr ?_⟩, HB.out⟩
        rw [Hbv0.out]
        have hb := Hbv.out
        have hk2 := K2.out
        have hk3 := K3.out
        have hMM := HMM.out
        exact ⟨by omega, rfl⟩
    · have s1 : ((Mi / 16777216) != 0) = false := by rw [bne_eq_false_iff_eq]; omega
      by_cases ho : E ≤ 104
      · by_cases hz : Mi = 0
        · exfalso
          omega
        · by_cases hlow : Mi < 8388608
          · skip
            cases neg
            · skip
              have HJ := Lib.hid (join32_low_f Mi E (by omega) (by omega) W4)
              go_wp2_with fail
              refine HJ.out.mono ?_
              rintro e W5 ⟨rfl, bq⟩
              clear c0 c1 c2 f0 f1 f2 HJ
              go_wp2_with fail
              go_ret3
              have hb := Hbv.out
              have hk2 := K2.out
              have hk3 := K3.out
              have hMM := HMM.out
              refine ⟨⟨L, Hl.out, .inl ?_⟩, HB.out.trans (bq.mono HB.out.size)⟩
              rw [Hbv0.out, Hev0.out]
              refine ⟨by omega, ?_⟩
              rw [HX.out]
              show Ending.returned (.tuple #[.int .u64 _, .bool _, .int .i64 0]) = _
              refine ret3_same ?_
              first | omega | (rw [if_neg (by simp)]; omega) | (split <;> omega)
            · skip
              have HJ := Lib.hid (join32_low_t Mi E (by omega) (by omega) W4)
              go_wp2_with fail
              refine HJ.out.mono ?_
              rintro e W5 ⟨rfl, bq⟩
              clear c0 c1 c2 f0 f1 f2 HJ
              go_wp2_with fail
              go_ret3
              have hb := Hbv.out
              have hk2 := K2.out
              have hk3 := K3.out
              have hMM := HMM.out
              refine ⟨⟨L, Hl.out, .inl ?_⟩, HB.out.trans (bq.mono HB.out.size)⟩
              rw [Hbv0.out, Hev0.out]
              refine ⟨by omega, ?_⟩
              rw [HX.out]
              show Ending.returned (.tuple #[.int .u64 _, .bool _, .int .i64 0]) = _
              refine ret3_same ?_
              first | omega | (rw [if_neg (by simp)]; omega) | (split <;> omega)
          · skip
            cases neg
            · skip
              have HJ := Lib.hid (join32_high_f Mi E (by omega) (by omega) (by omega) (by omega) W4)
              go_wp2_with fail
              refine HJ.out.mono ?_
              rintro e W5 ⟨rfl, bq⟩
              clear c0 c1 c2 f0 f1 f2 HJ
              go_wp2_with fail
              go_ret3
              have hb := Hbv.out
              have hk2 := K2.out
              have hk3 := K3.out
              have hMM := HMM.out
              refine ⟨⟨L, Hl.out, .inl ?_⟩, HB.out.trans (bq.mono HB.out.size)⟩
              rw [Hbv0.out, Hev0.out]
              refine ⟨by omega, ?_⟩
              rw [HX.out]
              show Ending.returned (.tuple #[.int .u64 _, .bool _, .int .i64 0]) = _
              refine ret3_same ?_
              first | omega | (rw [if_neg (by simp)]; omega) | (split <;> omega)
            · skip
              have HJ := Lib.hid (join32_high_t Mi E (by omega) (by omega) (by omega) (by omega) W4)
              go_wp2_with fail
              refine HJ.out.mono ?_
              rintro e W5 ⟨rfl, bq⟩
              clear c0 c1 c2 f0 f1 f2 HJ
              go_wp2_with fail
              go_ret3
              have hb := Hbv.out
              have hk2 := K2.out
              have hk3 := K3.out
              have hMM := HMM.out
              refine ⟨⟨L, Hl.out, .inl ?_⟩, HB.out.trans (bq.mono HB.out.size)⟩
              rw [Hbv0.out, Hev0.out]
              refine ⟨by omega, ?_⟩
              rw [HX.out]
              show Ending.returned (.tuple #[.int .u64 _, .bool _, .int .i64 0]) = _
              refine ret3_same ?_
              first | omega | (rw [if_neg (by simp)]; omega) | (split <;> omega)
      · skip
        go_wp2_with fail
        go_ret3
        refine ⟨⟨L, Hl.out, .inr ?_⟩, HB.out⟩
        rw [Hbv0.out]
        have hb := Hbv.out
        have hk2 := K2.out
        have hk3 := K3.out
        have hMM := HMM.out
        exact ⟨by omega, rfl⟩
  · have q2 : (((m2 : Int) % 2) != 0) = true := by rw [bne_iff_ne]; omega
    have HX := Lib.hid (show ev = false by rw [Hev.out]; simp [r1])
    have q3 : decide (rs ≠ 0) = false := by rw [decide_eq_false_iff_not]; omega
    have q4 : (((m2 : Int) / 2 % 2) != 0) = false := by rw [bne_eq_false_iff_eq]; omega
    have hM : M = m2 / 2 := r4
    clear r1 r2 r3 r4
    obtain ⟨Mi, hMi⟩ : ∃ Mi : Int, ((m2 : Int) / 2) = Mi := ⟨_, rfl⟩
    rw [hMi] at hand2 q4
    have HMM := Lib.hid (show (M : Int) = Mi by omega)
    have b0 : 0 ≤ Mi := by omega
    have b2 : Mi ≤ 16777216 := by have := K2.out; omega
    clear hM
    by_cases hc : Mi = 16777216
    · exfalso
      omega
    · have s1 : ((Mi / 16777216) != 0) = false := by rw [bne_eq_false_iff_eq]; omega
      by_cases ho : E ≤ 104
      · by_cases hz : Mi = 0
        · subst hz
          cases neg
          · skip
            have HJ := Lib.hid (join32_zero E false W4)
            go_wp2_with fail
            refine HJ.out.mono ?_
            rintro e W5 ⟨rfl, bq⟩
            clear c0 c1 c2 f0 f1 f2 HJ
            go_wp2_with fail
            go_ret3
            have hb := Hbv.out
            have hk2 := K2.out
            have hk3 := K3.out
            have hMM := HMM.out
            refine ⟨⟨L, Hl.out, .inl ?_⟩, HB.out.trans (bq.mono HB.out.size)⟩
            rw [Hbv0.out, Hev0.out]
            refine ⟨by omega, ?_⟩
            rw [HX.out]
            show Ending.returned (.tuple #[.int .u64 _, .bool _, .int .i64 0]) = _
            refine ret3_same ?_
            first | omega | (rw [if_neg (by simp)]; omega) | (split <;> omega)
          · skip
            have HJ := Lib.hid (join32_zero E true W4)
            go_wp2_with fail
            refine HJ.out.mono ?_
            rintro e W5 ⟨rfl, bq⟩
            clear c0 c1 c2 f0 f1 f2 HJ
            go_wp2_with fail
            go_ret3
            have hb := Hbv.out
            have hk2 := K2.out
            have hk3 := K3.out
            have hMM := HMM.out
            refine ⟨⟨L, Hl.out, .inl ?_⟩, HB.out.trans (bq.mono HB.out.size)⟩
            rw [Hbv0.out, Hev0.out]
            refine ⟨by omega, ?_⟩
            rw [HX.out]
            show Ending.returned (.tuple #[.int .u64 _, .bool _, .int .i64 0]) = _
            refine ret3_same ?_
            first | omega | (rw [if_neg (by simp)]; omega) | (split <;> omega)
        · by_cases hlow : Mi < 8388608
          · skip
            cases neg
            · skip
              have HJ := Lib.hid (join32_low_f Mi E (by omega) (by omega) W4)
              go_wp2_with fail
              refine HJ.out.mono ?_
              rintro e W5 ⟨rfl, bq⟩
              clear c0 c1 c2 f0 f1 f2 HJ
              go_wp2_with fail
              go_ret3
              have hb := Hbv.out
              have hk2 := K2.out
              have hk3 := K3.out
              have hMM := HMM.out
              refine ⟨⟨L, Hl.out, .inl ?_⟩, HB.out.trans (bq.mono HB.out.size)⟩
              rw [Hbv0.out, Hev0.out]
              refine ⟨by omega, ?_⟩
              rw [HX.out]
              show Ending.returned (.tuple #[.int .u64 _, .bool _, .int .i64 0]) = _
              refine ret3_same ?_
              first | omega | (rw [if_neg (by simp)]; omega) | (split <;> omega)
            · skip
              have HJ := Lib.hid (join32_low_t Mi E (by omega) (by omega) W4)
              go_wp2_with fail
              refine HJ.out.mono ?_
              rintro e W5 ⟨rfl, bq⟩
              clear c0 c1 c2 f0 f1 f2 HJ
              go_wp2_with fail
              go_ret3
              have hb := Hbv.out
              have hk2 := K2.out
              have hk3 := K3.out
              have hMM := HMM.out
              refine ⟨⟨L, Hl.out, .inl ?_⟩, HB.out.trans (bq.mono HB.out.size)⟩
              rw [Hbv0.out, Hev0.out]
              refine ⟨by omega, ?_⟩
              rw [HX.out]
              show Ending.returned (.tuple #[.int .u64 _, .bool _, .int .i64 0]) = _
              refine ret3_same ?_
              first | omega | (rw [if_neg (by simp)]; omega) | (split <;> omega)
          · skip
            cases neg
            · skip
              have HJ := Lib.hid (join32_high_f Mi E (by omega) (by omega) (by omega) (by omega) W4)
              go_wp2_with fail
              refine HJ.out.mono ?_
              rintro e W5 ⟨rfl, bq⟩
              clear c0 c1 c2 f0 f1 f2 HJ
              go_wp2_with fail
              go_ret3
              have hb := Hbv.out
              have hk2 := K2.out
              have hk3 := K3.out
              have hMM := HMM.out
              refine ⟨⟨L, Hl.out, .inl ?_⟩, HB.out.trans (bq.mono HB.out.size)⟩
              rw [Hbv0.out, Hev0.out]
              refine ⟨by omega, ?_⟩
              rw [HX.out]
              show Ending.returned (.tuple #[.int .u64 _, .bool _, .int .i64 0]) = _
              refine ret3_same ?_
              first | omega | (rw [if_neg (by simp)]; omega) | (split <;> omega)
            · skip
              have HJ := Lib.hid (join32_high_t Mi E (by omega) (by omega) (by omega) (by omega) W4)
              go_wp2_with fail
              refine HJ.out.mono ?_
              rintro e W5 ⟨rfl, bq⟩
              clear c0 c1 c2 f0 f1 f2 HJ
              go_wp2_with fail
              go_ret3
              have hb := Hbv.out
              have hk2 := K2.out
              have hk3 := K3.out
              have hMM := HMM.out
              refine ⟨⟨L, Hl.out, .inl ?_⟩, HB.out.trans (bq.mono HB.out.size)⟩
              rw [Hbv0.out, Hev0.out]
              refine ⟨by omega, ?_⟩
              rw [HX.out]
              show Ending.returned (.tuple #[.int .u64 _, .bool _, .int .i64 0]) = _
              refine ret3_same ?_
              first | omega | (rw [if_neg (by simp)]; omega) | (split <;> omega)
      · skip
        go_wp2_with fail
        go_ret3
        refine ⟨⟨L, Hl.out, .inr ?_⟩, HB.out⟩
        rw [Hbv0.out]
        have hb := Hbv.out
        have hk2 := K2.out
        have hk3 := K3.out
        have hMM := HMM.out
        exact ⟨by omega, rfl⟩
set_option maxHeartbeats 100000000 in
set_option maxRecDepth 100000 in
theorem bits64_num (v : Value) (x : Rat) (w : World) (h : RatN w v x) (hx : 0 < x.num.natAbs) :
    Calls Try.prog 6 #[v, .int .i64 64] w fun e w' => BitsPost x 53 1074 9218868437227405312 9223372036854775808 e ∧ Below w.heap.size w w' := by
  have R := fun (W : World) (B : Below w.heap.size w W) => right_rat (h.below B)
  obtain ⟨n, d, rfl, h1, h2⟩ := h
  have hxd := den_pos x
  unfold BitsPost
  generalize hN : x.num.natAbs = N at *
  generalize hDD : x.den = D at *
  generalize decide (x.num < 0) = neg at *
  have b1 : Below w.heap.size w (w.alloc (.cells #[.bool neg, n, d] 25)) := (Below.refl _ _).alloc (Nat.le_refl _) _
  have ha := BlockAt.new w #[.bool neg, n, d] 25
  have R := Lib.hid R
  clear hN hDD
  have HF := Lib.hid (form_any 64 (w.alloc (.cells #[.bool neg, n, d] 25)) (by decide))
  rw [show formV 64 = (53, 1074, 971, true) from rfl] at HF
  go_enter Try.func6, Try.ntmps6
  go_wp2_with fail
  refine HF.out.mono ?_
  rintro e W1 ⟨rfl, bq⟩
  have B := b1.trans (bq.mono b1.size)
  have ha := ha.below bq
  clear bq b1 HF
  have b4 : Below W1.heap.size W1 (W1.alloc (.cells #[.int .i64 53, .int .i64 1074, .int .i64 971] 46)) := (Below.refl _ _).alloc (Nat.le_refl _) _
  have hf := BlockAt.new W1 #[.int .i64 53, .int .i64 1074, .int .i64 971] 46
  have ha := ha.below b4
  have B := B.trans (b4.mono B.size)
  have HR := Lib.hid (R.out _ B)
  clear b4
  obtain ⟨c0, c1, c2⟩ := block3 ha
  go_wp2_with fail
  generalize W1.alloc (.cells #[.int .i64 53, .int .i64 1074, .int .i64 971] 46) = U at *
  obtain ⟨pf, hpf⟩ : ∃ p, W1.heap.size = p := ⟨_, rfl⟩
  rw [hpf] at hf ⊢
  clear hpf
  refine HR.out.mono ?_
  rintro e W2 ⟨rfl, bq⟩
  have ha := ha.below bq
  have hf := hf.below bq
  have B := B.trans (bq.mono B.size)
  clear bq HR R c0 c1 c2
  have h1 := h1.below B
  have h2 := h2.below B
  obtain ⟨lo, ln, lc, rfl, -, lz, -, -⟩ := h1.len
  have hln : ((ln : Int) == 0) = false := by rw [beq_eq_false_iff_ne]; omega
  clear lz
  obtain ⟨c0, c1, c2⟩ := block3 ha
  obtain ⟨f0, f1, f2⟩ := block3 hf
  go_wp2_with fail
  have D0 := (Below.refl W2.heap.size W2).drew
  have ha := ha.below D0
  have hf := hf.below D0
  have h1 := h1.below D0
  have h2 := h2.below D0
  have B := B.drew
  clear D0 c0 c1 c2 f0 f1 f2
  obtain ⟨c0, c1, c2⟩ := block3 ha
  obtain ⟨f0, f1, f2⟩ := block3 hf
  skip
  have hw3 : IntKind.i64.wrap (-1074) = -1074 := by decide
  go_region_held3 (fun w' => w'.cell? ⟨w.heap.size, 0, none⟩ = some (.bool neg) ∧ w'.cell? ⟨w.heap.size, 1, none⟩ = some (.slice lo ln lc) ∧ w'.cell? ⟨w.heap.size, 2, none⟩ = some d ∧ w'.cell? ⟨pf, 0, none⟩ = some (.int .i64 53) ∧ w'.cell? ⟨pf, 1, none⟩ = some (.int .i64 1074))
    (first | go_keep | (exact ⟨c0, c1, c2, f0, f1⟩))
    (first | (go_at_call 17; refine (log_rat neg _ _ N D _ h1 h2 hx hxd).mono ?_; rintro e W3 ⟨⟨L, rfl, hl, l0, l1⟩, bq⟩; have ha := ha.below bq; have hf := hf.below bq; have h1 := h1.below bq; have h2 := h2.below bq; have B := B.trans (bq.mono B.size); clear bq c0 c1 c2 f0 f1 f2; obtain ⟨c0, c1, c2⟩ := block3 ha; obtain ⟨f0, f1, f2⟩ := block3 hf; have hw1 : IntKind.i64.wrap (L - 53) = L - 53 := IntWalk.i64_in _ (by omega); have hw2 : IntKind.i64.wrap (L - 53 + 1) = L - 53 + 1 := IntWalk.i64_in _ (by omega)))
  obtain ⟨k1, k2, k3⟩ := lead_facts (mant := 53) (least := 1074) (by decide) hxd hl
  have hbv : bitv N D L 53 1074 = rnd (N * up (-(lead L 53 1074 - 1))) (D * up (lead L 53 1074 - 1)) + (lead L 53 1074 + 1074).toNat * 4503599627370496 := rfl
  have hev : exactv N D L 53 1074 = (decide (N * up (-(lead L 53 1074 - 1)) / (D * up (lead L 53 1074 - 1)) % 2 = 0) && decide (N * up (-(lead L 53 1074 - 1)) % (D * up (lead L 53 1074 - 1)) = 0)) := rfl
  have hE0 : -1074 ≤ lead L 53 1074 := by unfold lead; omega
  have hE1 : lead L 53 1074 ≤ 1000 := by unfold lead; omega
  have hmax : max (L - 53 + 1) (-1074) = lead L 53 1074 := rfl
  have HS := scaled_any neg _ _ N D (lead L 53 1074 - 1) _ h1 h2 hxd (by omega) (by omega) (Nat.lt_trans k1 (by decide))
  obtain ⟨bv, hbv0⟩ : ∃ b, bitv N D L 53 1074 = b := ⟨_, rfl⟩
  rw [hbv0] at hbv
  obtain ⟨ev, hev0⟩ : ∃ b, exactv N D L 53 1074 = b := ⟨_, rfl⟩
  rw [hev0] at hev
  have rc := rnd_cases (N * up (-(lead L 53 1074 - 1))) (D * up (lead L 53 1074 - 1))
  generalize rnd (N * up (-(lead L 53 1074 - 1))) (D * up (lead L 53 1074 - 1)) = M at *
  generalize N * up (-(lead L 53 1074 - 1)) / (D * up (lead L 53 1074 - 1)) = m2 at *
  generalize N * up (-(lead L 53 1074 - 1)) % (D * up (lead L 53 1074 - 1)) = rs at *
  generalize lead L 53 1074 = E at *
  have k4 : m2 < 18014398509481984 := k1
  have K2 := Lib.hid (show M ≤ 9007199254740992 from k2)
  have K3 := Lib.hid (show -1074 < E → 4503599627370496 ≤ M from k3)
  clear k1
  have HS2 := Lib.hid HS
  have Hbv := Lib.hid hbv
  have Hbv0 := Lib.hid hbv0
  have Hev0 := Lib.hid hev0
  have Hev := Lib.hid hev
  have Hl := Lib.hid hl
  clear hbv hbv0 hev hev0 hl k3 k2 h1 h2 hw1 hw2 l0 l1 HS
  go_wp2_with fail
  refine HS2.out.mono ?_
  rintro e W4 ⟨rfl, bq⟩
  have ha := ha.below bq
  have hf := hf.below bq
  have B := B.trans (bq.mono B.size)
  clear bq HS2 c0 c1 c2 f0 f1 f2
  obtain ⟨c0, c1, c2⟩ := block3 ha
  obtain ⟨f0, f1, f2⟩ := block3 hf
  have hand := and_one_u64 (m2 : Int) (by omega) (by omega)
  have hand2 := and_one_u64 ((m2 : Int) / 2) (by omega) (by omega)
  have HB := Lib.hid B
  clear B
  rcases rc with ⟨r1, r2⟩ | ⟨r1, r2, r3⟩ | ⟨r1, r2, r3, r4⟩ | ⟨r1, r2, r3, r4⟩
  · have q1 : (((m2 : Int) % 2) == 0) = true := by rw [beq_iff_eq]; omega
    have q2 : (((m2 : Int) % 2) != 0) = false := by rw [bne_eq_false_iff_eq]; omega
    have hM : M = m2 / 2 := r2
    have HX := Lib.hid (show ev = decide (rs = 0) by rw [Hev.out]; simp [r1])
    clear r1 r2
    obtain ⟨Mi, hMi⟩ : ∃ Mi : Int, ((m2 : Int) / 2) = Mi := ⟨_, rfl⟩
    have HMM := Lib.hid (show (M : Int) = Mi by omega)
    have b0 : 0 ≤ Mi := by omega
    have b2 : Mi ≤ 9007199254740992 := by have := K2.out; omega
    clear hM
    by_cases hc : Mi = 9007199254740992
    · exfalso
      omega
    · have s1 : ((Mi / 9007199254740992) != 0) = false := by rw [bne_eq_false_iff_eq]; omega
      by_cases ho : E ≤ 971
      · by_cases hz : Mi = 0
        · subst hz
          cases neg
          · skip
            have HJ := Lib.hid (join64_zero E false W4)
            go_wp2_with fail
            refine HJ.out.mono ?_
            rintro e W5 ⟨rfl, bq⟩
            clear c0 c1 c2 f0 f1 f2 HJ
            go_wp2_with fail
            go_ret3
            have hb := Hbv.out
            have hk2 := K2.out
            have hk3 := K3.out
            have hMM := HMM.out
            refine ⟨⟨L, Hl.out, .inl ?_⟩, HB.out.trans (bq.mono HB.out.size)⟩
            rw [Hbv0.out, Hev0.out]
            refine ⟨by omega, ?_⟩
            rw [HX.out]
            show Ending.returned (.tuple #[.int .u64 _, .bool _, .int .i64 0]) = _
            refine ret3_same ?_
            first | omega | (rw [if_neg (by simp)]; omega) | (split <;> omega)
          · skip
            have HJ := Lib.hid (join64_zero E true W4)
            go_wp2_with fail
            refine HJ.out.mono ?_
            rintro e W5 ⟨rfl, bq⟩
            clear c0 c1 c2 f0 f1 f2 HJ
            go_wp2_with fail
            go_ret3
            have hb := Hbv.out
            have hk2 := K2.out
            have hk3 := K3.out
            have hMM := HMM.out
            refine ⟨⟨L, Hl.out, .inl ?_⟩, HB.out.trans (bq.mono HB.out.size)⟩
            rw [Hbv0.out, Hev0.out]
            refine ⟨by omega, ?_⟩
            rw [HX.out]
            show Ending.returned (.tuple #[.int .u64 _, .bool _, .int .i64 0]) = _
            refine ret3_same ?_
            first | omega | (rw [if_neg (by simp)]; omega) | (split <;> omega)
        · by_cases hlow : Mi < 4503599627370496
          · skip
            cases neg
            · skip
              have HJ := Lib.hid (join64_low_f Mi E (by omega) (by omega) W4)
              go_wp2_with fail
              refine HJ.out.mono ?_
              rintro e W5 ⟨rfl, bq⟩
              clear c0 c1 c2 f0 f1 f2 HJ
              go_wp2_with fail
              go_ret3
              have hb := Hbv.out
              have hk2 := K2.out
              have hk3 := K3.out
              have hMM := HMM.out
              refine ⟨⟨L, Hl.out, .inl ?_⟩, HB.out.trans (bq.mono HB.out.size)⟩
              rw [Hbv0.out, Hev0.out]
              refine ⟨by omega, ?_⟩
              rw [HX.out]
              show Ending.returned (.tuple #[.int .u64 _, .bool _, .int .i64 0]) = _
              refine ret3_same ?_
              first | omega | (rw [if_neg (by simp)]; omega) | (split <;> omega)
            · skip
              have HJ := Lib.hid (join64_low_t Mi E (by omega) (by omega) W4)
              go_wp2_with fail
              refine HJ.out.mono ?_
              rintro e W5 ⟨rfl, bq⟩
              clear c0 c1 c2 f0 f1 f2 HJ
              go_wp2_with fail
              go_ret3
              have hb := Hbv.out
              have hk2 := K2.out
              have hk3 := K3.out
              have hMM := HMM.out
              refine ⟨⟨L, Hl.out, .inl ?_⟩, HB.out.trans (bq.mono HB.out.size)⟩
              rw [Hbv0.out, Hev0.out]
              refine ⟨by omega, ?_⟩
              rw [HX.out]
              show Ending.returned (.tuple #[.int .u64 _, .bool _, .int .i64 0]) = _
              refine ret3_same ?_
              first | omega | (rw [if_neg (by simp)]; omega) | (split <;> omega)
          · skip
            cases neg
            · skip
              have HJ := Lib.hid (join64_high_f Mi E (by omega) (by omega) (by omega) (by omega) W4)
              go_wp2_with fail
              refine HJ.out.mono ?_
              rintro e W5 ⟨rfl, bq⟩
              clear c0 c1 c2 f0 f1 f2 HJ
              go_wp2_with fail
              go_ret3
              have hb := Hbv.out
              have hk2 := K2.out
              have hk3 := K3.out
              have hMM := HMM.out
              refine ⟨⟨L, Hl.out, .inl ?_⟩, HB.out.trans (bq.mono HB.out.size)⟩
              rw [Hbv0.out, Hev0.out]
              refine ⟨by omega, ?_⟩
              rw [HX.out]
              show Ending.returned (.tuple #[.int .u64 _, .bool _, .int .i64 0]) = _
              refine ret3_same ?_
              first | omega | (rw [if_neg (by simp)]; omega) | (split <;> omega)
            · skip
              have HJ := Lib.hid (join64_high_t Mi E (by omega) (by omega) (by omega) (by omega) W4)
              go_wp2_with fail
              refine HJ.out.mono ?_
              rintro e W5 ⟨rfl, bq⟩
              clear c0 c1 c2 f0 f1 f2 HJ
              go_wp2_with fail
              go_ret3
              have hb := Hbv.out
              have hk2 := K2.out
              have hk3 := K3.out
              have hMM := HMM.out
              refine ⟨⟨L, Hl.out, .inl ?_⟩, HB.out.trans (bq.mono HB.out.size)⟩
              rw [Hbv0.out, Hev0.out]
              refine ⟨by omega, ?_⟩
              rw [HX.out]
              show Ending.returned (.tuple #[.int .u64 _, .bool _, .int .i64 0]) = _
              refine ret3_same ?_
              first | omega | (rw [if_neg (by simp)]; omega) | (split <;> omega)
      · skip
        go_wp2_with fail
        go_ret3
        refine ⟨⟨L, Hl.out, .inr ?_⟩, HB.out⟩
        rw [Hbv0.out]
        have hb := Hbv.out
        have hk2 := K2.out
        have hk3 := K3.out
        have hMM := HMM.out
        exact ⟨by omega, rfl⟩
  · have q2 : (((m2 : Int) % 2) != 0) = true := by rw [bne_iff_ne]; omega
    have HX := Lib.hid (show ev = false by rw [Hev.out]; simp [r1])
    have q3 : decide (rs ≠ 0) = true := by rw [decide_eq_true_eq]; exact r2
    have hM : M = m2 / 2 + 1 := r3
    clear r1 r2 r3
    obtain ⟨Mi, hMi⟩ : ∃ Mi : Int, ((m2 : Int) / 2 + 1) = Mi := ⟨_, rfl⟩
    have HMM := Lib.hid (show (M : Int) = Mi by omega)
    have b0 : 0 ≤ Mi := by omega
    have b2 : Mi ≤ 9007199254740992 := by have := K2.out; omega
    clear hM
    by_cases hc : Mi = 9007199254740992
    · subst hc
      by_cases ho : E + 1 ≤ 971
      · skip
        cases neg
        · skip
          have HJ := Lib.hid (join64_high_f 4503599627370496 (E + 1) (by omega) (by omega) (by omega) (by omega) W4)
          go_wp2_with fail
          refine HJ.out.mono ?_
          rintro e W5 ⟨rfl, bq⟩
          clear c0 c1 c2 f0 f1 f2 HJ
          go_wp2_with fail
          go_ret3
          have hb := Hbv.out
          have hk2 := K2.out
          have hk3 := K3.out
          have hMM := HMM.out
          refine ⟨⟨L, Hl.out, .inl ?_⟩, HB.out.trans (bq.mono HB.out.size)⟩
          rw [Hbv0.out, Hev0.out]
          refine ⟨by omega, ?_⟩
          rw [HX.out]
          show Ending.returned (.tuple #[.int .u64 _, .bool _, .int .i64 0]) = _
          refine ret3_same ?_
          first | omega | (rw [if_neg (by simp)]; omega) | (split <;> omega)
        · skip
          have HJ := Lib.hid (join64_high_t 4503599627370496 (E + 1) (by omega) (by omega) (by omega) (by omega) W4)
          go_wp2_with fail
          refine HJ.out.mono ?_
          rintro e W5 ⟨rfl, bq⟩
          clear c0 c1 c2 f0 f1 f2 HJ
          go_wp2_with fail
          go_ret3
          have hb := Hbv.out
          have hk2 := K2.out
          have hk3 := K3.out
          have hMM := HMM.out
          refine ⟨⟨L, Hl.out, .inl ?_⟩, HB.out.trans (bq.mono HB.out.size)⟩
          rw [Hbv0.out, Hev0.out]
          refine ⟨by omega, ?_⟩
          rw [HX.out]
          show Ending.returned (.tuple #[.int .u64 _, .bool _, .int .i64 0]) = _
          refine ret3_same ?_
          first | omega | (rw [if_neg (by simp)]; omega) | (split <;> omega)
      · skip
        go_wp2_with fail
        go_ret3
        refine ⟨⟨L, Hl.out, .inr ?_⟩, HB.out⟩
        rw [Hbv0.out]
        have hb := Hbv.out
        have hk2 := K2.out
        have hk3 := K3.out
        have hMM := HMM.out
        exact ⟨by omega, rfl⟩
    · have s1 : ((Mi / 9007199254740992) != 0) = false := by rw [bne_eq_false_iff_eq]; omega
      by_cases ho : E ≤ 971
      · by_cases hz : Mi = 0
        · exfalso
          omega
        · by_cases hlow : Mi < 4503599627370496
          · skip
            cases neg
            · skip
              have HJ := Lib.hid (join64_low_f Mi E (by omega) (by omega) W4)
              go_wp2_with fail
              refine HJ.out.mono ?_
              rintro e W5 ⟨rfl, bq⟩
              clear c0 c1 c2 f0 f1 f2 HJ
              go_wp2_with fail
              go_ret3
              have hb := Hbv.out
              have hk2 := K2.out
              have hk3 := K3.out
              have hMM := HMM.out
              refine ⟨⟨L, Hl.out, .inl ?_⟩, HB.out.trans (bq.mono HB.out.size)⟩
              rw [Hbv0.out, Hev0.out]
              refine ⟨by omega, ?_⟩
              rw [HX.out]
              show Ending.returned (.tuple #[.int .u64 _, .bool _, .int .i64 0]) = _
              refine ret3_same ?_
              first | omega | (rw [if_neg (by simp)]; omega) | (split <;> omega)
            · skip
              have HJ := Lib.hid (join64_low_t Mi E (by omega) (by omega) W4)
              go_wp2_with fail
              refine HJ.out.mono ?_
              rintro e W5 ⟨rfl, bq⟩
              clear c0 c1 c2 f0 f1 f2 HJ
              go_wp2_with fail
              go_ret3
              have hb := Hbv.out
              have hk2 := K2.out
              have hk3 := K3.out
              have hMM := HMM.out
              refine ⟨⟨L, Hl.out, .inl ?_⟩, HB.out.trans (bq.mono HB.out.size)⟩
              rw [Hbv0.out, Hev0.out]
              refine ⟨by omega, ?_⟩
              rw [HX.out]
              show Ending.returned (.tuple #[.int .u64 _, .bool _, .int .i64 0]) = _
              refine ret3_same ?_
              first | omega | (rw [if_neg (by simp)]; omega) | (split <;> omega)
          · skip
            cases neg
            · skip
              have HJ := Lib.hid (join64_high_f Mi E (by omega) (by omega) (by omega) (by omega) W4)
              go_wp2_with fail
              refine HJ.out.mono ?_
              rintro e W5 ⟨rfl, bq⟩
              clear c0 c1 c2 f0 f1 f2 HJ
              go_wp2_with fail
              go_ret3
              have hb := Hbv.out
              have hk2 := K2.out
              have hk3 := K3.out
              have hMM := HMM.out
              refine ⟨⟨L, Hl.out, .inl ?_⟩, HB.out.trans (bq.mono HB.out.size)⟩
              rw [Hbv0.out, Hev0.out]
              refine ⟨by omega, ?_⟩
              rw [HX.out]
              show Ending.returned (.tuple #[.int .u64 _, .bool _, .int .i64 0]) = _
              refine ret3_same ?_
              first | omega | (rw [if_neg (by simp)]; omega) | (split <;> omega)
            · skip
              have HJ := Lib.hid (join64_high_t Mi E (by omega) (by omega) (by omega) (by omega) W4)
              go_wp2_with fail
              refine HJ.out.mono ?_
              rintro e W5 ⟨rfl, bq⟩
              clear c0 c1 c2 f0 f1 f2 HJ
              go_wp2_with fail
              go_ret3
              have hb := Hbv.out
              have hk2 := K2.out
              have hk3 := K3.out
              have hMM := HMM.out
              refine ⟨⟨L, Hl.out, .inl ?_⟩, HB.out.trans (bq.mono HB.out.size)⟩
              rw [Hbv0.out, Hev0.out]
              refine ⟨by omega, ?_⟩
              rw [HX.out]
              show Ending.returned (.tuple #[.int .u64 _, .bool _, .int .i64 0]) = _
              refine ret3_same ?_
              first | omega | (rw [if_neg (by simp)]; omega) | (split <;> omega)
      · skip
        go_wp2_with fail
        go_ret3
        refine ⟨⟨L, Hl.out, .inr ?_⟩, HB.out⟩
        rw [Hbv0.out]
        have hb := Hbv.out
        have hk2 := K2.out
        have hk3 := K3.out
        have hMM := HMM.out
        exact ⟨by omega, rfl⟩
  · have q2 : (((m2 : Int) % 2) != 0) = true := by rw [bne_iff_ne]; omega
    have HX := Lib.hid (show ev = false by rw [Hev.out]; simp [r1])
    have q3 : decide (rs ≠ 0) = false := by rw [decide_eq_false_iff_not]; omega
    have q4 : (((m2 : Int) / 2 % 2) != 0) = true := by rw [bne_iff_ne]; omega
    have hM : M = m2 / 2 + 1 := r4
    clear r1 r2 r3 r4
    obtain ⟨Mi, hMi⟩ : ∃ Mi : Int, ((m2 : Int) / 2 + 1) = Mi := ⟨_, rfl⟩
    have HMM := Lib.hid (show (M : Int) = Mi by omega)
    have b0 : 0 ≤ Mi := by omega
    have b2 : Mi ≤ 9007199254740992 := by have := K2.out; omega
    clear hM
    by_cases hc : Mi = 9007199254740992
    · subst hc
      by_cases ho : E + 1 ≤ 971
      · skip
        cases neg
        · skip
          have HJ := Lib.hid (join64_high_f 4503599627370496 (E + 1) (by omega) (by omega) (by omega) (by omega) W4)
          go_wp2_with fail
          refine HJ.out.mono ?_
          rintro e W5 ⟨rfl, bq⟩
          clear c0 c1 c2 f0 f1 f2 HJ
          go_wp2_with fail
          go_ret3
          have hb := Hbv.out
          have hk2 := K2.out
          have hk3 := K3.out
          have hMM := HMM.out
          refine ⟨⟨L, Hl.out, .inl ?_⟩, HB.out.trans (bq.mono HB.out.size)⟩
          rw [Hbv0.out, Hev0.out]
          refine ⟨by omega, ?_⟩
          rw [HX.out]
          show Ending.returned (.tuple #[.int .u64 _, .bool _, .int .i64 0]) = _
          refine ret3_same ?_
          first | omega | (rw [if_neg (by simp)]; omega) | (split <;> omega)
        · skip
          have HJ := Lib.hid (join64_high_t 4503599627370496 (E + 1) (by omega) (by omega) (by omega) (by omega) W4)
          go_wp2_with fail
          refine HJ.out.mono ?_
          rintro e W5 ⟨rfl, bq⟩
          clear c0 c1 c2 f0 f1 f2 HJ
          go_wp2_with fail
          go_ret3
          have hb := Hbv.out
          have hk2 := K2.out
          have hk3 := K3.out
          have hMM := HMM.out
          refine ⟨⟨L, Hl.out, .inl ?_⟩, HB.out.trans (bq.mono HB.out.size)⟩
          rw [Hbv0.out, Hev0.out]
          refine ⟨by omega, ?_⟩
          rw [HX.out]
          show Ending.returned (.tuple #[.int .u64 _, .bool _, .int .i64 0]) = _
          refine ret3_same ?_
          first | omega | (rw [if_neg (by simp)]; omega) | (split <;> omega)
      · skip
        go_wp2_with fail
        go_ret3
        refine ⟨⟨L, Hl.out, .inr ?_⟩, HB.out⟩
        rw [Hbv0.out]
        have hb := Hbv.out
        have hk2 := K2.out
        have hk3 := K3.out
        have hMM := HMM.out
        exact ⟨by omega, rfl⟩
    · have s1 : ((Mi / 9007199254740992) != 0) = false := by rw [bne_eq_false_iff_eq]; omega
      by_cases ho : E ≤ 971
      · by_cases hz : Mi = 0
        · exfalso
          omega
        · by_cases hlow : Mi < 4503599627370496
          · skip
            cases neg
            · skip
              have HJ := Lib.hid (join64_low_f Mi E (by omega) (by omega) W4)
              go_wp2_with fail
              refine HJ.out.mono ?_
              rintro e W5 ⟨rfl, bq⟩
              clear c0 c1 c2 f0 f1 f2 HJ
              go_wp2_with fail
              go_ret3
              have hb := Hbv.out
              have hk2 := K2.out
              have hk3 := K3.out
              have hMM := HMM.out
              refine ⟨⟨L, Hl.out, .inl ?_⟩, HB.out.trans (bq.mono HB.out.size)⟩
              rw [Hbv0.out, Hev0.out]
              refine ⟨by omega, ?_⟩
              rw [HX.out]
              show Ending.returned (.tuple #[.int .u64 _, .bool _, .int .i64 0]) = _
              refine ret3_same ?_
              first | omega | (rw [if_neg (by simp)]; omega) | (split <;> omega)
            · skip
              have HJ := Lib.hid (join64_low_t Mi E (by omega) (by omega) W4)
              go_wp2_with fail
              refine HJ.out.mono ?_
              rintro e W5 ⟨rfl, bq⟩
              clear c0 c1 c2 f0 f1 f2 HJ
              go_wp2_with fail
              go_ret3
              have hb := Hbv.out
              have hk2 := K2.out
              have hk3 := K3.out
              have hMM := HMM.out
              refine ⟨⟨L, Hl.out, .inl ?_⟩, HB.out.trans (bq.mono HB.out.size)⟩
              rw [Hbv0.out, Hev0.out]
              refine ⟨by omega, ?_⟩
              rw [HX.out]
              show Ending.returned (.tuple #[.int .u64 _, .bool _, .int .i64 0]) = _
              refine ret3_same ?_
              first | omega | (rw [if_neg (by simp)]; omega) | (split <;> omega)
          · skip
            cases neg
            · skip
              have HJ := Lib.hid (join64_high_f Mi E (by omega) (by omega) (by omega) (by omega) W4)
              go_wp2_with fail
              refine HJ.out.mono ?_
              rintro e W5 ⟨rfl, bq⟩
              clear c0 c1 c2 f0 f1 f2 HJ
              go_wp2_with fail
              go_ret3
              have hb := Hbv.out
              have hk2 := K2.out
              have hk3 := K3.out
              have hMM := HMM.out
              refine ⟨⟨L, Hl.out, .inl ?_⟩, HB.out.trans (bq.mono HB.out.size)⟩
              rw [Hbv0.out, Hev0.out]
              refine ⟨by omega, ?_⟩
              rw [HX.out]
              show Ending.returned (.tuple #[.int .u64 _, .bool _, .int .i64 0]) = _
              refine ret3_same ?_
              first | omega | (rw [if_neg (by simp)]; omega) | (split <;> omega)
            · skip
              have HJ := Lib.hid (join64_high_t Mi E (by omega) (by omega) (by omega) (by omega) W4)
              go_wp2_with fail
              refine HJ.out.mono ?_
              rintro e W5 ⟨rfl, bq⟩
              clear c0 c1 c2 f0 f1 f2 HJ
              go_wp2_with fail
              go_ret3
              have hb := Hbv.out
              have hk2 := K2.out
              have hk3 := K3.out
              have hMM := HMM.out
              refine ⟨⟨L, Hl.out, .inl ?_⟩, HB.out.trans (bq.mono HB.out.size)⟩
              rw [Hbv0.out, Hev0.out]
              refine ⟨by omega, ?_⟩
              rw [HX.out]
              show Ending.returned (.tuple #[.int .u64 _, .bool _, .int .i64 0]) = _
              refine ret3_same ?_
              first | omega | (rw [if_neg (by simp)]; omega) | (split <;> omega)
      · skip
        go_wp2_with fail
        go_ret3
        refine ⟨⟨L, Hl.out, .inr ?_⟩, HB.out⟩
        rw [Hbv0.out]
        have hb := Hbv.out
        have hk2 := K2.out
        have hk3 := K3.out
        have hMM := HMM.out
        exact ⟨by omega, rfl⟩
  · have q2 : (((m2 : Int) % 2) != 0) = true := by rw [bne_iff_ne]; omega
    have HX := Lib.hid (show ev = false by rw [Hev.out]; simp [r1])
    have q3 : decide (rs ≠ 0) = false := by rw [decide_eq_false_iff_not]; omega
    have q4 : (((m2 : Int) / 2 % 2) != 0) = false := by rw [bne_eq_false_iff_eq]; omega
    have hM : M = m2 / 2 := r4
    clear r1 r2 r3 r4
    obtain ⟨Mi, hMi⟩ : ∃ Mi : Int, ((m2 : Int) / 2) = Mi := ⟨_, rfl⟩
    rw [hMi] at hand2 q4
    have HMM := Lib.hid (show (M : Int) = Mi by omega)
    have b0 : 0 ≤ Mi := by omega
    have b2 : Mi ≤ 9007199254740992 := by have := K2.out; omega
    clear hM
    by_cases hc : Mi = 9007199254740992
    · exfalso
      omega
    · have s1 : ((Mi / 9007199254740992) != 0) = false := by rw [bne_eq_false_iff_eq]; omega
      by_cases ho : E ≤ 971
      · by_cases hz : Mi = 0
        · subst hz
          cases neg
          · skip
            have HJ := Lib.hid (join64_zero E false W4)
            go_wp2_with fail
            refine HJ.out.mono ?_
            rintro e W5 ⟨rfl, bq⟩
            clear c0 c1 c2 f0 f1 f2 HJ
            go_wp2_with fail
            go_ret3
            have hb := Hbv.out
            have hk2 := K2.out
            have hk3 := K3.out
            have hMM := HMM.out
            refine ⟨⟨L, Hl.out, .inl ?_⟩, HB.out.trans (bq.mono HB.out.size)⟩
            rw [Hbv0.out, Hev0.out]
            refine ⟨by omega, ?_⟩
            rw [HX.out]
            show Ending.returned (.tuple #[.int .u64 _, .bool _, .int .i64 0]) = _
            refine ret3_same ?_
            first | omega | (rw [if_neg (by simp)]; omega) | (split <;> omega)
          · skip
            have HJ := Lib.hid (join64_zero E true W4)
            go_wp2_with fail
            refine HJ.out.mono ?_
            rintro e W5 ⟨rfl, bq⟩
            clear c0 c1 c2 f0 f1 f2 HJ
            go_wp2_with fail
            go_ret3
            have hb := Hbv.out
            have hk2 := K2.out
            have hk3 := K3.out
            have hMM := HMM.out
            refine ⟨⟨L, Hl.out, .inl ?_⟩, HB.out.trans (bq.mono HB.out.size)⟩
            rw [Hbv0.out, Hev0.out]
            refine ⟨by omega, ?_⟩
            rw [HX.out]
            show Ending.returned (.tuple #[.int .u64 _, .bool _, .int .i64 0]) = _
            refine ret3_same ?_
            first | omega | (rw [if_neg (by simp)]; omega) | (split <;> omega)
        · by_cases hlow : Mi < 4503599627370496
          · skip
            cases neg
            · skip
              have HJ := Lib.hid (join64_low_f Mi E (by omega) (by omega) W4)
              go_wp2_with fail
              refine HJ.out.mono ?_
              rintro e W5 ⟨rfl, bq⟩
              clear c0 c1 c2 f0 f1 f2 HJ
              go_wp2_with fail
              go_ret3
              have hb := Hbv.out
              have hk2 := K2.out
              have hk3 := K3.out
              have hMM := HMM.out
              refine ⟨⟨L, Hl.out, .inl ?_⟩, HB.out.trans (bq.mono HB.out.size)⟩
              rw [Hbv0.out, Hev0.out]
              refine ⟨by omega, ?_⟩
              rw [HX.out]
              show Ending.returned (.tuple #[.int .u64 _, .bool _, .int .i64 0]) = _
              refine ret3_same ?_
              first | omega | (rw [if_neg (by simp)]; omega) | (split <;> omega)
            · skip
              have HJ := Lib.hid (join64_low_t Mi E (by omega) (by omega) W4)
              go_wp2_with fail
              refine HJ.out.mono ?_
              rintro e W5 ⟨rfl, bq⟩
              clear c0 c1 c2 f0 f1 f2 HJ
              go_wp2_with fail
              go_ret3
              have hb := Hbv.out
              have hk2 := K2.out
              have hk3 := K3.out
              have hMM := HMM.out
              refine ⟨⟨L, Hl.out, .inl ?_⟩, HB.out.trans (bq.mono HB.out.size)⟩
              rw [Hbv0.out, Hev0.out]
              refine ⟨by omega, ?_⟩
              rw [HX.out]
              show Ending.returned (.tuple #[.int .u64 _, .bool _, .int .i64 0]) = _
              refine ret3_same ?_
              first | omega | (rw [if_neg (by simp)]; omega) | (split <;> omega)
          · skip
            cases neg
            · skip
              have HJ := Lib.hid (join64_high_f Mi E (by omega) (by omega) (by omega) (by omega) W4)
              go_wp2_with fail
              refine HJ.out.mono ?_
              rintro e W5 ⟨rfl, bq⟩
              clear c0 c1 c2 f0 f1 f2 HJ
              go_wp2_with fail
              go_ret3
              have hb := Hbv.out
              have hk2 := K2.out
              have hk3 := K3.out
              have hMM := HMM.out
              refine ⟨⟨L, Hl.out, .inl ?_⟩, HB.out.trans (bq.mono HB.out.size)⟩
              rw [Hbv0.out, Hev0.out]
              refine ⟨by omega, ?_⟩
              rw [HX.out]
              show Ending.returned (.tuple #[.int .u64 _, .bool _, .int .i64 0]) = _
              refine ret3_same ?_
              first | omega | (rw [if_neg (by simp)]; omega) | (split <;> omega)
            · skip
              have HJ := Lib.hid (join64_high_t Mi E (by omega) (by omega) (by omega) (by omega) W4)
              go_wp2_with fail
              refine HJ.out.mono ?_
              rintro e W5 ⟨rfl, bq⟩
              clear c0 c1 c2 f0 f1 f2 HJ
              go_wp2_with fail
              go_ret3
              have hb := Hbv.out
              have hk2 := K2.out
              have hk3 := K3.out
              have hMM := HMM.out
              refine ⟨⟨L, Hl.out, .inl ?_⟩, HB.out.trans (bq.mono HB.out.size)⟩
              rw [Hbv0.out, Hev0.out]
              refine ⟨by omega, ?_⟩
              rw [HX.out]
              show Ending.returned (.tuple #[.int .u64 _, .bool _, .int .i64 0]) = _
              refine ret3_same ?_
              first | omega | (rw [if_neg (by simp)]; omega) | (split <;> omega)
      · skip
        go_wp2_with fail
        go_ret3
        refine ⟨⟨L, Hl.out, .inr ?_⟩, HB.out⟩
        rw [Hbv0.out]
        have hb := Hbv.out
        have hk2 := K2.out
        have hk3 := K3.out
        have hMM := HMM.out
        exact ⟨by omega, rfl⟩
end Go.Proofs.Ytlkadnaoacoicaa
