/- value: m times 2^e as a number. -/
import Derived.Test.YtlkadnaoacoicaaDoorRoundSplit
import Derived.Deep.RegionHeld3
import Derived.IntWalk
import Derived.WalkSmall
namespace Go.Proofs.YtlkadnaoacoicaaDoor
open Go.RowKit NM

/-- What value answers: the number, or that it is too great. -/
def ValPost (x : Rat) (en : Ending) (w' : World) : Prop :=
  (∃ r, en = .returned (.tuple #[r, .int .i64 0]) ∧ RatN w' r x) ∨ (en = .returned (.tuple #[.agg #[.bool false, .slice none 0 0, .slice none 0 0], .int .i64 2]) ∧ (pw 16 ≤ (x.num.natAbs : Nat) ∨ pw 16 ≤ (x.den : Nat)))
theorem val_up (neg : Bool) (m : Nat) {e : Int} (h : 0 ≤ e) : frac neg (m * up e) (up (-e)) = frac neg (m * up e) 1 := by
  have : up (-e) = 1 := by unfold up; rw [show (-e).toNat = 0 by omega]
  rw [this]
theorem one_abs (neg : Bool) (N : Nat) : (frac neg N 1).num.natAbs = N := by rw [frac_abs neg (by decide), Nat.gcd_one_right, Nat.div_one]
theorem val_zero (neg : Bool) (e : Int) : frac neg (0 * up e) (up (-e)) = frac neg 0 1 := by rw [Nat.zero_mul, frac_zero, frac_zero]
theorem val_down (neg : Bool) {m c j b s : Nat} {e : Int} (hm : m = 2 ^ c * (2 * j + 1)) (he : e < 0) (hb : b ≤ c) (hs : b + s = (-e).toNat) : frac neg (m * up e) (up (-e)) = frac neg (m / 2 ^ b) (2 ^ s) := by
  have u1 : up e = 1 := by unfold up; rw [show e.toNat = 0 by omega]
  obtain ⟨k, rfl⟩ := Nat.exists_eq_add_of_le hb
  have e1 : m = 2 ^ b * (2 ^ k * (2 * j + 1)) := by rw [hm, Nat.pow_add, Nat.mul_assoc]
  have hp : 0 < 2 ^ b := Nat.pow_pos (by decide)
  refine frac_same neg (up_pos _) (Nat.pow_pos (by decide)) ?_
  rw [u1, Nat.mul_one, e1, Nat.mul_div_cancel_left _ hp]
  show _ = _ * 2 ^ (-e).toNat
  rw [← hs, Nat.pow_add]
  simp only [Nat.mul_assoc, Nat.mul_left_comm]
theorem odd_den (neg : Bool) (j s : Nat) : (frac neg (2 * j + 1) (2 ^ s)).den = 2 ^ s := by
  rw [frac_den neg (Nat.pow_pos (by decide))]
  have hg : Nat.gcd (2 * j + 1) (2 ^ s) = 1 := by
    have h2 : Nat.Coprime (2 * j + 1) 2 := by
      show Nat.gcd (2 * j + 1) 2 = 1
      rw [Nat.gcd_comm, Nat.gcd_rec, show (2 * j + 1) % 2 = 1 by omega, Nat.gcd_one_left]
    exact Nat.Coprime.pow_right s h2
  rw [hg, Nat.div_one]
theorem pw16_nat (N : Nat) : pw 16 ≤ ((1 * 2 ^ N : Int)) ↔ 512 ≤ N := by
  rw [Int.one_mul, pow16]
  constructor
  · intro h
    rcases Nat.lt_or_ge N 512 with h1 | h1
    · exfalso
      have : (2 : Int) ^ (N + 1) ≤ 2 ^ 512 := pow_le h1
      rw [Int.pow_succ] at this
      have := pow_pos2 N
      omega
    · exact h1
  · exact pow_le
theorem told_over {N : Int} {e : Ending} {w : World} (h : Told N e w) (hN : pw 16 ≤ N) : e = .returned (.tuple #[.slice none 0 0, .int .i64 2]) := by
  rcases h with ⟨h, _⟩ | ⟨_, h⟩
  · omega
  · exact h
theorem shift_fits {s : Nat} (h : s < 512) : (1 : Int) * 2 ^ s < pw 16 := by
  rcases Int.lt_or_le ((1 : Int) * 2 ^ s) (pw 16) with h1 | h1
  · exact h1
  · have := (pw16_nat s).1 h1
    omega
theorem word_fits {m : Nat} (h : m < 18446744073709551616) : (m : Int) < pw 16 := by
  have : pw 2 ≤ pw 16 := pw_mono (by decide)
  have : pw 2 = 18446744073709551616 := by decide
  omega
set_option maxHeartbeats 1600000 in
set_option maxRecDepth 100000 in
theorem value_zero (neg : Bool) (e : Int) (w : World)  :
    Calls Tryd.prog 21 #[.bool neg, .int .u64 0, .int .i64 e] w fun en w' => ValPost (frac neg (0 * up e) (up (-e))) en w' ∧ Below w.heap.size w w' := by
  have Hx := Lib.hid (val_zero neg e).symm
  have HmB := Lib.hid (show (0 : Nat) < 18446744073709551616 by decide)
  have Hfit := Lib.hid (show ((0 : Nat) : Int) * 2 ^ 0 < pw 16 by have := pw_pos 16; simpa using this)
  have Hfit2 := Lib.hid (show (1 : Int) * 2 ^ 0 < pw 16 by decide)
  have B : Below w.heap.size w (w.alloc (.cells #[.bool false, .slice none 0 0, .slice none 0 0] 26)) := (Below.refl _ _).alloc (Nat.le_refl _) _
  have hr := BlockAt.new w #[.bool false, .slice none 0 0, .slice none 0 0] 26
  go_enter Tryd.func21, Tryd.ntmps21
  go_wp2_with fail
  refine (of_num (0 : Nat) _ (by omega) (by have := HmB.out; omega)).mono ?_
  rintro en W1 ⟨⟨q1, rfl, hq1⟩, bq⟩
  have hr := hr.below bq
  have B := B.trans (bq.mono B.size)
  clear bq
  go_wp2_with fail
  refine (shift_up q1 (0 : Nat) 0 W1 hq1 (by omega)).mono ?_
  rintro en W2 ⟨htold, bq⟩
  have hr := hr.below bq
  have B := B.trans (bq.mono B.size)
  clear bq hq1
  obtain ⟨q2, rfl, hq2⟩ := htold.fine Hfit.out
  clear htold
  go_wp2_with fail
  refine (of_num 1 W2 (by omega) (by omega)).mono ?_
  rintro en W3 ⟨⟨q3, rfl, hq3⟩, bq⟩
  have hr := hr.below bq
  have hq2 := hq2.below bq
  have B := B.trans (bq.mono B.size)
  clear bq
  go_wp2_with fail
  refine (shift_up q3 1 0 W3 hq3 (by omega)).mono ?_
  rintro en W4 ⟨htold, bq⟩
  have hr := hr.below bq
  have hq2 := hq2.below bq
  have B := B.trans (bq.mono B.size)
  clear bq hq3
  obtain ⟨q4, rfl, hq4⟩ := htold.fine Hfit2.out
  clear htold
  go_wp2_with fail
  refine (make_num neg q2 q4 (0) (1) W4 (by simpa using hq2) (by simpa using hq4) (by decide)).mono ?_
  rintro en W5 ⟨⟨r, rfl, hrat⟩, bq⟩
  have hr := hr.below bq
  have B := B.trans (bq.mono B.size)
  obtain ⟨s_, o1, m1, k1, o2, m2, k2, rfl⟩ := RawN.form hrat
  have Hr := Lib.hid hrat
  clear bq hrat hq2 hq4
  have f0 := hr.free 0
  have f1 := hr.free 1
  have f2 := hr.free 2
  have g0 := hr.cell 0
  have g1 := hr.cell 1
  have g2 := hr.cell 2
  simp at g0 g1 g2
  go_wp2_with fail
  refine bodyPost_ret (v := .tuple #[.agg #[.bool s_, .slice o1 m1 k1, .slice o2 m2 k2], .int .i64 0]) (by simp [results, Tryd.results21, go_sem, g0, g1, g2]) rfl ⟨.inl ⟨_, rfl, RawN.set3 (Hx.out ▸ Hr.out) hr⟩, ?_⟩
  exact ((B.setCell (by simp) _).setCell (by simp) _).setCell (by simp) _
set_option maxHeartbeats 1600000 in
set_option maxRecDepth 100000 in
theorem value_up (neg : Bool) (m : Nat) (e : Int) (w : World) (hm : m < 18446744073709551616) (hm0 : m ≠ 0) (e0 : 0 ≤ e) (e1 : e ≤ 2000) (ho : (m : Int) * 2 ^ e.toNat < pw 16) :
    Calls Tryd.prog 21 #[.bool neg, .int .u64 m, .int .i64 e] w fun en w' => ValPost (frac neg (m * up e) (up (-e))) en w' ∧ Below w.heap.size w w' := by
  have Hx := Lib.hid (val_up neg m e0).symm
  have HmB := Lib.hid hm
  obtain ⟨p, hp⟩ : ∃ p : Nat, e.toNat = p := ⟨_, rfl⟩
  have hmx : max e 0 = (p : Int) := by omega
  have hmy : max (-e) 0 = 0 := by omega
  have hp1 : p ≤ 2000 := by omega
  have hz : ((m : Int) == 0) = false := by rw [beq_eq_false_iff_ne]; omega
  have hnu := num_up m e
  rw [hp] at ho hnu
  have Hnum := Lib.hid hnu
  obtain ⟨Y, hY⟩ : ∃ Y, (m : Int) * 2 ^ p = Y := ⟨_, rfl⟩
  have HY := Lib.hid hY
  rw [hY] at ho
  have Hfit := Lib.hid ho
  have Hfit2 := Lib.hid (shift_fits (s := 0) (by decide))
  clear hY
  clear ho hm0 hp hnu
  have B : Below w.heap.size w (w.alloc (.cells #[.bool false, .slice none 0 0, .slice none 0 0] 26)) := (Below.refl _ _).alloc (Nat.le_refl _) _
  have hr := BlockAt.new w #[.bool false, .slice none 0 0, .slice none 0 0] 26
  go_enter Tryd.func21, Tryd.ntmps21
  go_wp2_with fail
  refine (of_num (m : Nat) _ (by omega) (by have := HmB.out; omega)).mono ?_
  rintro en W1 ⟨⟨q1, rfl, hq1⟩, bq⟩
  have hr := hr.below bq
  have B := B.trans (bq.mono B.size)
  clear bq
  go_wp2_with fail
  refine (shift_up q1 (m : Nat) p W1 hq1 (by omega)).mono ?_
  rintro en W2 ⟨htold, bq⟩
  have hr := hr.below bq
  have B := B.trans (bq.mono B.size)
  clear bq hq1
  obtain ⟨q2, rfl, hq2⟩ := htold.fine (by rw [HY.out]; exact Hfit.out)
  clear htold
  go_wp2_with fail
  refine (of_num 1 W2 (by omega) (by omega)).mono ?_
  rintro en W3 ⟨⟨q3, rfl, hq3⟩, bq⟩
  have hr := hr.below bq
  have hq2 := hq2.below bq
  have B := B.trans (bq.mono B.size)
  clear bq
  go_wp2_with fail
  refine (shift_up q3 1 0 W3 hq3 (by omega)).mono ?_
  rintro en W4 ⟨htold, bq⟩
  have hr := hr.below bq
  have hq2 := hq2.below bq
  have B := B.trans (bq.mono B.size)
  clear bq hq3
  obtain ⟨q4, rfl, hq4⟩ := htold.fine Hfit2.out
  clear htold
  go_wp2_with fail
  refine (make_num neg q2 q4 (m * up e) (1) W4 (by rw [← Hnum.out]; exact hq2) (by simpa using hq4) (by decide)).mono ?_
  rintro en W5 ⟨⟨r, rfl, hrat⟩, bq⟩
  have hr := hr.below bq
  have B := B.trans (bq.mono B.size)
  obtain ⟨s_, o1, m1, k1, o2, m2, k2, rfl⟩ := RawN.form hrat
  have Hr := Lib.hid hrat
  clear bq hrat hq2 hq4
  have f0 := hr.free 0
  have f1 := hr.free 1
  have f2 := hr.free 2
  have g0 := hr.cell 0
  have g1 := hr.cell 1
  have g2 := hr.cell 2
  simp at g0 g1 g2
  go_wp2_with fail
  refine bodyPost_ret (v := .tuple #[.agg #[.bool s_, .slice o1 m1 k1, .slice o2 m2 k2], .int .i64 0]) (by simp [results, Tryd.results21, go_sem, g0, g1, g2]) rfl ⟨.inl ⟨_, rfl, RawN.set3 (Hx.out ▸ Hr.out) hr⟩, ?_⟩
  exact ((B.setCell (by simp) _).setCell (by simp) _).setCell (by simp) _
set_option maxHeartbeats 1600000 in
set_option maxRecDepth 100000 in
theorem value_up_over (neg : Bool) (m : Nat) (e : Int) (w : World) (hm : m < 18446744073709551616) (hm0 : m ≠ 0) (e0 : 0 ≤ e) (e1 : e ≤ 2000) (ho : pw 16 ≤ (m : Int) * 2 ^ e.toNat) :
    Calls Tryd.prog 21 #[.bool neg, .int .u64 m, .int .i64 e] w fun en w' => ValPost (frac neg (m * up e) (up (-e))) en w' ∧ Below w.heap.size w w' := by
  have Hx := Lib.hid (val_up neg m e0).symm
  have HmB := Lib.hid hm
  obtain ⟨p, hp⟩ : ∃ p : Nat, e.toNat = p := ⟨_, rfl⟩
  have hmx : max e 0 = (p : Int) := by omega
  have hmy : max (-e) 0 = 0 := by omega
  have hp1 : p ≤ 2000 := by omega
  have hz : ((m : Int) == 0) = false := by rw [beq_eq_false_iff_ne]; omega
  have hnu := num_up m e
  rw [hp] at ho hnu
  have Hnum := Lib.hid hnu
  have Hover := Lib.hid ho
  have Hbig := Lib.hid (show pw 16 ≤ ((frac neg (m * up e) (up (-e))).num.natAbs : Nat) ∨ pw 16 ≤ ((frac neg (m * up e) (up (-e))).den : Nat) by rw [val_up neg m e0, one_abs, ← hnu]; exact .inl ho)
  clear ho hm0 hp hnu
  have B : Below w.heap.size w (w.alloc (.cells #[.bool false, .slice none 0 0, .slice none 0 0] 26)) := (Below.refl _ _).alloc (Nat.le_refl _) _
  have hr := BlockAt.new w #[.bool false, .slice none 0 0, .slice none 0 0] 26
  go_enter Tryd.func21, Tryd.ntmps21
  go_wp2_with fail
  refine (of_num (m : Nat) _ (by omega) (by have := HmB.out; omega)).mono ?_
  rintro en W1 ⟨⟨q1, rfl, hq1⟩, bq⟩
  have hr := hr.below bq
  have B := B.trans (bq.mono B.size)
  clear bq
  go_wp2_with fail
  refine (shift_up q1 (m : Nat) p W1 hq1 (by omega)).mono ?_
  rintro en W2 ⟨htold, bq⟩
  have hr := hr.below bq
  have B := B.trans (bq.mono B.size)
  clear bq hq1
  obtain rfl := told_over htold Hover.out
  clear htold
  have f0 := hr.free 0
  have f1 := hr.free 1
  have f2 := hr.free 2
  have g0 := hr.cell 0
  have g1 := hr.cell 1
  have g2 := hr.cell 2
  simp at g0 g1 g2
  go_wp2_with fail
  refine bodyPost_ret (v := .tuple #[.agg #[.bool false, .slice none 0 0, .slice none 0 0], .int .i64 2]) (by simp [results, Tryd.results21, go_sem, g0, g1, g2]) rfl ⟨.inr ⟨rfl, Hbig.out⟩, ?_⟩
  exact ((B.setCell (by simp) _).setCell (by simp) _).setCell (by simp) _
set_option maxHeartbeats 1600000 in
set_option maxRecDepth 100000 in
theorem value_down (neg : Bool) (m : Nat) (e : Int) (w : World) (hm : m < 18446744073709551616) (hm0 : m ≠ 0) (e0 : e < 0) (e1 : -2000 ≤ e) (hT : Tab64 w) (b s : Nat) (hbd : b = min (Lib.ctz 64 m) (-e).toNat) (hs : b + s = (-e).toNat) (ho : s < 512) :
    Calls Tryd.prog 21 #[.bool neg, .int .u64 m, .int .i64 e] w fun en w' => ValPost (frac neg (m * up e) (up (-e))) en w' ∧ Below w.heap.size w w' := by
  obtain ⟨j, hj, hc⟩ := ctz_parts m hm hm0
  have Hx := Lib.hid (val_down neg (b := b) (s := s) hj e0 (by omega) hs).symm
  have HT := Lib.hid hT
  obtain ⟨x, hx⟩ : ∃ x, e + (b : Int) = x := ⟨_, rfl⟩
  obtain ⟨y, hy⟩ : ∃ y, -e = y := ⟨_, rfl⟩
  have hmx : max x 0 = 0 := by omega
  have hmy : max (-x) 0 = ((s : Nat) : Int) := by omega
  have hmb : min ((Lib.ctz 64 m : Nat) : Int) y = (b : Nat) := by omega
  have hs1 : s ≤ 2000 := by omega
  have e2 : -9223372036854775808 ≤ e := by omega
  obtain ⟨m', hm'⟩ : ∃ m', m / 2 ^ b = m' := ⟨_, rfl⟩
  have hsh : (m : Int) / 2 ^ b = (m' : Int) := by rw [← hm']; simp
  rw [hm'] at Hx
  have hz : ((m : Int) == 0) = false := by rw [beq_eq_false_iff_ne]; omega
  have HmB := Lib.hid (show m' < 18446744073709551616 from hm' ▸ Nat.lt_of_le_of_lt (Nat.div_le_self _ _) hm)
  have Hfit := Lib.hid (show (m' : Int) * 2 ^ 0 < pw 16 by rw [Int.pow_zero, Int.mul_one]; exact word_fits HmB.out)
  have Htz := Lib.hid (fun (W : World) (B : Below w.heap.size w W) => tz64 m hm hm0 W (hT.below B))
  have b64 : b < 64 := by omega
  have Hfit2 := Lib.hid (show (1 : Int) * 2 ^ s < pw 16 from shift_fits ho)
  clear ho hm0 hT hj hbd hs hc hm'
  have B : Below w.heap.size w (w.alloc (.cells #[.bool false, .slice none 0 0, .slice none 0 0] 26)) := (Below.refl _ _).alloc (Nat.le_refl _) _
  have hr := BlockAt.new w #[.bool false, .slice none 0 0, .slice none 0 0] 26
  go_enter Tryd.func21, Tryd.ntmps21
  go_wp2_with fail
  refine (Htz.out _ B).mono ?_
  rintro en W0 ⟨rfl, rfl⟩
  clear Htz
  go_wp2_with fail
  refine (of_num (m' : Nat) _ (by omega) (by have := HmB.out; omega)).mono ?_
  rintro en W1 ⟨⟨q1, rfl, hq1⟩, bq⟩
  have hr := hr.below bq
  have B := B.trans (bq.mono B.size)
  clear bq
  go_wp2_with fail
  refine (shift_up q1 (m' : Nat) 0 W1 hq1 (by omega)).mono ?_
  rintro en W2 ⟨htold, bq⟩
  have hr := hr.below bq
  have B := B.trans (bq.mono B.size)
  clear bq hq1
  obtain ⟨q2, rfl, hq2⟩ := htold.fine Hfit.out
  clear htold
  go_wp2_with fail
  refine (of_num 1 W2 (by omega) (by omega)).mono ?_
  rintro en W3 ⟨⟨q3, rfl, hq3⟩, bq⟩
  have hr := hr.below bq
  have hq2 := hq2.below bq
  have B := B.trans (bq.mono B.size)
  clear bq
  go_wp2_with fail
  refine (shift_up q3 1 s W3 hq3 (by omega)).mono ?_
  rintro en W4 ⟨htold, bq⟩
  have hr := hr.below bq
  have hq2 := hq2.below bq
  have B := B.trans (bq.mono B.size)
  clear bq hq3
  obtain ⟨q4, rfl, hq4⟩ := htold.fine Hfit2.out
  clear htold
  go_wp2_with fail
  refine (make_num neg q2 q4 (m') (2 ^ s) W4 (by simpa using hq2) (by rw [Int.natCast_pow]; simpa using hq4) (by exact Nat.pow_pos (by decide))).mono ?_
  rintro en W5 ⟨⟨r, rfl, hrat⟩, bq⟩
  have hr := hr.below bq
  have B := B.trans (bq.mono B.size)
  obtain ⟨s_, o1, m1, k1, o2, m2, k2, rfl⟩ := RawN.form hrat
  have Hr := Lib.hid hrat
  clear bq hrat hq2 hq4
  have f0 := hr.free 0
  have f1 := hr.free 1
  have f2 := hr.free 2
  have g0 := hr.cell 0
  have g1 := hr.cell 1
  have g2 := hr.cell 2
  simp at g0 g1 g2
  go_wp2_with fail
  refine bodyPost_ret (v := .tuple #[.agg #[.bool s_, .slice o1 m1 k1, .slice o2 m2 k2], .int .i64 0]) (by simp [results, Tryd.results21, go_sem, g0, g1, g2]) rfl ⟨.inl ⟨_, rfl, RawN.set3 (Hx.out ▸ Hr.out) hr⟩, ?_⟩
  exact ((B.setCell (by simp) _).setCell (by simp) _).setCell (by simp) _
set_option maxHeartbeats 1600000 in
set_option maxRecDepth 100000 in
theorem value_down_over (neg : Bool) (m : Nat) (e : Int) (w : World) (hm : m < 18446744073709551616) (hm0 : m ≠ 0) (e0 : e < 0) (e1 : -2000 ≤ e) (hT : Tab64 w) (b s : Nat) (hbd : b = min (Lib.ctz 64 m) (-e).toNat) (hs : b + s = (-e).toNat) (ho : 512 ≤ s) :
    Calls Tryd.prog 21 #[.bool neg, .int .u64 m, .int .i64 e] w fun en w' => ValPost (frac neg (m * up e) (up (-e))) en w' ∧ Below w.heap.size w w' := by
  obtain ⟨j, hj, hc⟩ := ctz_parts m hm hm0
  have Hx := Lib.hid (val_down neg (b := b) (s := s) hj e0 (by omega) hs).symm
  have HT := Lib.hid hT
  obtain ⟨x, hx⟩ : ∃ x, e + (b : Int) = x := ⟨_, rfl⟩
  obtain ⟨y, hy⟩ : ∃ y, -e = y := ⟨_, rfl⟩
  have hmx : max x 0 = 0 := by omega
  have hmy : max (-x) 0 = ((s : Nat) : Int) := by omega
  have hmb : min ((Lib.ctz 64 m : Nat) : Int) y = (b : Nat) := by omega
  have hs1 : s ≤ 2000 := by omega
  have e2 : -9223372036854775808 ≤ e := by omega
  obtain ⟨m', hm'⟩ : ∃ m', m / 2 ^ b = m' := ⟨_, rfl⟩
  have hsh : (m : Int) / 2 ^ b = (m' : Int) := by rw [← hm']; simp
  rw [hm'] at Hx
  have hz : ((m : Int) == 0) = false := by rw [beq_eq_false_iff_ne]; omega
  have HmB := Lib.hid (show m' < 18446744073709551616 from hm' ▸ Nat.lt_of_le_of_lt (Nat.div_le_self _ _) hm)
  have Hfit := Lib.hid (show (m' : Int) * 2 ^ 0 < pw 16 by rw [Int.pow_zero, Int.mul_one]; exact word_fits HmB.out)
  have Htz := Lib.hid (fun (W : World) (B : Below w.heap.size w W) => tz64 m hm hm0 W (hT.below B))
  have b64 : b < 64 := by omega
  have Hover := Lib.hid ((pw16_nat s).2 ho)
  have Hbig := Lib.hid (show pw 16 ≤ ((frac neg (m * up e) (up (-e))).num.natAbs : Nat) ∨ pw 16 ≤ ((frac neg (m * up e) (up (-e))).den : Nat) by
    obtain rfl : b = Lib.ctz 64 m := by omega
    have h2 : m / 2 ^ Lib.ctz 64 m = 2 * j + 1 := by
      conv => lhs; lhs; rw [hj]
      exact Nat.mul_div_cancel_left _ (Nat.pow_pos (by decide))
    rw [val_down neg (b := Lib.ctz 64 m) (s := s) hj e0 (by omega) hs, h2, odd_den]
    right
    have := (pw16_nat s).2 ho
    rw [Int.one_mul] at this
    rw [Int.natCast_pow]
    exact this)
  clear ho hm0 hT hj hbd hs hc hm'
  have B : Below w.heap.size w (w.alloc (.cells #[.bool false, .slice none 0 0, .slice none 0 0] 26)) := (Below.refl _ _).alloc (Nat.le_refl _) _
  have hr := BlockAt.new w #[.bool false, .slice none 0 0, .slice none 0 0] 26
  go_enter Tryd.func21, Tryd.ntmps21
  go_wp2_with fail
  refine (Htz.out _ B).mono ?_
  rintro en W0 ⟨rfl, rfl⟩
  clear Htz
  go_wp2_with fail
  refine (of_num (m' : Nat) _ (by omega) (by have := HmB.out; omega)).mono ?_
  rintro en W1 ⟨⟨q1, rfl, hq1⟩, bq⟩
  have hr := hr.below bq
  have B := B.trans (bq.mono B.size)
  clear bq
  go_wp2_with fail
  refine (shift_up q1 (m' : Nat) 0 W1 hq1 (by omega)).mono ?_
  rintro en W2 ⟨htold, bq⟩
  have hr := hr.below bq
  have B := B.trans (bq.mono B.size)
  clear bq hq1
  obtain ⟨q2, rfl, hq2⟩ := htold.fine Hfit.out
  clear htold
  go_wp2_with fail
  refine (of_num 1 W2 (by omega) (by omega)).mono ?_
  rintro en W3 ⟨⟨q3, rfl, hq3⟩, bq⟩
  have hr := hr.below bq
  have hq2 := hq2.below bq
  have B := B.trans (bq.mono B.size)
  clear bq
  go_wp2_with fail
  refine (shift_up q3 1 s W3 hq3 (by omega)).mono ?_
  rintro en W4 ⟨htold, bq⟩
  have hr := hr.below bq
  have hq2 := hq2.below bq
  have B := B.trans (bq.mono B.size)
  clear bq hq3
  obtain rfl := told_over htold Hover.out
  clear htold
  have f0 := hr.free 0
  have f1 := hr.free 1
  have f2 := hr.free 2
  have g0 := hr.cell 0
  have g1 := hr.cell 1
  have g2 := hr.cell 2
  simp at g0 g1 g2
  go_wp2_with fail
  refine bodyPost_ret (v := .tuple #[.agg #[.bool false, .slice none 0 0, .slice none 0 0], .int .i64 2]) (by simp [results, Tryd.results21, go_sem, g0, g1, g2]) rfl ⟨.inr ⟨rfl, Hbig.out⟩, ?_⟩
  exact ((B.setCell (by simp) _).setCell (by simp) _).setCell (by simp) _
/-- value, of anything. -/
theorem value_any (neg : Bool) (m : Nat) (e : Int) (w : World) (hm : m < 18446744073709551616) (e0 : -2000 ≤ e) (e1 : e ≤ 2000) (hT : Tab64 w) :
    Calls Tryd.prog 21 #[.bool neg, .int .u64 m, .int .i64 e] w fun en w' => ValPost (frac neg (m * up e) (up (-e))) en w' ∧ Below w.heap.size w w' := by
  by_cases hm0 : m = 0
  · subst hm0
    exact value_zero neg e w
  · rcases Int.lt_or_le e 0 with h | h
    · rcases Nat.lt_or_ge ((-e).toNat - min (Lib.ctz 64 m) (-e).toNat) 512 with h2 | h2
      · exact value_down neg m e w hm hm0 h e0 hT _ _ rfl (by omega) h2
      · exact value_down_over neg m e w hm hm0 h e0 hT _ _ rfl (by omega) h2
    · rcases Int.lt_or_le ((m : Int) * 2 ^ e.toNat) (pw 16) with h2 | h2
      · exact value_up neg m e w hm hm0 h e1 h2
      · exact value_up_over neg m e w hm hm0 h e1 h2
end Go.Proofs.YtlkadnaoacoicaaDoor
