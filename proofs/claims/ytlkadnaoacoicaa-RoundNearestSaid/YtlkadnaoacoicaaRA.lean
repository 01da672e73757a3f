/- The numbers of nat and of its reference, for this seat: XRatBase, XRatMath, XRatNum, XRatRight, XRatSum, XRatProd, XRatDo, XRatReckon, XRatAdd, XRatCmp, XRatLaw, XRatMore. -/
import Derived.Test.YtlkadnaoacoicaaNE
import Derived.Test.YtlkadnaoacoicaaBlock
import Derived.Deep.RegionWith
import Derived.Defers
import Derived.Recover
import Derived.Laws.Pointers
import Derived.StillTailTactics
namespace Go.Proofs.Ytlkadnaoacoicaa
open Go.RowKit NM

set_option maxHeartbeats 400000 in
theorem one_num (v : Value) (N : Int) (w : World) (h : Num w v N) :
    Calls Try.prog 30 #[v] w fun e w' => e = .returned (.bool (decide (N = 1))) ∧ w = w' := by
  obtain ⟨ao, n, cap, rfl, hn16, hn0, hn1, hn2⟩ := h.len
  by_cases h1 : n = 1
  · subst h1
    obtain ⟨b, off, rfl, hc, _⟩ := hn1 rfl
    have hz := Lib.hid (show (N == 1) = decide (N = 1) by rw [Bool.eq_iff_iff]; simp)
    clear hn0 hn1 hn2 h
    go_enter Try.func30, Try.ntmps30
    go_wp2_with fail
    go_ret
    exact ⟨ret_bool (by rw [← hz.out]), rfl⟩
  · have hne : ((n : Int) == 1) = false := by rw [beq_eq_false_iff_ne]; omega
    have hz := Lib.hid (show decide (N = 1) = false by
      rw [decide_eq_false_iff_not]
      intro hN
      rcases Nat.eq_zero_or_pos n with h0 | h0
      · have := hn0.1 h0; omega
      · have := hn2 (by omega); omega)
    clear hn0 hn1 hn2 h h1
    go_enter Try.func30, Try.ntmps30
    go_wp2_with fail
    go_ret
    exact ⟨ret_bool hz.out.symm, rfl⟩

set_option maxHeartbeats 800000 in
set_option maxRecDepth 100000 in
theorem greatest_num (v u : Value) (N M : Nat) (w : World) (h1 : Num w v N) (h2 : Num w u M) :
    Calls Try.prog 31 #[v, u] w fun e w' => (∃ r, e = .returned r ∧ Num w' r (Nat.gcd N M : Nat)) ∧ Below w.heap.size w w' := by
  have H1 := Lib.hid h1
  have H2 := Lib.hid h2
  clear h1 h2
  go_enter Try.func31, Try.ntmps31
  go_wp2_with fail
  go_loopg [0, 1] M (fun k va vb wr => ∃ A : Nat, Hid (Num wr va A) ∧ Hid (Num wr vb k) ∧ Hid (Nat.gcd A k = Nat.gcd N M) ∧ Hid (Below w.heap.size w wr))
  case atStart => exact ⟨N, H1, H2, Lib.hid rfl, Lib.hid (Below.refl _ _)⟩
  case round =>
    obtain ⟨A, ha, hb, hg, hbl⟩ := hrel
    obtain ⟨bo, n, bc, rfl, -, hn0, -, -⟩ := hb.out.len
    by_cases hk0 : gk = 0
    · subst hk0
      obtain rfl : n = 0 := hn0.2 rfl
      have hA : A = Nat.gcd N M := by rw [← hg.out, Nat.gcd_zero_right]
      rw [hA] at ha
      have HO := Lib.hid (one_num _ _ _ hb.out)
      rw [decide_eq_false (show ¬ ((0 : Nat) : Int) = 1 by omega)] at HO
      clear hn0 hA
      go_wp2_with fail
      refine HO.out.mono ?_
      rintro e w' ⟨rfl, rfl⟩
      clear HO
      go_wp2_with fail
      go_ret
      exact ⟨⟨_, rfl, ha.out⟩, hbl.out⟩
    · have hn : (0 : Int) < n := by
        have : n ≠ 0 := fun h => hk0 (by have := hn0.1 h; omega)
        omega
      have HO := Lib.hid (one_num _ _ _ hb.out)
      by_cases hk1 : gk = 1
      · have HR := hb
        rw [show gk = Nat.gcd N M by rw [← hg.out, hk1, Nat.gcd_one_right]] at HR
        rw [decide_eq_true (show (gk : Int) = 1 by omega)] at HO
        clear hn0 hk1 hk0
        go_wp2_with fail
        refine HO.out.mono ?_
        rintro e w' ⟨rfl, rfl⟩
        go_wp2_with fail
        refine HO.out.mono ?_
        rintro e w' ⟨rfl, rfl⟩
        clear HO
        go_wp2_with fail
        go_ret
        exact ⟨⟨_, rfl, HR.out⟩, hbl.out⟩
      · rw [decide_eq_false (show ¬ (gk : Int) = 1 by omega)] at HO
        have HD := Lib.hid (div_num _ _ (A : Int) (gk : Int) _ ha.out hb.out (by omega))
        have hgg := Lib.hid (show Nat.gcd gk (A % gk) = Nat.gcd N M by rw [← hg.out, Nat.gcd_comm A gk, Nat.gcd_rec gk A, Nat.gcd_comm])
        have hlt := Lib.hid (Nat.mod_lt A (Nat.pos_of_ne_zero hk0))
        clear hn0 hk1 hk0
        go_wp2_with fail
        refine HO.out.mono ?_
        rintro e w' ⟨rfl, rfl⟩
        go_wp2_with fail
        refine HD.out.mono ?_
        rintro e w2 ⟨⟨q, r, rfl, -, hr⟩, hb2⟩
        have Hr := Lib.hid (show Num w2 r ((A % gk : Nat) : Int) from hr)
        have Hb := Lib.hid (hb.out.below hb2)
        have Hl := Lib.hid (hbl.out.trans (hb2.mono hbl.out.size))
        clear HO HD hr hb2
        go_wp2_with fail
        go_roundg (A % gk)
        case measure => exact hlt.out
        case rel => exact ⟨gk, Hb, Hr, hgg, Hl⟩
end Go.Proofs.Ytlkadnaoacoicaa

namespace NM

def sg (neg : Bool) (N : Nat) : Int := if neg then -(N : Int) else N
/-- The number of a sign and a fraction. -/
def frac (neg : Bool) (N D : Nat) : Rat := mkRat (sg neg N) D

theorem sg_abs (neg : Bool) (N : Nat) : (sg neg N).natAbs = N := by cases neg <;> simp [sg]
theorem frac_self (x : Rat) : frac (decide (x.num < 0)) x.num.natAbs x.den = x := by
  have h : sg (decide (x.num < 0)) x.num.natAbs = x.num := by
    unfold sg
    by_cases h : x.num < 0
    · rw [decide_eq_true h, if_pos rfl]; omega
    · rw [decide_eq_false h, if_neg (by simp)]; omega
  rw [frac, h, Rat.mkRat_self]
theorem frac_den (neg : Bool) {N D : Nat} (hD : 0 < D) : (frac neg N D).den = D / Nat.gcd N D := by
  rw [frac, Rat.den_mkRat, if_neg (by omega), sg_abs, Nat.gcd_comm]
theorem frac_num (neg : Bool) {N D : Nat} (hD : 0 < D) : (frac neg N D).num = sg neg (N / Nat.gcd N D) := by
  rw [frac, Rat.num_mkRat, if_neg (by omega), sg_abs, Nat.gcd_comm]
  have hd : ((Nat.gcd N D : Nat) : Int) ∣ (N : Int) := Int.natCast_dvd_natCast.2 (Nat.gcd_dvd_left N D)
  cases neg
  · simp [sg]
  · simp only [sg, if_pos]
    rw [Int.neg_ediv_of_dvd hd, Int.natCast_ediv]
theorem frac_abs (neg : Bool) {N D : Nat} (hD : 0 < D) : (frac neg N D).num.natAbs = N / Nat.gcd N D := by
  rw [frac_num neg hD, sg_abs]
theorem frac_neg (neg : Bool) {N D : Nat} (hD : 0 < D) : decide ((frac neg N D).num < 0) = (neg && decide (0 < N / Nat.gcd N D)) := by
  rw [frac_num neg hD, Bool.eq_iff_iff]
  generalize N / Nat.gcd N D = k
  cases neg <;> simp [sg] <;> omega

theorem sum_same (neg : Bool) (N1 D1 N2 D2 : Nat) (h1 : 0 < D1) (h2 : 0 < D2) : frac neg (N1 * D2 + N2 * D1) (D1 * D2) = frac neg N1 D1 + frac neg N2 D2 := by
  rw [frac, frac, frac, Rat.mkRat_add_mkRat _ _ (by omega) (by omega)]
  congr 1
  cases neg
  · simp [sg]
  · simp only [sg, if_pos, Int.neg_mul]
    push_cast
    omega
theorem sum_ahead (na nb : Bool) (N1 D1 N2 D2 : Nat) (h1 : 0 < D1) (h2 : 0 < D2) (hn : na ≠ nb) (h : N2 * D1 ≤ N1 * D2) : frac na (N1 * D2 - N2 * D1) (D1 * D2) = frac na N1 D1 + frac nb N2 D2 := by
  rw [frac, frac, frac, Rat.mkRat_add_mkRat _ _ (by omega) (by omega)]
  congr 1
  have e : ((N1 * D2 - N2 * D1 : Nat) : Int) = (N1 : Int) * D2 - (N2 : Int) * D1 := by
    rw [Int.ofNat_sub h]; push_cast; rfl
  cases na <;> cases nb <;> simp_all [sg, Int.neg_mul] <;> omega
theorem sum_behind (na nb : Bool) (N1 D1 N2 D2 : Nat) (h1 : 0 < D1) (h2 : 0 < D2) (hn : na ≠ nb) (h : N1 * D2 ≤ N2 * D1) : frac nb (N2 * D1 - N1 * D2) (D1 * D2) = frac na N1 D1 + frac nb N2 D2 := by
  rw [Nat.mul_comm D1 D2, sum_ahead nb na N2 D2 N1 D1 h2 h1 (Ne.symm hn) h, Rat.add_comm]
theorem frac_flip (neg : Bool) (N D : Nat) : frac (!neg) N D = - frac neg N D := by
  rw [frac, frac, Rat.neg_mkRat]
  congr 1
  cases neg <;> simp [sg]
theorem prod_frac (na nb : Bool) (N1 D1 N2 D2 : Nat) : frac (na != nb) (N1 * N2) (D1 * D2) = frac na N1 D1 * frac nb N2 D2 := by
  rw [frac, frac, frac, Rat.mkRat_mul_mkRat]
  congr 1
  cases na <;> cases nb <;> simp [sg, Int.neg_mul, Int.mul_neg]
theorem inv_frac (neg : Bool) {N D : Nat} (hN : 0 < N) (hD : 0 < D) : frac neg D N = (frac neg N D)⁻¹ := by
  have h : frac neg N D * frac neg D N = 1 := by
    rw [← prod_frac]
    have e : (neg != neg) = false := by cases neg <;> rfl
    rw [e, frac, sg, Nat.mul_comm D N]
    have h2 : 0 < N * D := Nat.mul_pos hN hD
    simp only [Bool.false_eq_true, if_false]
    have h3 : mkRat ((N * D : Nat) : Int) (N * D) = mkRat 1 1 := (Rat.mkRat_eq_iff (by omega) (by omega)).2 (by omega)
    rw [h3]
    rfl
  have hne : frac neg N D ≠ 0 := by
    intro h0
    rw [h0, Rat.zero_mul] at h
    exact absurd h (by decide)
  have h3 := Rat.inv_mul_cancel _ hne
  calc frac neg D N = ((frac neg N D)⁻¹ * frac neg N D) * frac neg D N := by rw [h3, Rat.one_mul]
    _ = (frac neg N D)⁻¹ * (frac neg N D * frac neg D N) := Rat.mul_assoc _ _ _
    _ = (frac neg N D)⁻¹ := by rw [h, Rat.mul_one]
end NM

namespace Go.Proofs.Ytlkadnaoacoicaa
open Go.RowKit NM

/-- A sign and a fraction's two numbers. -/
def RawN (w : World) (v : Value) (neg : Bool) (N D : Nat) : Prop := ∃ n d, v = .agg #[.bool neg, n, d] ∧ Num w n N ∧ Num w d D
def RatN (w : World) (v : Value) (x : Rat) : Prop := RawN w v (decide (x.num < 0)) x.num.natAbs x.den
theorem RawN.below {w w' : World} {v : Value} {neg : Bool} {N D : Nat} (h : RawN w v neg N D) (hb : Below w.heap.size w w') : RawN w' v neg N D := by
  obtain ⟨n, d, h1, h2, h3⟩ := h
  exact ⟨n, d, h1, h2.below hb, h3.below hb⟩
theorem RatN.below {w w' : World} {v : Value} {x : Rat} (h : RatN w v x) (hb : Below w.heap.size w w') : RatN w' v x := RawN.below h hb
/-- No cell of a limb. -/
def NoLimb (cs : Array Value) : Prop := ∀ (k : Nat) (x : Int), cs[k]? ≠ some (Value.int .u32 x)
theorem Row.set_other {w : World} {ao : Option Addr} {xs : List Int} {b : Nat} {cs : Array Value} {t : TypeId} (h : Row w ao xs) (hb : BlockAt w b cs t) (hn : NoLimb cs) (k : Nat) (x : Value) : Row (w.setCell ⟨b, k, none⟩ x) ao xs := by
  rcases h with h | ⟨b2, off, h1, h2, h3⟩
  · exact .inl h
  · by_cases h0 : xs = []
    · exact .inl h0
    · refine .inr ⟨b2, off, h1, by simpa [World.setCell] using h2, fun i hi => ?_⟩
      have hne : b2 ≠ b := by
        intro e
        have hc := h3 0 (List.length_pos_iff.2 h0)
        rw [e, hb.cell] at hc
        exact hn _ _ hc
      have hh : (w.setCell ⟨b, k, none⟩ x).heap[b2]? = w.heap[b2]? := Below.heap_setCell _ _ _ _ hne
      rw [← h3 i hi]
      simp only [World.cell?, hh]
theorem Num.set_other {w : World} {v : Value} {N : Int} {b : Nat} {cs : Array Value} {t : TypeId} (h : Num w v N) (hb : BlockAt w b cs t) (hn : NoLimb cs) (k : Nat) (x : Value) : Num (w.setCell ⟨b, k, none⟩ x) v N := by
  obtain ⟨xs, ⟨ao, ca, h1, h2, h3, h4⟩, h5⟩ := h
  exact ⟨xs, ⟨ao, ca, h1, h2, h3.set_other hb hn k x, h4⟩, h5⟩
theorem RawN.set_other {w : World} {v : Value} {neg : Bool} {N D : Nat} {b : Nat} {cs : Array Value} {t : TypeId} (h : RawN w v neg N D) (hb : BlockAt w b cs t) (hn : NoLimb cs) (k : Nat) (x : Value) : RawN (w.setCell ⟨b, k, none⟩ x) v neg N D := by
  obtain ⟨n, d, h1, h2, h3⟩ := h
  exact ⟨n, d, h1, h2.set_other hb hn k x, h3.set_other hb hn k x⟩
theorem noLimb3 {a : Bool} {b c : Value} (hb : ∀ x, b ≠ Value.int .u32 x) (hc : ∀ x, c ≠ Value.int .u32 x) : NoLimb #[.bool a, b, c] := by
  intro k x h
  match k with
  | 0 => simp at h
  | 1 => simp at h; exact hb x h
  | 2 => simp at h; exact hc x h
  | k + 3 => simp at h
/-- Three stores into a block of the call's own: what was a number is one. -/
theorem RawN.set3 {w : World} {v : Value} {neg a0 a : Bool} {N D : Nat} {b : Nat} {t : TypeId} {o1 o2 : Option Addr} {n1 n2 c1 c2 : Nat} (h : RawN w v neg N D) (hb : BlockAt w b #[.bool a0, .slice none 0 0, .slice none 0 0] t) :
    RawN (((w.setCell ⟨b, 0, none⟩ (.bool a)).setCell ⟨b, 1, none⟩ (.slice o1 n1 c1)).setCell ⟨b, 2, none⟩ (.slice o2 n2 c2)) v neg N D := by
  have s1 := hb.set 0 (.bool a)
  have s2 := s1.set 1 (.slice o1 n1 c1)
  exact ((h.set_other hb (noLimb3 (fun _ h => by cases h) (fun _ h => by cases h)) _ _).set_other s1 (noLimb3 (fun _ h => by cases h) (fun _ h => by cases h)) _ _).set_other s2 (noLimb3 (fun _ h => by cases h) (fun _ h => by cases h)) _ _
theorem RatN.of_frac {w : World} {n d : Value} {neg s : Bool} {N D : Nat} (hD : 0 < D) (hs : s = (neg && decide (0 < N / Nat.gcd N D))) (hn : Num w n (N / Nat.gcd N D : Nat)) (hd : Num w d (D / Nat.gcd N D : Nat)) :
    RatN w (.agg #[.bool s, n, d]) (frac neg N D) := by
  refine ⟨n, d, ?_, ?_, ?_⟩
  · rw [hs, frac_neg neg hD]
  · rw [frac_abs neg hD]; exact hn
  · rw [frac_den neg hD]; exact hd

end Go.Proofs.Ytlkadnaoacoicaa

namespace Go.Proofs.Ytlkadnaoacoicaa
open Go.RowKit NM

def rawB (neg : Bool) (N D : Nat) : Bool := decide (0 < D) && (!(neg && decide (N = 0)) && decide (Nat.gcd N D = 1))
/-- A struct that is no number. -/
def BadR (w : World) (r : Value) : Prop := ∃ neg v u xs ys, r = .agg #[.bool neg, v, u] ∧ Sl w v xs ∧ Sl w u ys ∧ (rightB xs && (rightB ys && rawB neg (val xs).toNat (val ys).toNat)) = false
theorem BadR.below {w w' : World} {r : Value} (h : BadR w r) (hb : Below w.heap.size w w') : BadR w' r := by
  obtain ⟨neg, v, u, xs, ys, h1, h2, h3, h4⟩ := h
  exact ⟨neg, v, u, xs, ys, h1, h2.below hb, h3.below hb, h4⟩
theorem gcd_abs (x : Rat) : Nat.gcd x.num.natAbs x.den = 1 := x.reduced
theorem frac_raw {neg : Bool} {N D : Nat} (h : rawB neg N D = true) : (frac neg N D).num.natAbs = N ∧ (frac neg N D).den = D ∧ decide ((frac neg N D).num < 0) = neg := by
  simp only [rawB, Bool.and_eq_true, decide_eq_true_iff, Bool.not_eq_true'] at h
  obtain ⟨h1, h2, h3⟩ := h
  rw [frac_abs neg h1, frac_den neg h1, frac_neg neg h1, h3]
  refine ⟨Nat.div_one _, Nat.div_one _, ?_⟩
  rw [Nat.div_one]
  cases neg
  · rfl
  · simp at h2 ⊢; omega
theorem rat_raw (x : Rat) : rawB (decide (x.num < 0)) x.num.natAbs x.den = true := by
  have h1 := x.den_nz
  have h2 := gcd_abs x
  simp only [rawB, h2, Bool.and_eq_true, decide_eq_true_iff, Bool.not_eq_true', decide_true, Bool.and_true]
  refine ⟨by omega, ?_⟩
  rw [Bool.and_eq_false_iff, decide_eq_false_iff_not, decide_eq_false_iff_not]
  omega
/-- What comes in is a number, or none. -/
theorem rat_ways (w : World) (neg : Bool) (v u : Value) (xs ys : List Int) (h1 : Sl w v xs) (h2 : Sl w u ys) : (∃ x, RatN w (.agg #[.bool neg, v, u]) x) ∨ BadR w (.agg #[.bool neg, v, u]) := by
  by_cases h : (rightB xs && (rightB ys && rawB neg (val xs).toNat (val ys).toNat)) = true
  · simp only [Bool.and_eq_true] at h
    obtain ⟨a1, a2, a3⟩ := h
    have n1 : Num w v (val xs) := ⟨xs, h1, a1, rfl⟩
    have n2 : Num w u (val ys) := ⟨ys, h2, a2, rfl⟩
    have r1 := n1.range.1
    have r2 := n2.range.1
    obtain ⟨k1, k2, k3⟩ := frac_raw a3
    refine .inl ⟨frac neg (val xs).toNat (val ys).toNat, v, u, by rw [k3], ?_, ?_⟩
    · rw [k1, show (((val xs).toNat : Nat) : Int) = val xs by omega]; exact n1
    · rw [k2, show (((val ys).toNat : Nat) : Int) = val ys by omega]; exact n2
  · exact .inr ⟨neg, v, u, xs, ys, rfl, h1, h2, by simpa using h⟩

set_option maxHeartbeats 1600000 in
set_option maxRecDepth 100000 in
theorem right_raw (neg : Bool) (v u : Value) (N D : Nat) (w : World) (h1 : Num w v N) (h2 : Num w u D) :
    Calls Try.prog 16 #[.agg #[.bool neg, v, u]] w fun e w' => e = .returned (.bool (rawB neg N D)) ∧ Below w.heap.size w w' := by
  have b0 : Below w.heap.size w (w.alloc (.cells #[.bool neg, v, u] 25)) := (Below.refl _ _).alloc (Nat.le_refl _) _
  have k1 := h1.below b0
  have k2 := h2.below b0
  obtain ⟨ao, an, ac, rfl, -, an0, -, -⟩ := h1.len
  obtain ⟨bo, bn, bc, rfl, -, bn0, -, -⟩ := h2.len
  clear h1 h2
  have R1 := Lib.hid (right_num k1)
  have R2 := Lib.hid (right_num k2)
  have hG := Lib.hid (greatest_num _ _ N D _ k1 k2)
  by_cases hD : D = 0
  · obtain rfl : bn = 0 := bn0.2 (by omega)
    have hz := Lib.hid (show rawB neg N D = false by simp [rawB, hD])
    clear an0 bn0 hD k1 k2 hG
    go_enter Try.func16, Try.ntmps16
    go_wp2_with fail
    refine R1.out.mono ?_
    rintro e w' ⟨rfl, rfl⟩
    go_wp2_with fail
    refine R2.out.mono ?_
    rintro e w' ⟨rfl, rfl⟩
    go_wp2_with fail
    go_ret
    exact ⟨ret_bool hz.out.symm, b0⟩
  have hbn : ((bn : Int) == 0) = false := by rw [beq_eq_false_iff_ne]; intro h; exact hD (by have := bn0.1 (by omega); omega)
  by_cases hN : N = 0
  · obtain rfl : an = 0 := an0.2 (by omega)
    cases neg
    · have hz := Lib.hid (show rawB false N D = decide (((Nat.gcd N D : Nat) : Int) = 1) by simp [rawB, Nat.pos_of_ne_zero hD]; omega)
      clear an0 bn0 hD k1 k2 hN
      go_enter Try.func16, Try.ntmps16
      go_wp2_with fail
      refine R1.out.mono ?_
      rintro e w' ⟨rfl, rfl⟩
      go_wp2_with fail
      refine R2.out.mono ?_
      rintro e w' ⟨rfl, rfl⟩
      go_wp2_with fail
      refine hG.out.mono ?_
      rintro e w2 ⟨⟨g, rfl, hg⟩, b1⟩
      have B := b0.trans (b1.mono b0.size)
      have HO := Lib.hid (one_num g _ w2 hg)
      clear hg b1 hG
      go_wp2_with fail
      refine HO.out.mono ?_
      rintro e w' ⟨rfl, rfl⟩
      go_wp2_with fail
      go_ret
      exact ⟨ret_bool hz.out.symm, B⟩
    · have hz := Lib.hid (show rawB true N D = false by simp [rawB, hN])
      clear an0 bn0 hD k1 k2 hG hN
      go_enter Try.func16, Try.ntmps16
      go_wp2_with fail
      refine R1.out.mono ?_
      rintro e w' ⟨rfl, rfl⟩
      go_wp2_with fail
      refine R2.out.mono ?_
      rintro e w' ⟨rfl, rfl⟩
      go_wp2_with fail
      go_ret
      exact ⟨ret_bool hz.out.symm, b0⟩
  · have han : ((an : Int) == 0) = false := by rw [beq_eq_false_iff_ne]; intro h; exact hN (by have := an0.1 (by omega); omega)
    have hz := Lib.hid (show rawB neg N D = decide (((Nat.gcd N D : Nat) : Int) = 1) by
      simp [rawB, Nat.pos_of_ne_zero hD, hN]; omega)
    clear an0 bn0 hD k1 k2 hN
    go_enter Try.func16, Try.ntmps16
    go_wp2_with fail
    refine R1.out.mono ?_
    rintro e w' ⟨rfl, rfl⟩
    go_wp2_with fail
    refine R2.out.mono ?_
    rintro e w' ⟨rfl, rfl⟩
    go_wp2_with fail
    refine hG.out.mono ?_
    rintro e w2 ⟨⟨g, rfl, hg⟩, b1⟩
    have B := b0.trans (b1.mono b0.size)
    have HO := Lib.hid (one_num g _ w2 hg)
    clear hg b1 hG
    go_wp2_with fail
    refine HO.out.mono ?_
    rintro e w' ⟨rfl, rfl⟩
    go_wp2_with fail
    go_ret
    exact ⟨ret_bool hz.out.symm, B⟩

theorem right_rat {w : World} {r : Value} {x : Rat} (h : RatN w r x) :
    Calls Try.prog 16 #[r] w fun e w' => e = .returned (.bool true) ∧ Below w.heap.size w w' := by
  obtain ⟨n, d, rfl, h1, h2⟩ := h
  have := right_raw (decide (x.num < 0)) n d _ _ w h1 h2
  rw [rat_raw x] at this
  exact this

set_option maxHeartbeats 1600000 in
set_option maxRecDepth 100000 in
theorem right_not {w : World} {r : Value} (h : BadR w r) :
    Calls Try.prog 16 #[r] w fun e w' => e = .returned (.bool false) ∧ Below w.heap.size w w' := by
  obtain ⟨neg, v, u, xs, ys, rfl, h1, h2, h3⟩ := h
  have b0 : Below w.heap.size w (w.alloc (.cells #[.bool neg, v, u] 25)) := (Below.refl _ _).alloc (Nat.le_refl _) _
  cases hx : rightB xs
  · have R1 := Lib.hid (right_bad ⟨xs, h1.below b0, hx⟩)
    clear h1 h2 h3 hx
    go_enter Try.func16, Try.ntmps16
    go_wp2_with fail
    refine R1.out.mono ?_
    rintro e w' ⟨rfl, rfl⟩
    go_wp2_with fail
    go_ret
    exact ⟨rfl, b0⟩
  · cases hy : rightB ys
    · have R1 := Lib.hid (right_num (⟨xs, h1.below b0, hx, rfl⟩ : Num _ v (val xs)))
      have R2 := Lib.hid (right_bad ⟨ys, h2.below b0, hy⟩)
      clear h1 h2 h3 hx hy
      go_enter Try.func16, Try.ntmps16
      go_wp2_with fail
      refine R1.out.mono ?_
      rintro e w' ⟨rfl, rfl⟩
      go_wp2_with fail
      refine R2.out.mono ?_
      rintro e w' ⟨rfl, rfl⟩
      go_wp2_with fail
      go_ret
      exact ⟨rfl, b0⟩
    · have n1 : Num w v (val xs) := ⟨xs, h1, hx, rfl⟩
      have n2 : Num w u (val ys) := ⟨ys, h2, hy, rfl⟩
      have r1 := n1.range.1
      have r2 := n2.range.1
      rw [show val xs = (((val xs).toNat : Nat) : Int) by omega] at n1
      rw [show val ys = (((val ys).toNat : Nat) : Int) by omega] at n2
      have := right_raw neg v u _ _ w n1 n2
      rw [hx, hy, Bool.true_and, Bool.true_and] at h3
      rw [h3] at this
      exact this
end Go.Proofs.Ytlkadnaoacoicaa

namespace Go.Proofs.Ytlkadnaoacoicaa
open Go.RowKit NM

/-- What sum keeps: its two arguments, its result's block. -/
structure SumAt (w W : World) (na nb : Bool) (n1 d1 n2 d2 : Value) (N1 D1 N2 D2 : Nat) : Prop where
  bl : Below w.heap.size w W
  a : BlockAt W w.heap.size #[.bool na, n1, d1] 25
  b : BlockAt W (w.heap.size + 1) #[.bool nb, n2, d2] 25
  r : BlockAt W (w.heap.size + 2) #[.bool false, .slice none 0 0, .slice none 0 0] 25
  n1 : Num W n1 N1
  d1 : Num W d1 D1
  n2 : Num W n2 N2
  d2 : Num W d2 D2
theorem SumAt.later {w W W2 : World} {na nb : Bool} {n1 d1 n2 d2 : Value} {N1 D1 N2 D2 : Nat} (h : SumAt w W na nb n1 d1 n2 d2 N1 D1 N2 D2) (hb : Below W.heap.size W W2) : SumAt w W2 na nb n1 d1 n2 d2 N1 D1 N2 D2 :=
  ⟨h.bl.trans (hb.mono h.bl.size), h.a.below hb, h.b.below hb, h.r.below hb, h.n1.below hb, h.d1.below hb, h.n2.below hb, h.d2.below hb⟩
theorem SumAt.start (w : World) (na nb : Bool) (n1 d1 n2 d2 : Value) (N1 D1 N2 D2 : Nat) (h1 : Num w n1 N1) (h2 : Num w d1 D1) (h3 : Num w n2 N2) (h4 : Num w d2 D2) :
    SumAt w (((w.alloc (.cells #[.bool na, n1, d1] 25)).alloc (.cells #[.bool nb, n2, d2] 25)).alloc (.cells #[.bool false, .slice none 0 0, .slice none 0 0] 25)) na nb n1 d1 n2 d2 N1 D1 N2 D2 := by
  have s1 := BlockAt.new w #[.bool na, n1, d1] 25
  have b1 : Below w.heap.size w (w.alloc (.cells #[.bool na, n1, d1] 25)) := (Below.refl _ _).alloc (Nat.le_refl _) _
  have e1 : (w.alloc (.cells #[.bool na, n1, d1] 25)).heap.size = w.heap.size + 1 := by simp
  generalize w.alloc (.cells #[.bool na, n1, d1] 25) = w1 at *
  have s2 := BlockAt.new w1 #[.bool nb, n2, d2] 25
  have b2 : Below w1.heap.size w1 (w1.alloc (.cells #[.bool nb, n2, d2] 25)) := (Below.refl _ _).alloc (Nat.le_refl _) _
  have e2 : (w1.alloc (.cells #[.bool nb, n2, d2] 25)).heap.size = w.heap.size + 2 := by simp [e1]
  rw [e1] at s2
  generalize w1.alloc (.cells #[.bool nb, n2, d2] 25) = w2 at *
  have s3 := BlockAt.new w2 #[.bool false, .slice none 0 0, .slice none 0 0] 25
  have b3 : Below w2.heap.size w2 (w2.alloc (.cells #[.bool false, .slice none 0 0, .slice none 0 0] 25)) := (Below.refl _ _).alloc (Nat.le_refl _) _
  rw [e2] at s3
  have c := b2.trans (b3.mono b2.size)
  have d := b1.trans (c.mono b1.size)
  exact ⟨d, s1.below c, s2.below b3, s3, h1.below d, h2.below d, h3.below d, h4.below d⟩
theorem SumAt.cells {w W : World} {na nb : Bool} {n1 d1 n2 d2 : Value} {N1 D1 N2 D2 : Nat} (h : SumAt w W na nb n1 d1 n2 d2 N1 D1 N2 D2) :
    W.cell? ⟨w.heap.size, 0, none⟩ = some (.bool na) ∧ W.cell? ⟨w.heap.size, 1, none⟩ = some n1 ∧ W.cell? ⟨w.heap.size, 2, none⟩ = some d1 ∧
    W.cell? ⟨w.heap.size + 1, 0, none⟩ = some (.bool nb) ∧ W.cell? ⟨w.heap.size + 1, 1, none⟩ = some n2 ∧ W.cell? ⟨w.heap.size + 1, 2, none⟩ = some d2 :=
  ⟨h.a.cell 0, h.a.cell 1, h.a.cell 2, h.b.cell 0, h.b.cell 1, h.b.cell 2⟩

theorem RawN.form {w : World} {v : Value} {neg : Bool} {N D : Nat} (h : RawN w v neg N D) : ∃ s o1 n1 c1 o2 n2 c2, v = .agg #[.bool s, .slice o1 n1 c1, .slice o2 n2 c2] := by
  obtain ⟨n, d, rfl, h1, h2⟩ := h
  obtain ⟨o1, n1, c1, rfl, -⟩ := h1.len
  obtain ⟨o2, n2, c2, rfl, -⟩ := h2.len
  exact ⟨_, _, _, _, _, _, _, rfl⟩
/-- Something in the sum is too great. -/
def OverS (N1 D1 N2 D2 : Nat) : Prop := pw 16 ≤ ((N1 * D2 : Nat) : Int) ∨ pw 16 ≤ ((N2 * D1 : Nat) : Int) ∨ pw 16 ≤ ((D1 * D2 : Nat) : Int) ∨ pw 16 ≤ ((N1 * D2 + N2 * D1 : Nat) : Int)

end Go.Proofs.Ytlkadnaoacoicaa

namespace Go.Proofs.Ytlkadnaoacoicaa
open Go.RowKit NM

theorem Told.good {N : Int} {e : Ending} {w : World} (h : Told N e w) (hN : N < pw 16) : ∃ v, e = .returned (.tuple #[v, .int .i64 0]) ∧ Num w v N := by
  rcases h with ⟨_, h⟩ | ⟨h, _⟩
  · exact h
  · omega
theorem Told.great {N : Int} {e : Ending} {w : World} (h : Told N e w) (hN : pw 16 ≤ N) : e = .returned (.tuple #[.slice none 0 0, .int .i64 2]) := by
  rcases h with ⟨h, _⟩ | ⟨_, h⟩
  · omega
  · exact h
structure ProdAt (w W : World) (s : Bool) (n1 d1 n2 d2 : Value) (N1 D1 N2 D2 : Nat) : Prop where
  bl : Below w.heap.size w W
  a : BlockAt W w.heap.size #[.bool s, n1, d1] 25
  r : BlockAt W (w.heap.size + 1) #[.bool false, .slice none 0 0, .slice none 0 0] 25
  n1 : Num W n1 N1
  d1 : Num W d1 D1
  n2 : Num W n2 N2
  d2 : Num W d2 D2
theorem ProdAt.later {w W W2 : World} {s : Bool} {n1 d1 n2 d2 : Value} {N1 D1 N2 D2 : Nat} (h : ProdAt w W s n1 d1 n2 d2 N1 D1 N2 D2) (hb : Below W.heap.size W W2) : ProdAt w W2 s n1 d1 n2 d2 N1 D1 N2 D2 :=
  ⟨h.bl.trans (hb.mono h.bl.size), h.a.below hb, h.r.below hb, h.n1.below hb, h.d1.below hb, h.n2.below hb, h.d2.below hb⟩
theorem ProdAt.start (w : World) (s : Bool) (n1 d1 n2 d2 : Value) (N1 D1 N2 D2 : Nat) (h1 : Num w n1 N1) (h2 : Num w d1 D1) (h3 : Num w n2 N2) (h4 : Num w d2 D2) :
    ProdAt w ((w.alloc (.cells #[.bool s, n1, d1] 25)).alloc (.cells #[.bool false, .slice none 0 0, .slice none 0 0] 25)) s n1 d1 n2 d2 N1 D1 N2 D2 := by
  have s1 := BlockAt.new w #[.bool s, n1, d1] 25
  have b1 : Below w.heap.size w (w.alloc (.cells #[.bool s, n1, d1] 25)) := (Below.refl _ _).alloc (Nat.le_refl _) _
  have e1 : (w.alloc (.cells #[.bool s, n1, d1] 25)).heap.size = w.heap.size + 1 := by simp
  generalize w.alloc (.cells #[.bool s, n1, d1] 25) = w1 at *
  have s3 := BlockAt.new w1 #[.bool false, .slice none 0 0, .slice none 0 0] 25
  have b3 : Below w1.heap.size w1 (w1.alloc (.cells #[.bool false, .slice none 0 0, .slice none 0 0] 25)) := (Below.refl _ _).alloc (Nat.le_refl _) _
  rw [e1] at s3
  have d := b1.trans (b3.mono b1.size)
  exact ⟨d, s1.below b3, s3, h1.below d, h2.below d, h3.below d, h4.below d⟩
theorem ProdAt.cells {w W : World} {s : Bool} {n1 d1 n2 d2 : Value} {N1 D1 N2 D2 : Nat} (h : ProdAt w W s n1 d1 n2 d2 N1 D1 N2 D2) :
    W.cell? ⟨w.heap.size, 0, none⟩ = some (.bool s) ∧ W.cell? ⟨w.heap.size, 1, none⟩ = some n1 ∧ W.cell? ⟨w.heap.size, 2, none⟩ = some d1 :=
  ⟨h.a.cell 0, h.a.cell 1, h.a.cell 2⟩

/-- Something in the product is too great. -/
def OverP (N1 D1 N2 D2 : Nat) : Prop := pw 16 ≤ ((N1 * N2 : Nat) : Int) ∨ pw 16 ≤ ((D1 * D2 : Nat) : Int)

end Go.Proofs.Ytlkadnaoacoicaa

namespace Go.Proofs.Ytlkadnaoacoicaa
open Go.RowKit NM

theorem block3 {w : World} {b : Nat} {x y z : Value} {t : TypeId} (h : BlockAt w b #[x, y, z] t) : w.cell? ⟨b, 0, none⟩ = some x ∧ w.cell? ⟨b, 1, none⟩ = some y ∧ w.cell? ⟨b, 2, none⟩ = some z :=
  ⟨h.cell 0, h.cell 1, h.cell 2⟩

end Go.Proofs.Ytlkadnaoacoicaa

namespace Go.Proofs.Ytlkadnaoacoicaa
open Go.RowKit NM

/-- What the deferred closure lays where something was too great. -/
def Caught (B : Nat) (w : World) (bp bq : Nat) (w' : World) : Prop :=
  BlockAt w' bp #[.bool false, .slice none 0 0, .slice none 0 0] 25 ∧ BlockAt w' bq #[.int .i64 2] 28 ∧ Below B w w'

/-- What reckon tells. -/
def RkPost (over : Prop) (x : Rat) (e : Ending) (w' : World) : Prop :=
  (¬ over ∧ ∃ r, e = .returned (.tuple #[r, .int .i64 0]) ∧ RatN w' r x) ∨ (over ∧ e = .returned (.tuple #[.agg #[.bool false, .slice none 0 0, .slice none 0 0], .int .i64 2]))

theorem reckon_num {w : World} {v : Value} {neg a : Bool} {N D bp : Nat} {o1 o2 : Option Addr} {n1 n2 c1 c2 : Nat} {x : Int} (h : RawN w v neg N D) (hp : BlockAt w bp #[.bool false, .slice none 0 0, .slice none 0 0] 25) (hq : BlockAt w (bp + 1) #[.int .i64 0] 28) :
    RawN ((((w.setCell ⟨bp, 0, none⟩ (.bool a)).setCell ⟨bp, 1, none⟩ (.slice o1 n1 c1)).setCell ⟨bp, 2, none⟩ (.slice o2 n2 c2)).setCell ⟨bp + 1, 0, none⟩ (.int .i64 x)) v neg N D := by
  have h1 := RawN.set3 (a := a) (o1 := o1) (n1 := n1) (c1 := c1) (o2 := o2) (n2 := n2) (c2 := c2) h hp
  have q1 := ((hq.other (show bp + 1 ≠ bp by omega) 0 (.bool a)).other (show bp + 1 ≠ bp by omega) 1 (.slice o1 n1 c1)).other (show bp + 1 ≠ bp by omega) 2 (.slice o2 n2 c2)
  refine h1.set_other q1 (fun k y hk => ?_) 0 _
  match k with
  | 0 => simp at hk
  | k + 1 => simp at hk

end Go.Proofs.Ytlkadnaoacoicaa

namespace Go.Proofs.Ytlkadnaoacoicaa
open Go.RowKit NM

def nilRat : Value := .agg #[.bool false, .slice none 0 0, .slice none 0 0]
theorem SumAt.ra {w W : World} {na nb : Bool} {n1 d1 n2 d2 : Value} {N1 D1 N2 D2 : Nat} (h : SumAt w W na nb n1 d1 n2 d2 N1 D1 N2 D2) : RawN W (.agg #[.bool na, n1, d1]) na N1 D1 := ⟨n1, d1, rfl, h.n1, h.d1⟩
theorem SumAt.rb {w W : World} {na nb : Bool} {n1 d1 n2 d2 : Value} {N1 D1 N2 D2 : Nat} (h : SumAt w W na nb n1 d1 n2 d2 N1 D1 N2 D2) : RawN W (.agg #[.bool nb, n2, d2]) nb N2 D2 := ⟨n2, d2, rfl, h.n2, h.d2⟩
def OverA (x y : Rat) : Prop := OverS x.num.natAbs x.den y.num.natAbs y.den
def OverM (x y : Rat) : Prop := OverP x.num.natAbs x.den y.num.natAbs y.den
def OverQ (x y : Rat) : Prop := OverP x.num.natAbs x.den y.den y.num.natAbs
theorem den_pos (x : Rat) : 0 < x.den := Nat.pos_of_ne_zero x.den_nz

theorem SumAt.flip {w W : World} {na nb : Bool} {n1 d1 : Value} {o2 o3 : Option Addr} {m2 m3 k2 k3 : Nat} {N1 D1 N2 D2 : Nat} (h : SumAt w W na nb n1 d1 (.slice o2 m2 k2) (.slice o3 m3 k3) N1 D1 N2 D2) (c : Bool) : SumAt w (W.setCell ⟨w.heap.size + 1, 0, none⟩ (.bool c)) na c n1 d1 (.slice o2 m2 k2) (.slice o3 m3 k3) N1 D1 N2 D2 := by
  have hl : NoLimb #[.bool nb, .slice o2 m2 k2, .slice o3 m3 k3] := noLimb3 (fun _ h => by cases h) (fun _ h => by cases h)
  exact ⟨h.bl.setCell (by simp) _, h.a.other (by omega) _ _, h.b.set 0 _, h.r.other (by omega) _ _, h.n1.set_other h.b hl _ _, h.d1.set_other h.b hl _ _, h.n2.set_other h.b hl _ _, h.d2.set_other h.b hl _ _⟩
/-- Some sign and some two slices. -/
def FormR (v : Value) : Prop := ∃ s n d, v = .agg #[.bool s, n, d]
theorem three_start (w : World) (A B C : Array Value) (t : TypeId) :
    Below w.heap.size w (((w.alloc (.cells A t)).alloc (.cells B t)).alloc (.cells C t)) ∧ BlockAt (((w.alloc (.cells A t)).alloc (.cells B t)).alloc (.cells C t)) w.heap.size A t ∧ BlockAt (((w.alloc (.cells A t)).alloc (.cells B t)).alloc (.cells C t)) (w.heap.size + 1) B t ∧ BlockAt (((w.alloc (.cells A t)).alloc (.cells B t)).alloc (.cells C t)) (w.heap.size + 2) C t := by
  have s1 := BlockAt.new w A t
  have b1 : Below w.heap.size w (w.alloc (.cells A t)) := (Below.refl _ _).alloc (Nat.le_refl _) _
  have e1 : (w.alloc (.cells A t)).heap.size = w.heap.size + 1 := by simp
  generalize w.alloc (.cells A t) = w1 at *
  have s2 := BlockAt.new w1 B t
  have b2 : Below w1.heap.size w1 (w1.alloc (.cells B t)) := (Below.refl _ _).alloc (Nat.le_refl _) _
  have e2 : (w1.alloc (.cells B t)).heap.size = w.heap.size + 2 := by simp [e1]
  rw [e1] at s2
  generalize w1.alloc (.cells B t) = w2 at *
  have s3 := BlockAt.new w2 C t
  have b3 : Below w2.heap.size w2 (w2.alloc (.cells C t)) := (Below.refl _ _).alloc (Nat.le_refl _) _
  rw [e2] at s3
  have c := b2.trans (b3.mono b2.size)
  exact ⟨b1.trans (c.mono b1.size), s1.below c, s2.below b3, s3⟩
theorem BadR.form {w : World} {v : Value} (h : BadR w v) : FormR v := by
  obtain ⟨s, n, d, _, _, h, _⟩ := h
  exact ⟨s, n, d, h⟩
theorem RatN.form {w : World} {v : Value} {x : Rat} (h : RatN w v x) : FormR v := by
  obtain ⟨n, d, h, _⟩ := h
  exact ⟨_, n, d, h⟩

end Go.Proofs.Ytlkadnaoacoicaa

namespace Go.Proofs.Ytlkadnaoacoicaa
open Go.RowKit NM

def ratSgn (x y : Rat) : Int := if x < y then -1 else if y < x then 1 else 0
def OverC (x y : Rat) : Prop := pw 16 ≤ ((x.num.natAbs * y.den : Nat) : Int) ∨ pw 16 ≤ ((y.num.natAbs * x.den : Nat) : Int)
def CmpPost (over : Prop) (n : Int) (e : Ending) : Prop := (¬ over ∧ e = .returned (.tuple #[.int .i64 n, .int .i64 0])) ∨ (over ∧ e = .returned (.tuple #[.int .i64 0, .int .i64 2]))
theorem ratSgn_num (x y : Rat) : ratSgn x y = sgn (x.num * y.den) (y.num * x.den) := by
  unfold ratSgn sgn
  simp only [Rat.lt_iff]
theorem num_sg (x : Rat) : x.num = sg (decide (x.num < 0)) x.num.natAbs := by
  unfold sg
  by_cases h : x.num < 0
  · rw [decide_eq_true h, if_pos rfl]; omega
  · rw [decide_eq_false h, if_neg (by simp)]; omega
/-- A sign and two products decide. -/
def signCmp (na nb : Bool) (A B : Nat) : Int := if na then (if nb then sgn (B : Int) (A : Int) else -1) else (if nb then 1 else sgn (A : Int) (B : Int))
theorem sgn_signs (na nb : Bool) (A B : Nat) (ha : na = true → 0 < A) (hb : nb = true → 0 < B) :
    sgn (sg na A) (sg nb B) = signCmp na nb A B := by
  cases na <;> cases nb <;> simp [sg, sgn, signCmp] at ha hb ⊢
  · omega
  · omega
theorem sg_mul (neg : Bool) (N D : Nat) : sg neg N * (D : Int) = sg neg (N * D) := by
  cases neg
  · simp [sg]
  · simp [sg, Int.neg_mul]

theorem two_start (w : World) (A B : Array Value) (t : TypeId) :
    Below w.heap.size w ((w.alloc (.cells A t)).alloc (.cells B t)) ∧ BlockAt ((w.alloc (.cells A t)).alloc (.cells B t)) w.heap.size A t ∧ BlockAt ((w.alloc (.cells A t)).alloc (.cells B t)) (w.heap.size + 1) B t := by
  have s1 := BlockAt.new w A t
  have b1 : Below w.heap.size w (w.alloc (.cells A t)) := (Below.refl _ _).alloc (Nat.le_refl _) _
  have e1 : (w.alloc (.cells A t)).heap.size = w.heap.size + 1 := by simp
  generalize w.alloc (.cells A t) = w1 at *
  have s2 := BlockAt.new w1 B t
  have b2 : Below w1.heap.size w1 (w1.alloc (.cells B t)) := (Below.refl _ _).alloc (Nat.le_refl _) _
  rw [e1] at s2
  exact ⟨b1.trans (b2.mono b1.size), s1.below b2, s2⟩

set_option maxHeartbeats 3200000 in
set_option maxRecDepth 100000 in
theorem cmp_rat (v u : Value) (x y : Rat) (w : World) (h1 : RatN w v x) (h2 : RatN w u y) :
    Calls Try.prog 14 #[v, u] w fun e w' => CmpPost (OverC x y) (ratSgn x y) e ∧ Below w.heap.size w w' := by
  have R1 := fun (W : World) (B : Below w.heap.size w W) => right_rat (h1.below B)
  have R2 := fun (W : World) (B : Below w.heap.size w W) => right_rat (h2.below B)
  obtain ⟨n1, d1, rfl, a1, a2⟩ := h1
  obtain ⟨n2, d2, rfl, a3, a4⟩ := h2
  have hs := sgn_signs (decide (x.num < 0)) (decide (y.num < 0)) (x.num.natAbs * y.den) (y.num.natAbs * x.den)
    (fun h => Nat.mul_pos (by have := of_decide_eq_true h; omega) (den_pos y)) (fun h => Nat.mul_pos (by have := of_decide_eq_true h; omega) (den_pos x))
  rw [← sg_mul, ← sg_mul, ← num_sg, ← num_sg, ← ratSgn_num] at hs
  rw [hs]
  unfold OverC
  generalize x.num.natAbs = N1 at *
  generalize y.num.natAbs = N2 at *
  generalize x.den = D1 at *
  generalize y.den = D2 at *
  generalize decide (x.num < 0) = na at *
  generalize decide (y.num < 0) = nb at *
  clear hs
  obtain ⟨B, ha, hb⟩ := two_start w #[.bool na, n1, d1] #[.bool nb, n2, d2] 25
  have R1 := Lib.hid R1
  have R2 := Lib.hid R2
  have a1 := a1.below B
  have a2 := a2.below B
  have a3 := a3.below B
  have a4 := a4.below B
  go_enter Try.func14, Try.ntmps14
  go_wp2_with fail
  generalize (w.alloc (.cells #[.bool na, n1, d1] 25)).alloc (.cells #[.bool nb, n2, d2] 25) = W at *
  refine (R1.out W B).mono ?_
  rintro e W2 ⟨rfl, bq⟩
  have ha := ha.below bq
  have hb := hb.below bq
  have a1 := a1.below bq
  have a2 := a2.below bq
  have a3 := a3.below bq
  have a4 := a4.below bq
  have B := B.trans (bq.mono B.size)
  obtain ⟨c0, c1, c2⟩ := block3 ha
  obtain ⟨c3, c4, c5⟩ := block3 hb
  clear bq
  go_wp2_with fail
  refine (R2.out W2 B).mono ?_
  rintro e W3 ⟨rfl, bq⟩
  have ha := ha.below bq
  have hb := hb.below bq
  have a1 := a1.below bq
  have a2 := a2.below bq
  have a3 := a3.below bq
  have a4 := a4.below bq
  have B := B.trans (bq.mono B.size)
  clear bq c0 c1 c2 c3 c4 c5 R1 R2
  obtain ⟨c0, c1, c2⟩ := block3 ha
  obtain ⟨c3, c4, c5⟩ := block3 hb
  have HM := Lib.hid (mul_num n1 d2 N1 D2 W3 a1 a4)
  go_wp2_with fail
  refine HM.out.mono ?_
  rintro e W4 ⟨hto, bq⟩
  have ha := ha.below bq
  have hb := hb.below bq
  have a2 := a2.below bq
  have a3 := a3.below bq
  have B := B.trans (bq.mono B.size)
  clear bq c0 c1 c2 c3 c4 c5 HM a1 a4
  obtain ⟨c0, c1, c2⟩ := block3 ha
  obtain ⟨c3, c4, c5⟩ := block3 hb
  rcases hto with ⟨hlt1, p, rfl, hp⟩ | ⟨hge, rfl⟩
  rotate_left
  · have hov := Lib.hid (show pw 16 ≤ ((N1 * D2 : Nat) : Int) ∨ pw 16 ≤ ((N2 * D1 : Nat) : Int) from .inl hge)
    clear hge
    go_wp2_with fail
    go_ret2
    exact ⟨.inr ⟨hov.out, rfl⟩, B⟩
  have hp : Num W4 p ((N1 * D2 : Nat) : Int) := hp
  have Hlt1 := Lib.hid (show ((N1 * D2 : Nat) : Int) < pw 16 from hlt1)
  have HM := Lib.hid (mul_num n2 d1 N2 D1 W4 a3 a2)
  clear hlt1
  go_wp2_with fail
  refine HM.out.mono ?_
  rintro e W5 ⟨hto, bq⟩
  have ha := ha.below bq
  have hb := hb.below bq
  have hp := hp.below bq
  have B := B.trans (bq.mono B.size)
  clear bq c0 c1 c2 c3 c4 c5 HM a2 a3
  obtain ⟨c0, c1, c2⟩ := block3 ha
  obtain ⟨c3, c4, c5⟩ := block3 hb
  rcases hto with ⟨hlt2, q, rfl, hq⟩ | ⟨hge, rfl⟩
  rotate_left
  · have hov := Lib.hid (show pw 16 ≤ ((N1 * D2 : Nat) : Int) ∨ pw 16 ≤ ((N2 * D1 : Nat) : Int) from .inr hge)
    clear hge
    go_wp2_with fail
    go_ret2
    exact ⟨.inr ⟨hov.out, rfl⟩, B⟩
  have hq : Num W5 q ((N2 * D1 : Nat) : Int) := hq
  have Hno := Lib.hid (show ¬ (pw 16 ≤ ((N1 * D2 : Nat) : Int) ∨ pw 16 ≤ ((N2 * D1 : Nat) : Int)) from fun h => by
    have := Hlt1.out
    have h2 : ((N2 * D1 : Nat) : Int) < pw 16 := hlt2
    rcases h with h | h <;> omega)
  have HC := Lib.hid (cmp_num hp hq)
  have HD := Lib.hid (cmp_num hq hp)
  clear hlt2 hp hq
  cases na <;> cases nb
  · go_wp2_with fail
    refine HC.out.mono ?_
    rintro e W6 ⟨rfl, bq⟩
    have B := B.trans (bq.mono B.size)
    go_wp2_with fail
    go_ret2
    exact ⟨.inl ⟨Hno.out, rfl⟩, B⟩
  · go_wp2_with fail
    go_ret2
    exact ⟨.inl ⟨Hno.out, rfl⟩, B⟩
  · go_wp2_with fail
    go_ret2
    exact ⟨.inl ⟨Hno.out, rfl⟩, B⟩
  · go_wp2_with fail
    refine HD.out.mono ?_
    rintro e W6 ⟨rfl, bq⟩
    have B := B.trans (bq.mono B.size)
    go_wp2_with fail
    go_ret2
    exact ⟨.inl ⟨Hno.out, rfl⟩, B⟩

set_option maxHeartbeats 1600000 in
set_option maxRecDepth 100000 in
theorem cmp_badr (v u : Value) (w : World) (h1 : BadR w v ∨ (∃ x, RatN w v x) ∧ BadR w u) (h2 : FormR u) :
    Calls Try.prog 14 #[v, u] w fun e w' => e = .returned (.tuple #[.int .i64 0, .int .i64 1]) ∧ Below w.heap.size w w' := by
  have hf : FormR v := by
    rcases h1 with h | ⟨⟨x, h⟩, _⟩
    · exact h.form
    · exact h.form
  obtain ⟨s1, n1, d1, rfl⟩ := hf
  obtain ⟨s2, n2, d2, rfl⟩ := h2
  obtain ⟨B, ha, hb⟩ := two_start w #[.bool s1, n1, d1] #[.bool s2, n2, d2] 25
  rcases h1 with h | ⟨⟨x, h⟩, h'⟩
  · have R1 := Lib.hid (right_not (h.below B))
    clear h
    go_enter Try.func14, Try.ntmps14
    go_wp2_with fail
    generalize (w.alloc (.cells #[.bool s1, n1, d1] 25)).alloc (.cells #[.bool s2, n2, d2] 25) = W at *
    refine R1.out.mono ?_
    rintro e W2 ⟨rfl, bq⟩
    have B := B.trans (bq.mono B.size)
    clear ha hb R1 bq
    go_wp2_with fail
    go_ret2
    exact ⟨rfl, B⟩
  · have R1 := Lib.hid (right_rat (h.below B))
    have h' := h'.below B
    clear h
    go_enter Try.func14, Try.ntmps14
    go_wp2_with fail
    generalize (w.alloc (.cells #[.bool s1, n1, d1] 25)).alloc (.cells #[.bool s2, n2, d2] 25) = W at *
    refine R1.out.mono ?_
    rintro e W2 ⟨rfl, bq⟩
    have hb := hb.below bq
    have B := B.trans (bq.mono B.size)
    have R2 := Lib.hid (right_not (h'.below bq))
    obtain ⟨c3, c4, c5⟩ := block3 hb
    clear ha h' bq R1
    go_wp2_with fail
    refine R2.out.mono ?_
    rintro e W3 ⟨rfl, bq⟩
    have B := B.trans (bq.mono B.size)
    clear hb c3 c4 c5 R2 bq
    go_wp2_with fail
    go_ret2
    exact ⟨rfl, B⟩
end Go.Proofs.Ytlkadnaoacoicaa

namespace Go.Proofs.Ytlkadnaoacoicaa
open Go.RowKit NM

theorem IsRow.sl {w : World} {a : Option Addr} {len cap : Nat} {zs : List Int} (h : IsRow .u32 w a len cap zs) (k : Nat) (hk : k ≤ len) (h18 : k ≤ 18) : Sl w (.slice a k cap) (zs.take k) := by
  rcases h with ⟨rfl, rfl, rfl, rfl⟩ | ⟨x, rfl, hl, hm, hz, hc, hwf⟩
  · obtain rfl : k = 0 := by omega
    exact ⟨none, 0, rfl, Nat.le_refl _, .inl rfl, U32s_nil, by simp, fun _ => rfl⟩
  · have hu : U32s zs := fun n hn => u32_of_wf (hwf n hn)
    have hlen : (zs.take k).length = k := by simp; omega
    refine ⟨some x, cap, by rw [hlen], by omega, ?_, U32s_take hu k, by omega, fun h => by cases h⟩
    by_cases h0 : zs.take k = []
    · exact .inl h0
    · have hk0 : 0 < k := by
        rcases Nat.eq_zero_or_pos k with h | h
        · subst h; simp at h0
        · exact h
      obtain ⟨b, off, spot⟩ := x
      have h1 := hc 0 (by omega)
      have hspot : spot = none := by simpa [Addr.add] using World.cell?_spot h1
      subst hspot
      refine .inr ⟨b, off, rfl, ?_, fun i hi => ?_⟩
      · by_cases hb : b < w.heap.size
        · exact hb
        · simp only [Addr.add] at h1
          rw [World.cell?, Array.getElem?_eq_none (by simp; omega)] at h1
          cases h1
      · rw [hlen] at hi
        have h2 := hc i (by omega)
        rw [lb_take hi, lb]
        by_cases hi0 : i = 0
        · subst hi0; simpa [Addr.add] using h2
        · simpa [Addr.add, hi0] using h2
theorem addr_lt {w : World} {p : Addr} {v : Value} (h : w.cell? p = some v) : p.block < w.heap.size := by
  by_cases hb : p.block < w.heap.size
  · exact hb
  · have hn : w.heap[p.block]? = none := Array.getElem?_eq_none (by omega)
    simp [World.cell?, hn] at h
theorem IsRow.later {w w' : World} {a : Option Addr} {len cap : Nat} {zs : List Int} (h : IsRow .u32 w a len cap zs) (hb : Below w.heap.size w w') : IsRow .u32 w' a len cap zs := by
  rcases h with h | ⟨x, h1, hl, hm, hz, hc, hwf⟩
  · exact .inl h
  · refine .inr ⟨x, h1, hl, hm, hz, fun i hi => ?_, hwf⟩
    have h2 := hc i hi
    rw [hb.cell (p := x.add i) (addr_lt h2)]
    exact h2
theorem IsRow.caps {w : World} {a : Option Addr} {len cap : Nat} {zs : List Int} (h : IsRow .u32 w a len cap zs) : len ≤ cap ∧ cap ≤ 9223372036854775807 := by
  rcases h with ⟨rfl, rfl, rfl, rfl⟩ | ⟨x, rfl, hl, hm, hz, hc, hwf⟩
  · omega
  · unfold maxLen at hm; omega

theorem Sl.set3 {w : World} {v : Value} {xs : List Int} {a : Bool} {b : Nat} {t : TypeId} {o1 o2 : Option Addr} {n1 n2 c1 c2 : Nat} (h : Sl w v xs) (hb : BlockAt w b #[.bool false, .slice none 0 0, .slice none 0 0] t) :
    Sl (((w.setCell ⟨b, 0, none⟩ (.bool a)).setCell ⟨b, 1, none⟩ (.slice o1 n1 c1)).setCell ⟨b, 2, none⟩ (.slice o2 n2 c2)) v xs := by
  obtain ⟨ao, ca, h1, h2, h3, h4⟩ := h
  have s1 := hb.set 0 (.bool a)
  have s2 := s1.set 1 (.slice o1 n1 c1)
  exact ⟨ao, ca, h1, h2, ((h3.set_other hb (noLimb3 (fun _ h => by cases h) (fun _ h => by cases h)) _ _).set_other s1 (noLimb3 (fun _ h => by cases h) (fun _ h => by cases h)) _ _).set_other s2 (noLimb3 (fun _ h => by cases h) (fun _ h => by cases h)) _ _, h4⟩

/-- Two structs' signs and slices. -/
def SlR (w : World) (v : Value) (s : Bool) (xs ys : List Int) : Prop := ∃ n d, v = .agg #[.bool s, n, d] ∧ Sl w n xs ∧ Sl w d ys

theorem Num.slr {w : World} {v : Value} {N : Int} (h : Num w v N) : ∃ xs, Sl w v xs ∧ rightB xs = true ∧ val xs = N := h
theorem RatN.slr {w : World} {v : Value} {x : Rat} (h : RatN w v x) : ∃ xs ys, SlR w v (decide (x.num < 0)) xs ys ∧ rightB xs = true ∧ val xs = x.num.natAbs ∧ rightB ys = true ∧ val ys = x.den := by
  obtain ⟨n, d, rfl, ⟨xs, a1, a2, a3⟩, ⟨ys, b1, b2, b3⟩⟩ := h
  exact ⟨xs, ys, ⟨n, d, rfl, a1, b1⟩, a2, a3, b2, b3⟩
/-- The text of a number. -/
def ratStr (x : Rat) : ByteArray :=
  let s := if decide (x.num < 0) then (⟨#[45]⟩ : ByteArray) ++ numStr x.num.natAbs else numStr x.num.natAbs
  if x.den = 1 then s else s ++ ((⟨#[47]⟩ : ByteArray) ++ numStr x.den)

end Go.Proofs.Ytlkadnaoacoicaa

namespace Go.Proofs.Ytlkadnaoacoicaa
open Go.RowKit NM

/-- Without what is behind the point. -/
def ratTrunc (x : Rat) : Rat := frac (decide (x.num < 0)) (x.num.natAbs / x.den) 1
theorem Bad1.below {w w' : World} {v : Value} (h : Bad1 w v) (hb : Below w.heap.size w w') : Bad1 w' v := by
  obtain ⟨xs, h1, h2⟩ := h
  exact ⟨xs, h1.below hb, h2⟩
end Go.Proofs.Ytlkadnaoacoicaa

