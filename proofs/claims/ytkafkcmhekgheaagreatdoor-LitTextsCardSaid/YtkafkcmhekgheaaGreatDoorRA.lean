/- The numbers of nat and of its reference, for this seat: XRatBase, XRatMath, XRatNum, XRatRight, XRatSum, XRatProd, XRatDo, XRatReckon, XRatAdd, XRatCmp, XRatLaw, XRatMore. -/
import Derived.Test.YtkafkcmhekgheaaGreatDoorNE
import Derived.Test.YtkafkcmhekgheaaGreatDoorBlock
import Derived.Deep.RegionWith
import Derived.Defers
import Derived.Recover
import Derived.Laws.Pointers
import Derived.StillTailTactics
namespace Go.Proofs.YtkafkcmhekgheaaGreatDoor.Q
open Go.RowKit NM

set_option maxHeartbeats 400000 in
theorem one_num (v : Value) (N : Int) (w : World) (h : Num w v N) :
    Calls Tryz.prog 108 #[v] w fun e w' => e = .returned (.bool (decide (N = 1))) ∧ w = w' := by
  obtain ⟨ao, n, cap, rfl, hn16, hn0, hn1, hn2⟩ := h.len
  by_cases h1 : n = 1
  · subst h1
    obtain ⟨b, off, rfl, hc, _⟩ := hn1 rfl
    have hz := Lib.hid (show (N == 1) = decide (N = 1) by rw [Bool.eq_iff_iff]; simp)
    clear hn0 hn1 hn2 h
    go_enter Tryz.func108, Tryz.ntmps108
    go_wp2_with fail
    go_ret
    exact ⟨ret_bool (by rw [← hz.out]), rfl⟩
  · have hne : ((n : Int) == 1) = false := by rw [beq_eq_false_iff_ne]; omega
    have hz := Lib.hid (show decide (N = 1) = false by
      rw [decide_eq_false_iff_not]
      intro hN
      rcases Nat.eq_zero_or_pos n with h0 | h0
      · have := hn0.1 h0; omega
      · have := hn2 (by omega); omega)
    clear hn0 hn1 hn2 h h1
    go_enter Tryz.func108, Tryz.ntmps108
    go_wp2_with fail
    go_ret
    exact ⟨ret_bool hz.out.symm, rfl⟩

set_option maxHeartbeats 800000 in
set_option maxRecDepth 100000 in
theorem greatest_num (v u : Value) (N M : Nat) (w : World) (h1 : Num w v N) (h2 : Num w u M) :
    Calls Tryz.prog 102 #[v, u] w fun e w' => (∃ r, e = .returned r ∧ Num w' r (Nat.gcd N M : Nat)) ∧ Below w.heap.size w w' := by
  have H1 := Lib.hid h1
  have H2 := Lib.hid h2
  clear h1 h2
  go_enter Tryz.func102, Tryz.ntmps102
  go_wp2_with fail
  go_loopg [0, 1] M (fun k va vb wr => ∃ A : Nat, Hid (Num wr va A) ∧ Hid (Num wr vb k) ∧ Hid (Nat.gcd A k = Nat.gcd N M) ∧ Hid (Below w.heap.size w wr))
  case atStart => exact ⟨N, H1, H2, Lib.hid rfl, Lib.hid (Below.refl _ _)⟩
  case round =>
    obtain ⟨A, ha, hb, hg, hbl⟩ := hrel
    obtain ⟨bo, n, bc, rfl, -, hn0, -, -⟩ := hb.out.len
    by_cases hk0 : gk = 0
    · subst hk0
      obtain rfl : n = 0 := hn0.2 rfl
      have hA : A = Nat.gcd N M := by rw [← hg.out, Nat.gcd_zero_right]
      rw [hA] at ha
      have HO := Lib.hid (one_num _ _ _ hb.out)
      rw [decide_eq_false (show ¬ ((0 : Nat) : Int) = 1 by omega)] at HO
      clear hn0 hA
      go_wp2_with fail
      refine HO.out.mono ?_
      rintro e w' ⟨rfl, rfl⟩
      clear HO
      go_wp2_with fail
      go_ret
      exact ⟨⟨_, rfl, ha.out⟩, hbl.out⟩
    · have hn : (0 : Int) < n := by
        have : n ≠ 0 := fun h => hk0 (by have := hn0.1 h; omega)
        omega
      have HO := Lib.hid (one_num _ _ _ hb.out)
      by_cases hk1 : gk = 1
      · have HR := hb
        rw [show gk = Nat.gcd N M by rw [← hg.out, hk1, Nat.gcd_one_right]] at HR
        rw [decide_eq_true (show (gk : Int) = 1 by omega)] at HO
        clear hn0 hk1 hk0
        go_wp2_with fail
        refine HO.out.mono ?_
        rintro e w' ⟨rfl, rfl⟩
        go_wp2_with fail
        refine HO.out.mono ?_
        rintro e w' ⟨rfl, rfl⟩
        clear HO
        go_wp2_with fail
        go_ret
        exact ⟨⟨_, rfl, HR.out⟩, hbl.out⟩
      · rw [decide_eq_false (show ¬ (gk : Int) = 1 by omega)] at HO
        have HD := Lib.hid (div_num _ _ (A : Int) (gk : Int) _ ha.out hb.out (by omega))
        have hgg := Lib.hid (show Nat.gcd gk (A % gk) = Nat.gcd N M by rw [← hg.out, Nat.gcd_comm A gk, Nat.gcd_rec gk A, Nat.gcd_comm])
        have hlt := Lib.hid (Nat.mod_lt A (Nat.pos_of_ne_zero hk0))
        clear hn0 hk1 hk0
        go_wp2_with fail
        refine HO.out.mono ?_
        rintro e w' ⟨rfl, rfl⟩
        go_wp2_with fail
        refine HD.out.mono ?_
        rintro e w2 ⟨⟨q, r, rfl, -, hr⟩, hb2⟩
        have Hr := Lib.hid (show Num w2 r ((A % gk : Nat) : Int) from hr)
        have Hb := Lib.hid (hb.out.below hb2)
        have Hl := Lib.hid (hbl.out.trans (hb2.mono hbl.out.size))
        clear HO HD hr hb2
        go_wp2_with fail
        go_roundg (A % gk)
        case measure => exact hlt.out
        case rel => exact ⟨gk, Hb, Hr, hgg, Hl⟩
end Go.Proofs.YtkafkcmhekgheaaGreatDoor.Q

namespace NM

def sg (neg : Bool) (N : Nat) : Int := if neg then -(N : Int) else N
/-- The number of a sign and a fraction. -/
def frac (neg : Bool) (N D : Nat) : Rat := mkRat (sg neg N) D

theorem sg_abs (neg : Bool) (N : Nat) : (sg neg N).natAbs = N := by cases neg <;> simp [sg]
theorem frac_self (x : Rat) : frac (decide (x.num < 0)) x.num.natAbs x.den = x := by
  have h : sg (decide (x.num < 0)) x.num.natAbs = x.num := by
    unfold sg
    by_cases h : x.num < 0
    · rw [decide_eq_true h, if_pos rfl]; omega
    · rw [decide_eq_false h, if_neg (by simp)]; omega
  rw [frac, h, Rat.mkRat_self]
theorem frac_den (neg : Bool) {N D : Nat} (hD : 0 < D) : (frac neg N D).den = D / Nat.gcd N D := by
  rw [frac, Rat.den_mkRat, if_neg (by omega), sg_abs, Nat.gcd_comm]
theorem frac_num (neg : Bool) {N D : Nat} (hD : 0 < D) : (frac neg N D).num = sg neg (N / Nat.gcd N D) := by
  rw [frac, Rat.num_mkRat, if_neg (by omega), sg_abs, Nat.gcd_comm]
  have hd : ((Nat.gcd N D : Nat) : Int) ∣ (N : Int) := Int.natCast_dvd_natCast.2 (Nat.gcd_dvd_left N D)
  cases neg
  · simp [sg]
  · simp only [sg, if_pos]
    rw [Int.neg_ediv_of_dvd hd, Int.natCast_ediv]
theorem frac_abs (neg : Bool) {N D : Nat} (hD : 0 < D) : (frac neg N D).num.natAbs = N / Nat.gcd N D := by
  rw [frac_num neg hD, sg_abs]
theorem frac_neg (neg : Bool) {N D : Nat} (hD : 0 < D) : decide ((frac neg N D).num < 0) = (neg && decide (0 < N / Nat.gcd N D)) := by
  rw [frac_num neg hD, Bool.eq_iff_iff]
  generalize N / Nat.gcd N D = k
  cases neg <;> simp [sg] <;> omega

theorem sum_same (neg : Bool) (N1 D1 N2 D2 : Nat) (h1 : 0 < D1) (h2 : 0 < D2) : frac neg (N1 * D2 + N2 * D1) (D1 * D2) = frac neg N1 D1 + frac neg N2 D2 := by
  rw [frac, frac, frac, Rat.mkRat_add_mkRat _ _ (by omega) (by omega)]
  congr 1
  cases neg
  · simp [sg]
  · simp only [sg, if_pos, Int.neg_mul]
    push_cast
    omega
theorem sum_ahead (na nb : Bool) (N1 D1 N2 D2 : Nat) (h1 : 0 < D1) (h2 : 0 < D2) (hn : na ≠ nb) (h : N2 * D1 ≤ N1 * D2) : frac na (N1 * D2 - N2 * D1) (D1 * D2) = frac na N1 D1 + frac nb N2 D2 := by
  rw [frac, frac, frac, Rat.mkRat_add_mkRat _ _ (by omega) (by omega)]
  congr 1
  have e : ((N1 * D2 - N2 * D1 : Nat) : Int) = (N1 : Int) * D2 - (N2 : Int) * D1 := by
    rw [Int.ofNat_sub h]; push_cast; rfl
  cases na <;> cases nb <;> simp_all [sg, Int.neg_mul] <;> omega
theorem sum_behind (na nb : Bool) (N1 D1 N2 D2 : Nat) (h1 : 0 < D1) (h2 : 0 < D2) (hn : na ≠ nb) (h : N1 * D2 ≤ N2 * D1) : frac nb (N2 * D1 - N1 * D2) (D1 * D2) = frac na N1 D1 + frac nb N2 D2 := by
  rw [Nat.mul_comm D1 D2, sum_ahead nb na N2 D2 N1 D1 h2 h1 (Ne.symm hn) h, Rat.add_comm]
theorem frac_flip (neg : Bool) (N D : Nat) : frac (!neg) N D = - frac neg N D := by
  rw [frac, frac, Rat.neg_mkRat]
  congr 1
  cases neg <;> simp [sg]
theorem prod_frac (na nb : Bool) (N1 D1 N2 D2 : Nat) : frac (na != nb) (N1 * N2) (D1 * D2) = frac na N1 D1 * frac nb N2 D2 := by
  rw [frac, frac, frac, Rat.mkRat_mul_mkRat]
  congr 1
  cases na <;> cases nb <;> simp [sg, Int.neg_mul, Int.mul_neg]
theorem inv_frac (neg : Bool) {N D : Nat} (hN : 0 < N) (hD : 0 < D) : frac neg D N = (frac neg N D)⁻¹ := by
  have h : frac neg N D * frac neg D N = 1 := by
    rw [← prod_frac]
    have e : (neg != neg) = false := by cases neg <;> rfl
    rw [e, frac, sg, Nat.mul_comm D N]
    have h2 : 0 < N * D := Nat.mul_pos hN hD
    simp only [Bool.false_eq_true, if_false]
    have h3 : mkRat ((N * D : Nat) : Int) (N * D) = mkRat 1 1 := (Rat.mkRat_eq_iff (by omega) (by omega)).2 (by omega)
    rw [h3]
    rfl
  have hne : frac neg N D ≠ 0 := by
    intro h0
    rw [h0, Rat.zero_mul] at h
    exact absurd h (by decide)
  have h3 := Rat.inv_mul_cancel _ hne
  calc frac neg D N = ((frac neg N D)⁻¹ * frac neg N D) * frac neg D N := by rw [h3, Rat.one_mul]
    _ = (frac neg N D)⁻¹ * (frac neg N D * frac neg D N) := Rat.mul_assoc _ _ _
    _ = (frac neg N D)⁻¹ := by rw [h, Rat.mul_one]
end NM

namespace Go.Proofs.YtkafkcmhekgheaaGreatDoor.Q
open Go.RowKit NM

/-- A sign and a fraction's two numbers. -/
def RawN (w : World) (v : Value) (neg : Bool) (N D : Nat) : Prop := ∃ n d, v = .agg #[.bool neg, n, d] ∧ Num w n N ∧ Num w d D
def RatN (w : World) (v : Value) (x : Rat) : Prop := RawN w v (decide (x.num < 0)) x.num.natAbs x.den
theorem RawN.below {w w' : World} {v : Value} {neg : Bool} {N D : Nat} (h : RawN w v neg N D) (hb : Below w.heap.size w w') : RawN w' v neg N D := by
  obtain ⟨n, d, h1, h2, h3⟩ := h
  exact ⟨n, d, h1, h2.below hb, h3.below hb⟩
theorem RatN.below {w w' : World} {v : Value} {x : Rat} (h : RatN w v x) (hb : Below w.heap.size w w') : RatN w' v x := RawN.below h hb
/-- No cell of a limb. -/
def NoLimb (cs : Array Value) : Prop := ∀ (k : Nat) (x : Int), cs[k]? ≠ some (Value.int .u32 x)
theorem Row.set_other {w : World} {ao : Option Addr} {xs : List Int} {b : Nat} {cs : Array Value} {t : TypeId} (h : Row w ao xs) (hb : BlockAt w b cs t) (hn : NoLimb cs) (k : Nat) (x : Value) : Row (w.setCell ⟨b, k, none⟩ x) ao xs := by
  rcases h with h | ⟨b2, off, h1, h2, h3⟩
  · exact .inl h
  · by_cases h0 : xs = []
    · exact .inl h0
    · refine .inr ⟨b2, off, h1, by simpa [World.setCell] using h2, fun i hi => ?_⟩
      have hne : b2 ≠ b := by
        intro e
        have hc := h3 0 (List.length_pos_iff.2 h0)
        rw [e, hb.cell] at hc
        exact hn _ _ hc
      have hh : (w.setCell ⟨b, k, none⟩ x).heap[b2]? = w.heap[b2]? := Below.heap_setCell _ _ _ _ hne
      rw [← h3 i hi]
      simp only [World.cell?, hh]
theorem Num.set_other {w : World} {v : Value} {N : Int} {b : Nat} {cs : Array Value} {t : TypeId} (h : Num w v N) (hb : BlockAt w b cs t) (hn : NoLimb cs) (k : Nat) (x : Value) : Num (w.setCell ⟨b, k, none⟩ x) v N := by
  obtain ⟨xs, ⟨ao, ca, h1, h2, h3, h4⟩, h5⟩ := h
  exact ⟨xs, ⟨ao, ca, h1, h2, h3.set_other hb hn k x, h4⟩, h5⟩
theorem RawN.set_other {w : World} {v : Value} {neg : Bool} {N D : Nat} {b : Nat} {cs : Array Value} {t : TypeId} (h : RawN w v neg N D) (hb : BlockAt w b cs t) (hn : NoLimb cs) (k : Nat) (x : Value) : RawN (w.setCell ⟨b, k, none⟩ x) v neg N D := by
  obtain ⟨n, d, h1, h2, h3⟩ := h
  exact ⟨n, d, h1, h2.set_other hb hn k x, h3.set_other hb hn k x⟩
theorem noLimb3 {a : Bool} {b c : Value} (hb : ∀ x, b ≠ Value.int .u32 x) (hc : ∀ x, c ≠ Value.int .u32 x) : NoLimb #[.bool a, b, c] := by
  intro k x h
  match k with
  | 0 => simp at h
  | 1 => simp at h; exact hb x h
  | 2 => simp at h; exact hc x h
  | k + 3 => simp at h
/-- Three stores into a block of the call's own: what was a number is one. -/
theorem RawN.set3 {w : World} {v : Value} {neg a0 a : Bool} {N D : Nat} {b : Nat} {t : TypeId} {o1 o2 : Option Addr} {n1 n2 c1 c2 : Nat} (h : RawN w v neg N D) (hb : BlockAt w b #[.bool a0, .slice none 0 0, .slice none 0 0] t) :
    RawN (((w.setCell ⟨b, 0, none⟩ (.bool a)).setCell ⟨b, 1, none⟩ (.slice o1 n1 c1)).setCell ⟨b, 2, none⟩ (.slice o2 n2 c2)) v neg N D := by
  have s1 := hb.set 0 (.bool a)
  have s2 := s1.set 1 (.slice o1 n1 c1)
  exact ((h.set_other hb (noLimb3 (fun _ h => by cases h) (fun _ h => by cases h)) _ _).set_other s1 (noLimb3 (fun _ h => by cases h) (fun _ h => by cases h)) _ _).set_other s2 (noLimb3 (fun _ h => by cases h) (fun _ h => by cases h)) _ _
theorem RatN.of_frac {w : World} {n d : Value} {neg s : Bool} {N D : Nat} (hD : 0 < D) (hs : s = (neg && decide (0 < N / Nat.gcd N D))) (hn : Num w n (N / Nat.gcd N D : Nat)) (hd : Num w d (D / Nat.gcd N D : Nat)) :
    RatN w (.agg #[.bool s, n, d]) (frac neg N D) := by
  refine ⟨n, d, ?_, ?_, ?_⟩
  · rw [hs, frac_neg neg hD]
  · rw [frac_abs neg hD]; exact hn
  · rw [frac_den neg hD]; exact hd

set_option maxHeartbeats 1600000 in
set_option maxRecDepth 100000 in
theorem reduced_num (neg : Bool) (v u : Value) (N D : Nat) (w : World) (h1 : Num w v N) (h2 : Num w u D) (hD : 0 < D) :
    Calls Tryz.prog 88 #[.bool neg, v, u] w fun e w' => (∃ r, e = .returned r ∧ RatN w' r (frac neg N D)) ∧ Below w.heap.size w w' := by
  have hg : 0 < Nat.gcd N D := Nat.gcd_pos_of_pos_right _ hD
  obtain ⟨G, hG⟩ : ∃ G, Nat.gcd N D = G := ⟨_, rfl⟩
  have HG := Lib.hid hG
  rw [hG] at hg
  have b0 : Below w.heap.size w (w.alloc (.cells #[.bool false, .slice none 0 0, .slice none 0 0] 49)) := (Below.refl _ _).alloc (Nat.le_refl _) _
  have k1 := h1.below b0
  have k2 := h2.below b0
  have hr := BlockAt.new w #[.bool false, .slice none 0 0, .slice none 0 0] 49
  have HD := Lib.hid hD
  clear h1 h2 hG hD
  go_enter Tryz.func88, Tryz.ntmps88
  go_wp2_with fail
  generalize w.alloc (.cells #[.bool false, .slice none 0 0, .slice none 0 0] 49) = w0 at *
  have HR := Lib.hid (greatest_num v u N D w0 k1 k2)
  refine HR.out.mono ?_
  rintro e w1 ⟨⟨g, rfl, hgn⟩, b1⟩
  rw [HG.out] at hgn
  have k1 := k1.below b1
  have k2 := k2.below b1
  have hr := hr.below b1
  have B := b0.trans (b1.mono b0.size)
  clear HR b1
  have HR := Lib.hid (div_num v g N G w1 k1 hgn (by omega))
  go_wp2_with fail
  refine HR.out.mono ?_
  rintro e w2 ⟨⟨n, x1, rfl, hn, -⟩, b2⟩
  have hn : Num w2 n ((N / G : Nat) : Int) := hn
  have k2 := k2.below b2
  have hgn := hgn.below b2
  have hr := hr.below b2
  have B := B.trans (b2.mono B.size)
  clear HR b2
  have HR := Lib.hid (div_num u g D G w2 k2 hgn (by omega))
  go_wp2_with fail
  refine HR.out.mono ?_
  rintro e w3 ⟨⟨d, x2, rfl, hd, -⟩, b3⟩
  have hd : Num w3 d ((D / G : Nat) : Int) := hd
  have hn := hn.below b3
  have hr := hr.below b3
  have B := B.trans (b3.mono B.size)
  clear HR b3
  obtain ⟨q1, hq1⟩ : ∃ q, N / G = q := ⟨_, rfl⟩
  obtain ⟨q2, hq2⟩ : ∃ q, D / G = q := ⟨_, rfl⟩
  rw [hq1] at hn
  rw [hq2] at hd
  obtain ⟨no, nn, nc, rfl, -, nn0, -, -⟩ := hn.len
  obtain ⟨d_, dn, dc, rfl, -, -, -, -⟩ := hd.len
  have hs : (neg && decide (0 < nn)) = (neg && decide (0 < N / Nat.gcd N D)) := by
    rw [HG.out, hq1]
    congr 1
    rw [decide_eq_decide]
    omega
  have Hs := Lib.hid hs
  have Hn := Lib.hid hn
  have Hd := Lib.hid hd
  rw [← hq1, ← HG.out] at Hn
  rw [← hq2, ← HG.out] at Hd
  clear hs hn hd nn0 k1 k2 hgn hq1 hq2
  have hc0 := hr.cell 0
  have hc1 := hr.cell 1
  have hc2 := hr.cell 2
  have hf0 := hr.free 0
  have hf1 := hr.free 1
  have hf2 := hr.free 2
  simp at hc0 hc1 hc2
  cases neg
  · go_wp2_with fail
    refine bodyPost_ret (v := .agg #[.bool false, .slice no nn nc, .slice d_ dn dc]) (by simp [results, Tryz.results88, go_sem, hc0, hc1, hc2]) rfl ⟨⟨_, rfl, ?_⟩, ?_⟩
    · exact RawN.set3 (RatN.of_frac HD.out (by rw [← Hs.out]; rfl) Hn.out Hd.out) hr
    · exact ((B.setCell (by simp) _).setCell (by simp) _).setCell (by simp) _
  · go_wp2_with fail
    refine bodyPost_ret (v := .agg #[.bool (decide (0 < nn)), .slice no nn nc, .slice d_ dn dc]) (by simp [results, Tryz.results88, go_sem, hc0, hc1, hc2]) rfl ⟨⟨_, rfl, ?_⟩, ?_⟩
    · exact RawN.set3 (RatN.of_frac HD.out (by rw [← Hs.out]; simp) Hn.out Hd.out) hr
    · exact ((B.setCell (by simp) _).setCell (by simp) _).setCell (by simp) _
end Go.Proofs.YtkafkcmhekgheaaGreatDoor.Q

namespace Go.Proofs.YtkafkcmhekgheaaGreatDoor.Q
open Go.RowKit NM

def rawB (neg : Bool) (N D : Nat) : Bool := decide (0 < D) && (!(neg && decide (N = 0)) && decide (Nat.gcd N D = 1))
/-- A struct that is no number. -/
def BadR (w : World) (r : Value) : Prop := ∃ neg v u xs ys, r = .agg #[.bool neg, v, u] ∧ Sl w v xs ∧ Sl w u ys ∧ (rightB xs && (rightB ys && rawB neg (val xs).toNat (val ys).toNat)) = false
theorem BadR.below {w w' : World} {r : Value} (h : BadR w r) (hb : Below w.heap.size w w') : BadR w' r := by
  obtain ⟨neg, v, u, xs, ys, h1, h2, h3, h4⟩ := h
  exact ⟨neg, v, u, xs, ys, h1, h2.below hb, h3.below hb, h4⟩
theorem gcd_abs (x : Rat) : Nat.gcd x.num.natAbs x.den = 1 := x.reduced
theorem frac_raw {neg : Bool} {N D : Nat} (h : rawB neg N D = true) : (frac neg N D).num.natAbs = N ∧ (frac neg N D).den = D ∧ decide ((frac neg N D).num < 0) = neg := by
  simp only [rawB, Bool.and_eq_true, decide_eq_true_iff, Bool.not_eq_true'] at h
  obtain ⟨h1, h2, h3⟩ := h
  rw [frac_abs neg h1, frac_den neg h1, frac_neg neg h1, h3]
  refine ⟨Nat.div_one _, Nat.div_one _, ?_⟩
  rw [Nat.div_one]
  cases neg
  · rfl
  · simp at h2 ⊢; omega
theorem rat_raw (x : Rat) : rawB (decide (x.num < 0)) x.num.natAbs x.den = true := by
  have h1 := x.den_nz
  have h2 := gcd_abs x
  simp only [rawB, h2, Bool.and_eq_true, decide_eq_true_iff, Bool.not_eq_true', decide_true, Bool.and_true]
  refine ⟨by omega, ?_⟩
  rw [Bool.and_eq_false_iff, decide_eq_false_iff_not, decide_eq_false_iff_not]
  omega
/-- What comes in is a number, or none. -/
theorem rat_ways (w : World) (neg : Bool) (v u : Value) (xs ys : List Int) (h1 : Sl w v xs) (h2 : Sl w u ys) : (∃ x, RatN w (.agg #[.bool neg, v, u]) x) ∨ BadR w (.agg #[.bool neg, v, u]) := by
  by_cases h : (rightB xs && (rightB ys && rawB neg (val xs).toNat (val ys).toNat)) = true
  · simp only [Bool.and_eq_true] at h
    obtain ⟨a1, a2, a3⟩ := h
    have n1 : Num w v (val xs) := ⟨xs, h1, a1, rfl⟩
    have n2 : Num w u (val ys) := ⟨ys, h2, a2, rfl⟩
    have r1 := n1.range.1
    have r2 := n2.range.1
    obtain ⟨k1, k2, k3⟩ := frac_raw a3
    refine .inl ⟨frac neg (val xs).toNat (val ys).toNat, v, u, by rw [k3], ?_, ?_⟩
    · rw [k1, show (((val xs).toNat : Nat) : Int) = val xs by omega]; exact n1
    · rw [k2, show (((val ys).toNat : Nat) : Int) = val ys by omega]; exact n2
  · exact .inr ⟨neg, v, u, xs, ys, rfl, h1, h2, by simpa using h⟩

end Go.Proofs.YtkafkcmhekgheaaGreatDoor.Q

namespace Go.Proofs.YtkafkcmhekgheaaGreatDoor.Q
open Go.RowKit NM

/-- What sum keeps: its two arguments, its result's block. -/
structure SumAt (w W : World) (na nb : Bool) (n1 d1 n2 d2 : Value) (N1 D1 N2 D2 : Nat) : Prop where
  bl : Below w.heap.size w W
  a : BlockAt W w.heap.size #[.bool na, n1, d1] 49
  b : BlockAt W (w.heap.size + 1) #[.bool nb, n2, d2] 49
  r : BlockAt W (w.heap.size + 2) #[.bool false, .slice none 0 0, .slice none 0 0] 49
  n1 : Num W n1 N1
  d1 : Num W d1 D1
  n2 : Num W n2 N2
  d2 : Num W d2 D2
theorem SumAt.later {w W W2 : World} {na nb : Bool} {n1 d1 n2 d2 : Value} {N1 D1 N2 D2 : Nat} (h : SumAt w W na nb n1 d1 n2 d2 N1 D1 N2 D2) (hb : Below W.heap.size W W2) : SumAt w W2 na nb n1 d1 n2 d2 N1 D1 N2 D2 :=
  ⟨h.bl.trans (hb.mono h.bl.size), h.a.below hb, h.b.below hb, h.r.below hb, h.n1.below hb, h.d1.below hb, h.n2.below hb, h.d2.below hb⟩
theorem SumAt.start (w : World) (na nb : Bool) (n1 d1 n2 d2 : Value) (N1 D1 N2 D2 : Nat) (h1 : Num w n1 N1) (h2 : Num w d1 D1) (h3 : Num w n2 N2) (h4 : Num w d2 D2) :
    SumAt w (((w.alloc (.cells #[.bool na, n1, d1] 49)).alloc (.cells #[.bool nb, n2, d2] 49)).alloc (.cells #[.bool false, .slice none 0 0, .slice none 0 0] 49)) na nb n1 d1 n2 d2 N1 D1 N2 D2 := by
  have s1 := BlockAt.new w #[.bool na, n1, d1] 49
  have b1 : Below w.heap.size w (w.alloc (.cells #[.bool na, n1, d1] 49)) := (Below.refl _ _).alloc (Nat.le_refl _) _
  have e1 : (w.alloc (.cells #[.bool na, n1, d1] 49)).heap.size = w.heap.size + 1 := by simp
  generalize w.alloc (.cells #[.bool na, n1, d1] 49) = w1 at *
  have s2 := BlockAt.new w1 #[.bool nb, n2, d2] 49
  have b2 : Below w1.heap.size w1 (w1.alloc (.cells #[.bool nb, n2, d2] 49)) := (Below.refl _ _).alloc (Nat.le_refl _) _
  have e2 : (w1.alloc (.cells #[.bool nb, n2, d2] 49)).heap.size = w.heap.size + 2 := by simp [e1]
  rw [e1] at s2
  generalize w1.alloc (.cells #[.bool nb, n2, d2] 49) = w2 at *
  have s3 := BlockAt.new w2 #[.bool false, .slice none 0 0, .slice none 0 0] 49
  have b3 : Below w2.heap.size w2 (w2.alloc (.cells #[.bool false, .slice none 0 0, .slice none 0 0] 49)) := (Below.refl _ _).alloc (Nat.le_refl _) _
  rw [e2] at s3
  have c := b2.trans (b3.mono b2.size)
  have d := b1.trans (c.mono b1.size)
  exact ⟨d, s1.below c, s2.below b3, s3, h1.below d, h2.below d, h3.below d, h4.below d⟩
theorem SumAt.cells {w W : World} {na nb : Bool} {n1 d1 n2 d2 : Value} {N1 D1 N2 D2 : Nat} (h : SumAt w W na nb n1 d1 n2 d2 N1 D1 N2 D2) :
    W.cell? ⟨w.heap.size, 0, none⟩ = some (.bool na) ∧ W.cell? ⟨w.heap.size, 1, none⟩ = some n1 ∧ W.cell? ⟨w.heap.size, 2, none⟩ = some d1 ∧
    W.cell? ⟨w.heap.size + 1, 0, none⟩ = some (.bool nb) ∧ W.cell? ⟨w.heap.size + 1, 1, none⟩ = some n2 ∧ W.cell? ⟨w.heap.size + 1, 2, none⟩ = some d2 :=
  ⟨h.a.cell 0, h.a.cell 1, h.a.cell 2, h.b.cell 0, h.b.cell 1, h.b.cell 2⟩

theorem RawN.form {w : World} {v : Value} {neg : Bool} {N D : Nat} (h : RawN w v neg N D) : ∃ s o1 n1 c1 o2 n2 c2, v = .agg #[.bool s, .slice o1 n1 c1, .slice o2 n2 c2] := by
  obtain ⟨n, d, rfl, h1, h2⟩ := h
  obtain ⟨o1, n1, c1, rfl, -⟩ := h1.len
  obtain ⟨o2, n2, c2, rfl, -⟩ := h2.len
  exact ⟨_, _, _, _, _, _, _, rfl⟩
/-- Something in the sum is too great. -/
def OverS (N1 D1 N2 D2 : Nat) : Prop := pw 16 ≤ ((N1 * D2 : Nat) : Int) ∨ pw 16 ≤ ((N2 * D1 : Nat) : Int) ∨ pw 16 ≤ ((D1 * D2 : Nat) : Int) ∨ pw 16 ≤ ((N1 * D2 + N2 * D1 : Nat) : Int)

end Go.Proofs.YtkafkcmhekgheaaGreatDoor.Q

namespace Go.Proofs.YtkafkcmhekgheaaGreatDoor.Q
open Go.RowKit NM

theorem Told.good {N : Int} {e : Ending} {w : World} (h : Told N e w) (hN : N < pw 16) : ∃ v, e = .returned (.tuple #[v, .int .i64 0]) ∧ Num w v N := by
  rcases h with ⟨_, h⟩ | ⟨h, _⟩
  · exact h
  · omega
theorem Told.great {N : Int} {e : Ending} {w : World} (h : Told N e w) (hN : pw 16 ≤ N) : e = .returned (.tuple #[.slice none 0 0, .int .i64 2]) := by
  rcases h with ⟨h, _⟩ | ⟨_, h⟩
  · omega
  · exact h
structure ProdAt (w W : World) (s : Bool) (n1 d1 n2 d2 : Value) (N1 D1 N2 D2 : Nat) : Prop where
  bl : Below w.heap.size w W
  a : BlockAt W w.heap.size #[.bool s, n1, d1] 49
  r : BlockAt W (w.heap.size + 1) #[.bool false, .slice none 0 0, .slice none 0 0] 49
  n1 : Num W n1 N1
  d1 : Num W d1 D1
  n2 : Num W n2 N2
  d2 : Num W d2 D2
theorem ProdAt.later {w W W2 : World} {s : Bool} {n1 d1 n2 d2 : Value} {N1 D1 N2 D2 : Nat} (h : ProdAt w W s n1 d1 n2 d2 N1 D1 N2 D2) (hb : Below W.heap.size W W2) : ProdAt w W2 s n1 d1 n2 d2 N1 D1 N2 D2 :=
  ⟨h.bl.trans (hb.mono h.bl.size), h.a.below hb, h.r.below hb, h.n1.below hb, h.d1.below hb, h.n2.below hb, h.d2.below hb⟩
theorem ProdAt.start (w : World) (s : Bool) (n1 d1 n2 d2 : Value) (N1 D1 N2 D2 : Nat) (h1 : Num w n1 N1) (h2 : Num w d1 D1) (h3 : Num w n2 N2) (h4 : Num w d2 D2) :
    ProdAt w ((w.alloc (.cells #[.bool s, n1, d1] 49)).alloc (.cells #[.bool false, .slice none 0 0, .slice none 0 0] 49)) s n1 d1 n2 d2 N1 D1 N2 D2 := by
  have s1 := BlockAt.new w #[.bool s, n1, d1] 49
  have b1 : Below w.heap.size w (w.alloc (.cells #[.bool s, n1, d1] 49)) := (Below.refl _ _).alloc (Nat.le_refl _) _
  have e1 : (w.alloc (.cells #[.bool s, n1, d1] 49)).heap.size = w.heap.size + 1 := by simp
  generalize w.alloc (.cells #[.bool s, n1, d1] 49) = w1 at *
  have s3 := BlockAt.new w1 #[.bool false, .slice none 0 0, .slice none 0 0] 49
  have b3 : Below w1.heap.size w1 (w1.alloc (.cells #[.bool false, .slice none 0 0, .slice none 0 0] 49)) := (Below.refl _ _).alloc (Nat.le_refl _) _
  rw [e1] at s3
  have d := b1.trans (b3.mono b1.size)
  exact ⟨d, s1.below b3, s3, h1.below d, h2.below d, h3.below d, h4.below d⟩
theorem ProdAt.cells {w W : World} {s : Bool} {n1 d1 n2 d2 : Value} {N1 D1 N2 D2 : Nat} (h : ProdAt w W s n1 d1 n2 d2 N1 D1 N2 D2) :
    W.cell? ⟨w.heap.size, 0, none⟩ = some (.bool s) ∧ W.cell? ⟨w.heap.size, 1, none⟩ = some n1 ∧ W.cell? ⟨w.heap.size, 2, none⟩ = some d1 :=
  ⟨h.a.cell 0, h.a.cell 1, h.a.cell 2⟩

/-- Something in the product is too great. -/
def OverP (N1 D1 N2 D2 : Nat) : Prop := pw 16 ≤ ((N1 * N2 : Nat) : Int) ∨ pw 16 ≤ ((D1 * D2 : Nat) : Int)

end Go.Proofs.YtkafkcmhekgheaaGreatDoor.Q

namespace Go.Proofs.YtkafkcmhekgheaaGreatDoor.Q
open Go.RowKit NM

theorem block3 {w : World} {b : Nat} {x y z : Value} {t : TypeId} (h : BlockAt w b #[x, y, z] t) : w.cell? ⟨b, 0, none⟩ = some x ∧ w.cell? ⟨b, 1, none⟩ = some y ∧ w.cell? ⟨b, 2, none⟩ = some z :=
  ⟨h.cell 0, h.cell 1, h.cell 2⟩

end Go.Proofs.YtkafkcmhekgheaaGreatDoor.Q

namespace Go.Proofs.YtkafkcmhekgheaaGreatDoor.Q
open Go.RowKit NM

/-- What the deferred closure lays where something was too great. -/
def Caught (B : Nat) (w : World) (bp bq : Nat) (w' : World) : Prop :=
  BlockAt w' bp #[.bool false, .slice none 0 0, .slice none 0 0] 49 ∧ BlockAt w' bq #[.int .i64 2] 22 ∧ Below B w w'

/-- What reckon tells. -/
def RkPost (over : Prop) (x : Rat) (e : Ending) (w' : World) : Prop :=
  (¬ over ∧ ∃ r, e = .returned (.tuple #[r, .int .i64 0]) ∧ RatN w' r x) ∨ (over ∧ e = .returned (.tuple #[.agg #[.bool false, .slice none 0 0, .slice none 0 0], .int .i64 2]))

theorem reckon_num {w : World} {v : Value} {neg a : Bool} {N D bp : Nat} {o1 o2 : Option Addr} {n1 n2 c1 c2 : Nat} {x : Int} (h : RawN w v neg N D) (hp : BlockAt w bp #[.bool false, .slice none 0 0, .slice none 0 0] 49) (hq : BlockAt w (bp + 1) #[.int .i64 0] 22) :
    RawN ((((w.setCell ⟨bp, 0, none⟩ (.bool a)).setCell ⟨bp, 1, none⟩ (.slice o1 n1 c1)).setCell ⟨bp, 2, none⟩ (.slice o2 n2 c2)).setCell ⟨bp + 1, 0, none⟩ (.int .i64 x)) v neg N D := by
  have h1 := RawN.set3 (a := a) (o1 := o1) (n1 := n1) (c1 := c1) (o2 := o2) (n2 := n2) (c2 := c2) h hp
  have q1 := ((hq.other (show bp + 1 ≠ bp by omega) 0 (.bool a)).other (show bp + 1 ≠ bp by omega) 1 (.slice o1 n1 c1)).other (show bp + 1 ≠ bp by omega) 2 (.slice o2 n2 c2)
  refine h1.set_other q1 (fun k y hk => ?_) 0 _
  match k with
  | 0 => simp at hk
  | k + 1 => simp at hk

end Go.Proofs.YtkafkcmhekgheaaGreatDoor.Q

namespace Go.Proofs.YtkafkcmhekgheaaGreatDoor.Q
open Go.RowKit NM

def nilRat : Value := .agg #[.bool false, .slice none 0 0, .slice none 0 0]
theorem SumAt.ra {w W : World} {na nb : Bool} {n1 d1 n2 d2 : Value} {N1 D1 N2 D2 : Nat} (h : SumAt w W na nb n1 d1 n2 d2 N1 D1 N2 D2) : RawN W (.agg #[.bool na, n1, d1]) na N1 D1 := ⟨n1, d1, rfl, h.n1, h.d1⟩
theorem SumAt.rb {w W : World} {na nb : Bool} {n1 d1 n2 d2 : Value} {N1 D1 N2 D2 : Nat} (h : SumAt w W na nb n1 d1 n2 d2 N1 D1 N2 D2) : RawN W (.agg #[.bool nb, n2, d2]) nb N2 D2 := ⟨n2, d2, rfl, h.n2, h.d2⟩
def OverA (x y : Rat) : Prop := OverS x.num.natAbs x.den y.num.natAbs y.den
def OverM (x y : Rat) : Prop := OverP x.num.natAbs x.den y.num.natAbs y.den
def OverQ (x y : Rat) : Prop := OverP x.num.natAbs x.den y.den y.num.natAbs
theorem den_pos (x : Rat) : 0 < x.den := Nat.pos_of_ne_zero x.den_nz

theorem SumAt.flip {w W : World} {na nb : Bool} {n1 d1 : Value} {o2 o3 : Option Addr} {m2 m3 k2 k3 : Nat} {N1 D1 N2 D2 : Nat} (h : SumAt w W na nb n1 d1 (.slice o2 m2 k2) (.slice o3 m3 k3) N1 D1 N2 D2) (c : Bool) : SumAt w (W.setCell ⟨w.heap.size + 1, 0, none⟩ (.bool c)) na c n1 d1 (.slice o2 m2 k2) (.slice o3 m3 k3) N1 D1 N2 D2 := by
  have hl : NoLimb #[.bool nb, .slice o2 m2 k2, .slice o3 m3 k3] := noLimb3 (fun _ h => by cases h) (fun _ h => by cases h)
  exact ⟨h.bl.setCell (by simp) _, h.a.other (by omega) _ _, h.b.set 0 _, h.r.other (by omega) _ _, h.n1.set_other h.b hl _ _, h.d1.set_other h.b hl _ _, h.n2.set_other h.b hl _ _, h.d2.set_other h.b hl _ _⟩
/-- Some sign and some two slices. -/
def FormR (v : Value) : Prop := ∃ s n d, v = .agg #[.bool s, n, d]
theorem three_start (w : World) (A B C : Array Value) (t : TypeId) :
    Below w.heap.size w (((w.alloc (.cells A t)).alloc (.cells B t)).alloc (.cells C t)) ∧ BlockAt (((w.alloc (.cells A t)).alloc (.cells B t)).alloc (.cells C t)) w.heap.size A t ∧ BlockAt (((w.alloc (.cells A t)).alloc (.cells B t)).alloc (.cells C t)) (w.heap.size + 1) B t ∧ BlockAt (((w.alloc (.cells A t)).alloc (.cells B t)).alloc (.cells C t)) (w.heap.size + 2) C t := by
  have s1 := BlockAt.new w A t
  have b1 : Below w.heap.size w (w.alloc (.cells A t)) := (Below.refl _ _).alloc (Nat.le_refl _) _
  have e1 : (w.alloc (.cells A t)).heap.size = w.heap.size + 1 := by simp
  generalize w.alloc (.cells A t) = w1 at *
  have s2 := BlockAt.new w1 B t
  have b2 : Below w1.heap.size w1 (w1.alloc (.cells B t)) := (Below.refl _ _).alloc (Nat.le_refl _) _
  have e2 : (w1.alloc (.cells B t)).heap.size = w.heap.size + 2 := by simp [e1]
  rw [e1] at s2
  generalize w1.alloc (.cells B t) = w2 at *
  have s3 := BlockAt.new w2 C t
  have b3 : Below w2.heap.size w2 (w2.alloc (.cells C t)) := (Below.refl _ _).alloc (Nat.le_refl _) _
  rw [e2] at s3
  have c := b2.trans (b3.mono b2.size)
  exact ⟨b1.trans (c.mono b1.size), s1.below c, s2.below b3, s3⟩
theorem BadR.form {w : World} {v : Value} (h : BadR w v) : FormR v := by
  obtain ⟨s, n, d, _, _, h, _⟩ := h
  exact ⟨s, n, d, h⟩
theorem RatN.form {w : World} {v : Value} {x : Rat} (h : RatN w v x) : FormR v := by
  obtain ⟨n, d, h, _⟩ := h
  exact ⟨_, n, d, h⟩

end Go.Proofs.YtkafkcmhekgheaaGreatDoor.Q

namespace Go.Proofs.YtkafkcmhekgheaaGreatDoor.Q
open Go.RowKit NM

def ratSgn (x y : Rat) : Int := if x < y then -1 else if y < x then 1 else 0
def OverC (x y : Rat) : Prop := pw 16 ≤ ((x.num.natAbs * y.den : Nat) : Int) ∨ pw 16 ≤ ((y.num.natAbs * x.den : Nat) : Int)
def CmpPost (over : Prop) (n : Int) (e : Ending) : Prop := (¬ over ∧ e = .returned (.tuple #[.int .i64 n, .int .i64 0])) ∨ (over ∧ e = .returned (.tuple #[.int .i64 0, .int .i64 2]))
theorem ratSgn_num (x y : Rat) : ratSgn x y = sgn (x.num * y.den) (y.num * x.den) := by
  unfold ratSgn sgn
  simp only [Rat.lt_iff]
theorem num_sg (x : Rat) : x.num = sg (decide (x.num < 0)) x.num.natAbs := by
  unfold sg
  by_cases h : x.num < 0
  · rw [decide_eq_true h, if_pos rfl]; omega
  · rw [decide_eq_false h, if_neg (by simp)]; omega
/-- A sign and two products decide. -/
def signCmp (na nb : Bool) (A B : Nat) : Int := if na then (if nb then sgn (B : Int) (A : Int) else -1) else (if nb then 1 else sgn (A : Int) (B : Int))
theorem sgn_signs (na nb : Bool) (A B : Nat) (ha : na = true → 0 < A) (hb : nb = true → 0 < B) :
    sgn (sg na A) (sg nb B) = signCmp na nb A B := by
  cases na <;> cases nb <;> simp [sg, sgn, signCmp] at ha hb ⊢
  · omega
  · omega
theorem sg_mul (neg : Bool) (N D : Nat) : sg neg N * (D : Int) = sg neg (N * D) := by
  cases neg
  · simp [sg]
  · simp [sg, Int.neg_mul]

theorem two_start (w : World) (A B : Array Value) (t : TypeId) :
    Below w.heap.size w ((w.alloc (.cells A t)).alloc (.cells B t)) ∧ BlockAt ((w.alloc (.cells A t)).alloc (.cells B t)) w.heap.size A t ∧ BlockAt ((w.alloc (.cells A t)).alloc (.cells B t)) (w.heap.size + 1) B t := by
  have s1 := BlockAt.new w A t
  have b1 : Below w.heap.size w (w.alloc (.cells A t)) := (Below.refl _ _).alloc (Nat.le_refl _) _
  have e1 : (w.alloc (.cells A t)).heap.size = w.heap.size + 1 := by simp
  generalize w.alloc (.cells A t) = w1 at *
  have s2 := BlockAt.new w1 B t
  have b2 : Below w1.heap.size w1 (w1.alloc (.cells B t)) := (Below.refl _ _).alloc (Nat.le_refl _) _
  rw [e1] at s2
  exact ⟨b1.trans (b2.mono b1.size), s1.below b2, s2⟩

end Go.Proofs.YtkafkcmhekgheaaGreatDoor.Q

namespace Go.Proofs.YtkafkcmhekgheaaGreatDoor.Q
open Go.RowKit NM

theorem IsRow.sl {w : World} {a : Option Addr} {len cap : Nat} {zs : List Int} (h : IsRow .u32 w a len cap zs) (k : Nat) (hk : k ≤ len) (h18 : k ≤ 18) : Sl w (.slice a k cap) (zs.take k) := by
  rcases h with ⟨rfl, rfl, rfl, rfl⟩ | ⟨x, rfl, hl, hm, hz, hc, hwf⟩
  · obtain rfl : k = 0 := by omega
    exact ⟨none, 0, rfl, Nat.le_refl _, .inl rfl, U32s_nil, by simp, fun _ => rfl⟩
  · have hu : U32s zs := fun n hn => u32_of_wf (hwf n hn)
    have hlen : (zs.take k).length = k := by simp; omega
    refine ⟨some x, cap, by rw [hlen], by omega, ?_, U32s_take hu k, by omega, fun h => by cases h⟩
    by_cases h0 : zs.take k = []
    · exact .inl h0
    · have hk0 : 0 < k := by
        rcases Nat.eq_zero_or_pos k with h | h
        · subst h; simp at h0
        · exact h
      obtain ⟨b, off, spot⟩ := x
      have h1 := hc 0 (by omega)
      have hspot : spot = none := by simpa [Addr.add] using World.cell?_spot h1
      subst hspot
      refine .inr ⟨b, off, rfl, ?_, fun i hi => ?_⟩
      · by_cases hb : b < w.heap.size
        · exact hb
        · simp only [Addr.add] at h1
          rw [World.cell?, Array.getElem?_eq_none (by simp; omega)] at h1
          cases h1
      · rw [hlen] at hi
        have h2 := hc i (by omega)
        rw [lb_take hi, lb]
        by_cases hi0 : i = 0
        · subst hi0; simpa [Addr.add] using h2
        · simpa [Addr.add, hi0] using h2
theorem addr_lt {w : World} {p : Addr} {v : Value} (h : w.cell? p = some v) : p.block < w.heap.size := by
  by_cases hb : p.block < w.heap.size
  · exact hb
  · have hn : w.heap[p.block]? = none := Array.getElem?_eq_none (by omega)
    simp [World.cell?, hn] at h
theorem IsRow.later {w w' : World} {a : Option Addr} {len cap : Nat} {zs : List Int} (h : IsRow .u32 w a len cap zs) (hb : Below w.heap.size w w') : IsRow .u32 w' a len cap zs := by
  rcases h with h | ⟨x, h1, hl, hm, hz, hc, hwf⟩
  · exact .inl h
  · refine .inr ⟨x, h1, hl, hm, hz, fun i hi => ?_, hwf⟩
    have h2 := hc i hi
    rw [hb.cell (p := x.add i) (addr_lt h2)]
    exact h2
theorem IsRow.caps {w : World} {a : Option Addr} {len cap : Nat} {zs : List Int} (h : IsRow .u32 w a len cap zs) : len ≤ cap ∧ cap ≤ 9223372036854775807 := by
  rcases h with ⟨rfl, rfl, rfl, rfl⟩ | ⟨x, rfl, hl, hm, hz, hc, hwf⟩
  · omega
  · unfold maxLen at hm; omega

theorem Sl.set3 {w : World} {v : Value} {xs : List Int} {a : Bool} {b : Nat} {t : TypeId} {o1 o2 : Option Addr} {n1 n2 c1 c2 : Nat} (h : Sl w v xs) (hb : BlockAt w b #[.bool false, .slice none 0 0, .slice none 0 0] t) :
    Sl (((w.setCell ⟨b, 0, none⟩ (.bool a)).setCell ⟨b, 1, none⟩ (.slice o1 n1 c1)).setCell ⟨b, 2, none⟩ (.slice o2 n2 c2)) v xs := by
  obtain ⟨ao, ca, h1, h2, h3, h4⟩ := h
  have s1 := hb.set 0 (.bool a)
  have s2 := s1.set 1 (.slice o1 n1 c1)
  exact ⟨ao, ca, h1, h2, ((h3.set_other hb (noLimb3 (fun _ h => by cases h) (fun _ h => by cases h)) _ _).set_other s1 (noLimb3 (fun _ h => by cases h) (fun _ h => by cases h)) _ _).set_other s2 (noLimb3 (fun _ h => by cases h) (fun _ h => by cases h)) _ _, h4⟩

/-- Two structs' signs and slices. -/
def SlR (w : World) (v : Value) (s : Bool) (xs ys : List Int) : Prop := ∃ n d, v = .agg #[.bool s, n, d] ∧ Sl w n xs ∧ Sl w d ys

theorem Num.slr {w : World} {v : Value} {N : Int} (h : Num w v N) : ∃ xs, Sl w v xs ∧ rightB xs = true ∧ val xs = N := h
theorem RatN.slr {w : World} {v : Value} {x : Rat} (h : RatN w v x) : ∃ xs ys, SlR w v (decide (x.num < 0)) xs ys ∧ rightB xs = true ∧ val xs = x.num.natAbs ∧ rightB ys = true ∧ val ys = x.den := by
  obtain ⟨n, d, rfl, ⟨xs, a1, a2, a3⟩, ⟨ys, b1, b2, b3⟩⟩ := h
  exact ⟨xs, ys, ⟨n, d, rfl, a1, b1⟩, a2, a3, b2, b3⟩
set_option maxHeartbeats 1600000 in
set_option maxRecDepth 100000 in
theorem make_num (neg : Bool) (v u : Value) (N D : Nat) (w : World) (h1 : Num w v N) (h2 : Num w u D) (hD : 0 < D) :
    Calls Tryz.prog 55 #[.bool neg, v, u] w fun e w' => (∃ r, e = .returned (.tuple #[r, .int .i64 0]) ∧ RatN w' r (frac neg N D)) ∧ Below w.heap.size w w' := by
  have B : Below w.heap.size w (w.alloc (.cells #[.bool false, .slice none 0 0, .slice none 0 0] 49)) := (Below.refl _ _).alloc (Nat.le_refl _) _
  have hr := BlockAt.new w #[.bool false, .slice none 0 0, .slice none 0 0] 49
  have R1 := Lib.hid (right_num (h1.below B))
  have R2 := Lib.hid (right_num (h2.below B))
  have HR := Lib.hid (reduced_num neg v u N D _ (h1.below B) (h2.below B) hD)
  obtain ⟨uo, un, uc, rfl, -, un0, -, -⟩ := h2.len
  have hun : ((un : Int) == 0) = false := by
    rw [beq_eq_false_iff_ne]; intro h; have := un0.1 (by omega); omega
  clear h1 h2 un0 hD
  go_enter Tryz.func55, Tryz.ntmps55
  go_wp2_with fail
  generalize w.alloc (.cells #[.bool false, .slice none 0 0, .slice none 0 0] 49) = W at *
  refine R1.out.mono ?_
  rintro e w' ⟨rfl, rfl⟩
  go_wp2_with fail
  refine R2.out.mono ?_
  rintro e w' ⟨rfl, rfl⟩
  go_wp2_with fail
  refine HR.out.mono ?_
  rintro e W2 ⟨⟨r, rfl, hrat⟩, bq⟩
  have hr := hr.below bq
  have B := B.trans (bq.mono B.size)
  obtain ⟨s_, o1, m1, k1, o2, m2, k2, rfl⟩ := RawN.form hrat
  have Hr := Lib.hid hrat
  clear HR R1 R2 bq hrat
  have f0 := hr.free 0
  have f1 := hr.free 1
  have f2 := hr.free 2
  have g0 := hr.cell 0
  have g1 := hr.cell 1
  have g2 := hr.cell 2
  simp at g0 g1 g2
  go_wp2_with fail
  refine bodyPost_ret (v := .tuple #[.agg #[.bool s_, .slice o1 m1 k1, .slice o2 m2 k2], .int .i64 0]) (by simp [results, Tryz.results55, go_sem, g0, g1, g2]) rfl ⟨⟨_, rfl, RawN.set3 Hr.out hr⟩, ?_⟩
  exact ((B.setCell (by simp) _).setCell (by simp) _).setCell (by simp) _

/-- The text of a number. -/
def ratStr (x : Rat) : ByteArray :=
  let s := if decide (x.num < 0) then (⟨#[45]⟩ : ByteArray) ++ numStr x.num.natAbs else numStr x.num.natAbs
  if x.den = 1 then s else s ++ ((⟨#[47]⟩ : ByteArray) ++ numStr x.den)

end Go.Proofs.YtkafkcmhekgheaaGreatDoor.Q

namespace Go.Proofs.YtkafkcmhekgheaaGreatDoor.Q
open Go.RowKit NM

/-- Without what is behind the point. -/
def ratTrunc (x : Rat) : Rat := frac (decide (x.num < 0)) (x.num.natAbs / x.den) 1
theorem Bad1.below {w w' : World} {v : Value} (h : Bad1 w v) (hb : Below w.heap.size w w') : Bad1 w' v := by
  obtain ⟨xs, h1, h2⟩ := h
  exact ⟨xs, h1.below hb, h2⟩
set_option maxHeartbeats 1600000 in
set_option maxRecDepth 100000 in
theorem make_bad (neg : Bool) (v u : Value) (w : World) (h : Bad1 w v ∨ (∃ N, Num w v N) ∧ Bad1 w u) :
    Calls Tryz.prog 55 #[.bool neg, v, u] w fun e w' => e = .returned (.tuple #[nilRat, .int .i64 1]) ∧ Below w.heap.size w w' := by
  have B : Below w.heap.size w (w.alloc (.cells #[.bool false, .slice none 0 0, .slice none 0 0] 49)) := (Below.refl _ _).alloc (Nat.le_refl _) _
  have hr := BlockAt.new w #[.bool false, .slice none 0 0, .slice none 0 0] 49
  unfold nilRat
  rcases h with h | ⟨⟨N, h⟩, h'⟩
  · have R1 := Lib.hid (right_bad (h.below B))
    clear h
    go_enter Tryz.func55, Tryz.ntmps55
    go_wp2_with fail
    generalize w.alloc (.cells #[.bool false, .slice none 0 0, .slice none 0 0] 49) = W at *
    refine R1.out.mono ?_
    rintro e w' ⟨rfl, rfl⟩
    clear R1
    have f0 := hr.free 0
    have f1 := hr.free 1
    have f2 := hr.free 2
    have g0 := hr.cell 0
    have g1 := hr.cell 1
    have g2 := hr.cell 2
    simp at g0 g1 g2
    go_wp2_with fail
    refine bodyPost_ret (v := .tuple #[.agg #[.bool false, .slice none 0 0, .slice none 0 0], .int .i64 1]) (by simp [results, Tryz.results55, go_sem, g0, g1, g2]) rfl ⟨rfl, ?_⟩
    exact ((B.setCell (by simp) _).setCell (by simp) _).setCell (by simp) _
  · have R1 := Lib.hid (right_num (h.below B))
    have R2 := Lib.hid (right_bad (h'.below B))
    clear h h'
    go_enter Tryz.func55, Tryz.ntmps55
    go_wp2_with fail
    generalize w.alloc (.cells #[.bool false, .slice none 0 0, .slice none 0 0] 49) = W at *
    refine R1.out.mono ?_
    rintro e w' ⟨rfl, rfl⟩
    go_wp2_with fail
    refine R2.out.mono ?_
    rintro e w' ⟨rfl, rfl⟩
    clear R1 R2
    have f0 := hr.free 0
    have f1 := hr.free 1
    have f2 := hr.free 2
    have g0 := hr.cell 0
    have g1 := hr.cell 1
    have g2 := hr.cell 2
    simp at g0 g1 g2
    go_wp2_with fail
    refine bodyPost_ret (v := .tuple #[.agg #[.bool false, .slice none 0 0, .slice none 0 0], .int .i64 1]) (by simp [results, Tryz.results55, go_sem, g0, g1, g2]) rfl ⟨rfl, ?_⟩
    exact ((B.setCell (by simp) _).setCell (by simp) _).setCell (by simp) _
set_option maxHeartbeats 1600000 in
set_option maxRecDepth 100000 in
theorem make_zero (neg : Bool) (v u : Value) (N : Nat) (w : World) (h1 : Num w v N) (h2 : Num w u 0) :
    Calls Tryz.prog 55 #[.bool neg, v, u] w fun e w' => e = .returned (.tuple #[nilRat, .int .i64 4]) ∧ Below w.heap.size w w' := by
  have B : Below w.heap.size w (w.alloc (.cells #[.bool false, .slice none 0 0, .slice none 0 0] 49)) := (Below.refl _ _).alloc (Nat.le_refl _) _
  have hr := BlockAt.new w #[.bool false, .slice none 0 0, .slice none 0 0] 49
  unfold nilRat
  have R1 := Lib.hid (right_num (h1.below B))
  have R2 := Lib.hid (right_num (h2.below B))
  obtain ⟨uo, uc, rfl⟩ := Num.of_zero h2
  clear h1 h2
  go_enter Tryz.func55, Tryz.ntmps55
  go_wp2_with fail
  generalize w.alloc (.cells #[.bool false, .slice none 0 0, .slice none 0 0] 49) = W at *
  refine R1.out.mono ?_
  rintro e w' ⟨rfl, rfl⟩
  go_wp2_with fail
  refine R2.out.mono ?_
  rintro e w' ⟨rfl, rfl⟩
  clear R1 R2
  have f0 := hr.free 0
  have f1 := hr.free 1
  have f2 := hr.free 2
  have g0 := hr.cell 0
  have g1 := hr.cell 1
  have g2 := hr.cell 2
  simp at g0 g1 g2
  go_wp2_with fail
  refine bodyPost_ret (v := .tuple #[.agg #[.bool false, .slice none 0 0, .slice none 0 0], .int .i64 4]) (by simp [results, Tryz.results55, go_sem, g0, g1, g2]) rfl ⟨rfl, ?_⟩
  exact ((B.setCell (by simp) _).setCell (by simp) _).setCell (by simp) _
end Go.Proofs.YtkafkcmhekgheaaGreatDoor.Q

