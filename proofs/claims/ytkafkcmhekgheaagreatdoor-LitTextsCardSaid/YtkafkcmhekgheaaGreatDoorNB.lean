/- The numbers of nat and of its reference, for this seat: XNatKnuth, XNatGuess, XNatRows, XNatGive, XNatLongMath, XNatShelf, XNatLong, XNatDiv. -/
import Derived.Test.YtkafkcmhekgheaaGreatDoorNA
import Derived.OneCell
import Derived.Lib.ItoaNum
import Derived.Shelf.Small.Bits
import Derived.Laws.AppendOwn
import Derived.Laws.AppendOwnNone
/-
  The guess of a quotient's limb: plain mathematics.
-/
namespace NM

theorem le_of_mul {p x y : Int} (hp : 0 < p) (h : p * x < p * y) : x < y := Int.lt_of_mul_lt_mul_left h (by omega)

/-- No quotient is greater than the first guess. -/
theorem knuth_a {p lu lv u2 top v1 v2 q : Int} (hp : 0 < p) (lu1 : lu < p) (lv0 : 0 ≤ lv) (u21 : u2 < 4294967296) (v20 : 0 ≤ v2) (q0 : 0 ≤ q)
    (h : q * (lv + p * (v2 + 4294967296 * v1)) ≤ lu + p * (u2 + 4294967296 * top)) : q * v1 ≤ top := by
  have h1 : q * (lv + p * (v2 + 4294967296 * v1)) = q * lv + p * (q * v2) + p * (4294967296 * (q * v1)) := by
    rw [Int.mul_add, Int.mul_add, Int.mul_add, ← Int.add_assoc]
    congr 1
    · congr 1; ac_rfl
    · ac_rfl
  have h2 : 0 ≤ q * lv := Int.mul_nonneg q0 lv0
  have h3 : 0 ≤ p * (q * v2) := Int.mul_nonneg (by omega) (Int.mul_nonneg q0 v20)
  have h4 : p * (u2 + 4294967296 * top) + p * 1 ≤ p * (4294967296 * (top + 1)) := by
    rw [← Int.mul_add]
    exact Int.mul_le_mul_of_nonneg_left (by omega) (by omega)
  have h5 := le_of_mul hp (show p * (4294967296 * (q * v1)) < p * (4294967296 * (top + 1)) by omega)
  omega
/-- Where the program goes one down, the guess was too great. -/
theorem knuth_b {p lu lv u2 top v1 v2 g left : Int} (hp : 0 < p) (lu1 : lu < p) (lv0 : 0 ≤ lv) (g0 : 0 ≤ g)
    (ht : g * v1 + left = top) (h : left * 4294967296 + u2 < g * v2) : lu + p * (u2 + 4294967296 * top) < g * (lv + p * (v2 + 4294967296 * v1)) := by
  have h1 : g * (lv + p * (v2 + 4294967296 * v1)) = g * lv + p * (g * v2 + 4294967296 * (g * v1)) := by
    rw [Int.mul_add, ← Int.mul_assoc g p, Int.mul_comm g p, Int.mul_assoc p, Int.mul_add g, ← Int.mul_assoc g, Int.mul_comm g 4294967296, Int.mul_assoc 4294967296]
  have h2 : 0 ≤ g * lv := Int.mul_nonneg g0 lv0
  have h3 : p * (u2 + 4294967296 * top) + p * 1 ≤ p * (g * v2 + 4294967296 * (g * v1)) := by
    rw [← Int.mul_add]
    exact Int.mul_le_mul_of_nonneg_left (by omega) (by omega)
  omega
/-- Where it stops, the guess is at most 1 too great. -/
theorem knuth_c {p lu lv u2 top v1 v2 g left : Int} (hp : 0 < p) (lu0 : 0 ≤ lu) (lv1 : lv < p) (g1 : 1 ≤ g) (g2 : g < 4294967296) (v20 : 0 ≤ v2) (v10 : 2147483648 ≤ v1)
    (ht : g * v1 + left = top) (h : g * v2 ≤ left * 4294967296 + u2) : (g - 1) * (lv + p * (v2 + 4294967296 * v1)) ≤ lu + p * (u2 + 4294967296 * top) := by
  have h1 : (g - 1) * (lv + p * (v2 + 4294967296 * v1)) ≤ (g - 1) * (p * (v2 + 4294967296 * v1 + 1)) := by
    refine Int.mul_le_mul_of_nonneg_left ?_ (by omega)
    rw [Int.mul_add p _ 1]
    omega
  have h2 : (g - 1) * (p * (v2 + 4294967296 * v1 + 1)) = p * ((g - 1) * (v2 + 4294967296 * v1 + 1)) := by ac_rfl
  have h3 : (g - 1) * (v2 + 4294967296 * v1 + 1) = g * v2 + 4294967296 * (g * v1) + g - (v2 + 4294967296 * v1) - 1 := by
    rw [Int.sub_mul, Int.mul_add, Int.mul_add, ← Int.mul_assoc, Int.mul_comm g 4294967296, Int.mul_assoc]
    omega
  have h4 : p * ((g - 1) * (v2 + 4294967296 * v1 + 1)) ≤ p * (u2 + 4294967296 * top) :=
    Int.mul_le_mul_of_nonneg_left (by omega) (by omega)
  omega
/-- The three highest limbs of a number, the two highest of another. -/
theorem val_top3 {us : List Int} {k : Nat} (h : us.length = k + 3) : val us = val (us.take k) + pw k * (lb us k + 4294967296 * (lb us (k + 2) * 4294967296 + lb us (k + 1))) := by
  have h1 := val_step (xs := us) (k := k + 2) (by omega)
  have h2 := val_step (xs := us) (k := k + 1) (by omega)
  have h3 := val_step (xs := us) (k := k) (by omega)
  rw [val_take_all (by omega)] at h1
  rw [h1, h2, h3, pw_succ', show pw (k + 2) = pw k * 4294967296 * 4294967296 by rw [show k + 2 = (k + 1) + 1 from rfl, pw_succ', pw_succ'], Int.mul_add, Int.mul_add, Int.mul_add]
  rw [show pw k * 4294967296 * 4294967296 * lb us (k + 2) = pw k * (4294967296 * (lb us (k + 2) * 4294967296)) by ac_rfl, show pw k * 4294967296 * lb us (k + 1) = pw k * (4294967296 * lb us (k + 1)) by ac_rfl]
  omega
theorem val_top2 {vs : List Int} {k : Nat} (h : vs.length = k + 2) : val vs = val (vs.take k) + pw k * (lb vs k + 4294967296 * lb vs (k + 1)) := by
  have h2 := val_step (xs := vs) (k := k + 1) (by omega)
  have h3 := val_step (xs := vs) (k := k) (by omega)
  rw [val_take_all (by omega)] at h2
  rw [h2, h3, pw_succ', Int.mul_add, show pw k * 4294967296 * lb vs (k + 1) = pw k * (4294967296 * lb vs (k + 1)) by ac_rfl]
  omega
theorem top_le {us vs : List Int} {k : Nat} (uu : U32s us) (uv : U32s vs) (hu : us.length = k + 3) (hv : vs.length = k + 2) (h : val us < 4294967296 * val vs) : lb us (k + 2) ≤ lb vs (k + 1) := by
  have p := pw_pos k
  have e1 := val_top3 hu
  have e2 := val_top2 hv
  have l1 := val_nonneg (U32s_take uu k)
  have l2 := val_lt (U32s_take uv k)
  rw [List.length_take, Nat.min_eq_left (by omega)] at l2
  obtain ⟨a1, _⟩ := lb_range uu (k + 1)
  obtain ⟨a0, _⟩ := lb_range uu k
  obtain ⟨_, d0⟩ := lb_range uv k
  have h1 : pw k * (4294967296 * (4294967296 * lb us (k + 2))) ≤ val us := by
    have : pw k * (4294967296 * (4294967296 * lb us (k + 2))) ≤ pw k * (lb us k + 4294967296 * (lb us (k + 2) * 4294967296 + lb us (k + 1))) := Int.mul_le_mul_of_nonneg_left (by omega) (by omega)
    omega
  have h2 : pw k * (lb vs k + 4294967296 * lb vs (k + 1)) + pw k * 1 ≤ pw k * (4294967296 * (lb vs (k + 1) + 1)) := by
    rw [← Int.mul_add]
    exact Int.mul_le_mul_of_nonneg_left (by omega) (by omega)
  have h3 : pw k * (4294967296 * (4294967296 * (lb vs (k + 1) + 1))) = 4294967296 * (pw k * (4294967296 * (lb vs (k + 1) + 1))) := by ac_rfl
  have h4 := le_of_mul p (show pw k * (4294967296 * (4294967296 * lb us (k + 2))) < pw k * (4294967296 * (4294967296 * (lb vs (k + 1) + 1))) by omega)
  omega

/-- All that is known of the two numbers whose quotient is guessed. -/
structure Pair (us vs : List Int) (k : Nat) : Prop where
  uu : U32s us
  uv : U32s vs
  lu : us.length = k + 3
  lv : vs.length = k + 2
  top : 2147483648 ≤ lb vs (k + 1)
  lt : val us < 4294967296 * val vs

theorem Pair.pos {us vs : List Int} {k : Nat} (h : Pair us vs k) : 0 < val vs := by
  have := val_nonneg h.uu
  have := h.lt
  omega
theorem Pair.q_lt {us vs : List Int} {k : Nat} (h : Pair us vs k) : val us / val vs < 4294967296 := Int.ediv_lt_of_lt_mul h.pos h.lt
theorem Pair.q_nonneg {us vs : List Int} {k : Nat} (h : Pair us vs k) : 0 ≤ val us / val vs := Int.ediv_nonneg (val_nonneg h.uu) (by have := h.pos; omega)
theorem Pair.first {us vs : List Int} {k : Nat} (h : Pair us vs k) : val us / val vs ≤ (lb us (k + 2) * 4294967296 + lb us (k + 1)) / lb vs (k + 1) := by
  have l1 := val_lt (U32s_take h.uu k)
  have l2 := val_nonneg (U32s_take h.uv k)
  rw [List.length_take, Nat.min_eq_left (by have := h.lu; omega)] at l1
  have hm : val us / val vs * val vs ≤ val us := Int.ediv_mul_le _ (by have := h.pos; omega)
  rw [Int.le_ediv_iff_mul_le (by have := h.top; omega)]
  refine knuth_a (pw_pos k) l1 l2 (lb_range h.uu k).2 (lb_range h.uv k).1 h.q_nonneg ?_
  rw [← val_top3 h.lu, ← val_top2 h.lv]
  exact hm
theorem Pair.less {us vs : List Int} {k : Nat} (h : Pair us vs k) {g l : Int} (g0 : 0 ≤ g) (ht : g * lb vs (k + 1) + l = lb us (k + 2) * 4294967296 + lb us (k + 1)) (hc : l * 4294967296 + lb us k < g * lb vs k) : val us / val vs < g := by
  have l1 := val_lt (U32s_take h.uu k)
  have l2 := val_nonneg (U32s_take h.uv k)
  rw [List.length_take, Nat.min_eq_left (by have := h.lu; omega)] at l1
  refine Int.ediv_lt_of_lt_mul h.pos ?_
  rw [val_top3 h.lu, val_top2 h.lv]
  exact knuth_b (pw_pos k) l1 l2 g0 ht hc
theorem Pair.good {us vs : List Int} {k : Nat} (h : Pair us vs k) {g l : Int} (g0 : 0 ≤ g) (g2 : g < 4294967296) (ht : g * lb vs (k + 1) + l = lb us (k + 2) * 4294967296 + lb us (k + 1)) (hc : g * lb vs k ≤ l * 4294967296 + lb us k) : g ≤ val us / val vs + 1 := by
  have hq := h.q_nonneg
  by_cases g1 : 1 ≤ g
  · have l1 := val_nonneg (U32s_take h.uu k)
    have l2 := val_lt (U32s_take h.uv k)
    rw [List.length_take, Nat.min_eq_left (by have := h.lv; omega)] at l2
    have h1 := knuth_c (pw_pos k) l1 l2 g1 g2 (lb_range h.uv k).1 h.top ht hc
    rw [← val_top3 h.lu, ← val_top2 h.lv] at h1
    have := (Int.le_ediv_iff_mul_le h.pos).2 h1
    omega
  · omega
/-- Behind a step down that makes the rest too great for a limb. -/
theorem Pair.broke {us vs : List Int} {k : Nat} (h : Pair us vs k) {g l : Int} (g0 : 0 ≤ g) (hl : 4294967296 ≤ l) (ht : g * lb vs (k + 1) + l = lb us (k + 2) * 4294967296 + lb us (k + 1)) : g < 4294967296 ∧ g ≤ val us / val vs + 1 := by
  have t := top_le h.uu h.uv h.lu h.lv h.lt
  have v0 := h.top
  obtain ⟨_, b1⟩ := lb_range h.uu (k + 1)
  obtain ⟨u2, _⟩ := lb_range h.uu k
  obtain ⟨c0, d0⟩ := lb_range h.uv k
  have h1 : g * lb vs (k + 1) < 4294967296 * lb vs (k + 1) := by omega
  have hg := Int.lt_of_mul_lt_mul_right h1 (by omega)
  refine ⟨hg, h.good g0 hg ht ?_⟩
  have := (prod_bound g0 hg c0 d0).2
  omega
end NM

namespace Go.Proofs.YtkafkcmhekgheaaGreatDoor.Q
open Go.RowKit NM

/-- What the guess is good for. -/
def GuessOk (us vs : List Int) (g : Int) : Prop := 0 ≤ g ∧ g < 4294967296 ∧ val us / val vs ≤ g ∧ g ≤ val us / val vs + 1

set_option maxHeartbeats 4000000 in
set_option maxRecDepth 100000 in
theorem guess_any (uo vo : Option Addr) (cu cv : Nat) (us vs : List Int) (k : Nat) (w : World) (ru : Row w uo us) (rv : Row w vo vs) (hp : Pair us vs k) (hk : k ≤ 16) :
    Calls Tryz.prog 115 #[.slice uo (k + 3) cu, .slice vo (k + 2) cv] w fun e w' => (∃ g, e = .returned (.int .u64 g) ∧ GuessOk us vs g) ∧ Below w.heap.size w w' := by
  obtain ⟨ub, uoff, rfl, hub, hcu⟩ := ru.cells (by have := hp.lu; omega)
  obtain ⟨vb, voff, rfl, hvb, hcv⟩ := rv.cells (by have := hp.lv; omega)
  have cu2 := hcu (k + 2) (by have := hp.lu; omega)
  have cu1 := hcu (k + 1) (by have := hp.lu; omega)
  have cu0 := hcu k (by have := hp.lu; omega)
  have cv1 := hcv (k + 1) (by have := hp.lv; omega)
  have cv0 := hcv k (by have := hp.lv; omega)
  clear hcu hcv
  obtain ⟨a2, b2⟩ := lb_range hp.uu (k + 2)
  obtain ⟨a1, b1⟩ := lb_range hp.uu (k + 1)
  obtain ⟨a0, b0⟩ := lb_range hp.uu k
  obtain ⟨c1, d1⟩ := lb_range hp.uv (k + 1)
  obtain ⟨c0, d0⟩ := lb_range hp.uv k
  have htop := hp.top
  have hq1 := hp.q_lt
  have hq0 := hp.q_nonneg
  have hfirst := hp.first
  have hor := or_u64 a2 b2 a1 b1
  obtain ⟨T, hT⟩ : ∃ T, lb us (k + 2) * 4294967296 + lb us (k + 1) = T := ⟨_, rfl⟩
  rw [hT] at hor hfirst
  have T0 : 0 ≤ T := by omega
  have T1 : T < 18446744073709551616 := by omega
  have htd : T.tdiv (lb vs (k + 1)) = T / lb vs (k + 1) := Int.tdiv_eq_ediv_of_nonneg T0
  have htm : T.tmod (lb vs (k + 1)) = T % lb vs (k + 1) := Int.tmod_eq_emod_of_nonneg T0
  have hem := Int.ediv_mul_add_emod T (lb vs (k + 1))
  have hr0 := Int.emod_nonneg T (show lb vs (k + 1) ≠ 0 by omega)
  have hr1 := Int.emod_lt_of_pos T (show 0 < lb vs (k + 1) by omega)
  obtain ⟨G, hG⟩ : ∃ G, T / lb vs (k + 1) = G := ⟨_, rfl⟩
  obtain ⟨L, hL⟩ : ∃ L, T % lb vs (k + 1) = L := ⟨_, rfl⟩
  have G0 : 0 ≤ G := by rw [← hG]; exact Int.ediv_nonneg T0 (by omega)
  rw [hL] at htm hem hr0 hr1
  rw [hG] at htd hem hfirst
  have G1 : G ≤ 8589934592 := by
    have h1 : G * 2147483648 ≤ G * lb vs (k + 1) := Int.mul_le_mul_of_nonneg_left htop G0
    omega
  have hwr : IntKind.u64.wrap G = G := wrap_in G0 (by omega)
  have HT := Lib.hid hT
  have HGL := Lib.hid hem
  have Hf := Lib.hid hfirst
  have Hq1 := Lib.hid hq1
  have L1 : L < 4294967296 := by omega
  have HL := Lib.hid hL
  clear hT ru rv hG hL hem T1 hr1 hfirst hq1 hq0
  go_enter Tryz.func115, Tryz.ntmps115
  go_wp2_with fail
  go_quiet (fail)
  go_wp2_with fail
  go_quiet (fail)
  go_wp2_with fail
  go_loopw [7, 8] (fun cg cl wr => ∃ g l : Int, cg = .int .u64 g ∧ cl = .int .u64 l ∧ 0 ≤ g ∧ g ≤ 8589934592 ∧ 0 ≤ l ∧ l < 4294967296 ∧ Hid (g * lb vs (k + 1) + l = T) ∧ Hid (val us / val vs ≤ g) ∧ Below w.heap.size w wr) (fun cg _ _ => (intOf cg).toNat)
  case atStart => exact ⟨G, L, rfl, rfl, G0, G1, hr0, L1, HGL, Hf, by first | exact below_drewN (below_drewN (Below.refl _ _) _) _ | exact below_drewN (Below.refl _ _) _⟩
  case round =>
    obtain ⟨g, l, rfl, rfl, g0, g1, l0, l1, hgl, hge, hb⟩ := hrel
    rename_i wr
    have ku0 : wr.cell? ⟨ub, uoff + k, none⟩ = some (.int .u32 (lb us k)) := by rw [hb.cell (p := ⟨ub, uoff + k, none⟩) hub]; exact cu0
    have kv1 : wr.cell? ⟨vb, voff + (k + 1), none⟩ = some (.int .u32 (lb vs (k + 1))) := by rw [hb.cell (p := ⟨vb, voff + (k + 1), none⟩) hvb]; exact cv1
    have kv0 : wr.cell? ⟨vb, voff + k, none⟩ = some (.int .u32 (lb vs k)) := by rw [hb.cell (p := ⟨vb, voff + k, none⟩) hvb]; exact cv0
    have hsum : g * lb vs (k + 1) + l = lb us (k + 2) * 4294967296 + lb us (k + 1) := by rw [hgl.out, HT.out]
    -- one down, and on
    have hstep : ∀ (hgt : val us / val vs < g), Hid ((g - 1) * lb vs (k + 1) + (l + lb vs (k + 1)) = T) ∧ Hid (val us / val vs ≤ g - 1) ∧ (4294967296 ≤ l + lb vs (k + 1) → GuessOk us vs (g - 1)) := by
      intro hgt
      have h0 := hp.q_nonneg
      have e : (g - 1) * lb vs (k + 1) + (l + lb vs (k + 1)) = g * lb vs (k + 1) + l := by rw [Int.sub_mul]; omega
      refine ⟨Lib.hid (by rw [e, hgl.out]), Lib.hid (by omega), fun hl => ?_⟩
      have h2 := hp.broke (g := g - 1) (by omega) hl (by rw [e, hsum])
      exact ⟨by omega, h2.1, by omega, h2.2⟩
    have hor2 := or_u64 l0 l1 a0 b0
    clear hor htd htm hwr
    by_cases hbig : 4294967296 ≤ g
    · obtain ⟨s1, s2, s3⟩ := hstep (by have := Hq1.out; omega)
      have S3 := Lib.hid s3
      have hb1 : (g / 4294967296 != 0) = true := by rw [bne_iff_ne]; omega
      clear hstep hor2 hsum s3
      by_cases hl : 4294967296 ≤ l + lb vs (k + 1)
      · have hb2 : ((l + lb vs (k + 1)) / 4294967296 != 0) = true := by rw [bne_iff_ne]; omega
        go_wp2_with fail
        go_quiet (fail)
        go_wp2_with fail
        go_ret
        exact ⟨⟨_, rfl, S3.out hl⟩, below_drewN hb _⟩
      · have hb2 : ((l + lb vs (k + 1)) / 4294967296 != 0) = false := by rw [bne_eq_false_iff_eq]; omega
        go_wp2_with fail
        go_quiet (fail)
        go_wp2_with fail
        go_roundw
        case rel =>
            repeat apply Exists.intro
            exact ⟨⟨g - 1, l + lb vs (k + 1), rfl, rfl, by omega, by omega, by omega, by omega, s1, s2, below_drewN hb _⟩, rfl⟩
        case measure => simp [intOf]; omega
    · have hb1 : (g / 4294967296 != 0) = false := by rw [bne_eq_false_iff_eq]; omega
      obtain ⟨p0, p1⟩ := NM.prod_bound g0 (show g < 4294967296 by omega) c0 d0
      by_cases hcm : l * 4294967296 + lb us k < g * lb vs k
      · obtain ⟨s1, s2, s3⟩ := hstep (hp.less g0 hsum hcm)
        have S3 := Lib.hid s3
        have gne : 1 ≤ g := by
          rcases Int.lt_or_le 0 g with h | h
          · omega
          · have : g = 0 := by omega
            rw [this] at hcm; omega
        clear hstep hsum s3
        by_cases hl : 4294967296 ≤ l + lb vs (k + 1)
        · have hb2 : ((l + lb vs (k + 1)) / 4294967296 != 0) = true := by rw [bne_iff_ne]; omega
          go_wp2_with fail
          go_quiet (fail)
          go_wp2_with fail
          go_ret
          exact ⟨⟨_, rfl, S3.out hl⟩, below_drewN hb _⟩
        · have hb2 : ((l + lb vs (k + 1)) / 4294967296 != 0) = false := by rw [bne_eq_false_iff_eq]; omega
          go_wp2_with fail
          go_quiet (fail)
          go_wp2_with fail
          go_roundw
          case rel =>
            repeat apply Exists.intro
            exact ⟨⟨g - 1, l + lb vs (k + 1), rfl, rfl, by omega, by omega, by omega, by omega, s1, s2, below_drewN hb _⟩, rfl⟩
          case measure => simp [intOf]; omega
      · have hok := Lib.hid (show GuessOk us vs g from ⟨g0, by omega, hge.out, hp.good g0 (by omega) hsum (by omega)⟩)
        have hcm2 : g * lb vs k ≤ l * 4294967296 + lb us k := by omega
        clear hstep hsum
        go_wp2_with fail
        go_quiet (fail)
        go_wp2_with fail
        go_ret
        exact ⟨⟨_, rfl, hok.out⟩, below_drewN hb _⟩
end Go.Proofs.YtkafkcmhekgheaaGreatDoor.Q

namespace Go.Proofs.YtkafkcmhekgheaaGreatDoor.Q
open Go.RowKit NM

/-- Block b is a row of limbs of its own. -/
def RowAt (w : World) (b : Nat) (us : List Int) : Prop := w.heap[b]? = some (.cells (arr us) 54 (0, 0))
/-- Nothing that was there has changed but block b. -/
structure OnlyB (b : Nat) (w w' : World) : Prop where
  os : w'.os = w.os
  tape : w'.tape = w.tape
  output : w'.output = w.output
  size : w.heap.size ≤ w'.heap.size
  block : ∀ k, k < w.heap.size → k ≠ b → w'.heap[k]? = w.heap[k]?

theorem OnlyB.refl (b : Nat) (w : World) : OnlyB b w w := ⟨rfl, rfl, rfl, Nat.le_refl _, fun _ _ _ => rfl⟩
theorem OnlyB.trans {b : Nat} {x y z : World} (h : OnlyB b x y) (k : OnlyB b y z) : OnlyB b x z :=
  ⟨k.os.trans h.os, k.tape.trans h.tape, k.output.trans h.output, Nat.le_trans h.size k.size, fun i hi hn => (k.block i (Nat.lt_of_lt_of_le hi h.size) hn).trans (h.block i hi hn)⟩
theorem OnlyB.set {b : Nat} {w w' : World} (h : OnlyB b w w') (k : Nat) (v : Value) : OnlyB b w (w'.setCell ⟨b, k, none⟩ v) :=
  h.trans ⟨rfl, rfl, rfl, by simp [World.setCell], fun i _ hn => Below.heap_setCell _ _ _ _ hn⟩
theorem OnlyB.drewN {b : Nat} {w w' : World} (h : OnlyB b w w') (n : Nat) : OnlyB b w (w'.drewN n) :=
  h.trans ⟨rfl, rfl, rfl, Nat.le_refl _, fun _ _ _ => rfl⟩
theorem OnlyB.of_below {b : Nat} {w w' : World} (h : Below w.heap.size w w') : OnlyB b w w' :=
  ⟨h.os, h.tape, h.output, h.size, fun k hk _ => h.block k hk⟩
theorem OnlyB.below {b B : Nat} {w w' : World} (h : OnlyB b w w') (hB : B ≤ b) (hs : B ≤ w.heap.size) : Below B w w' :=
  ⟨h.os, h.tape, h.output, h.size, fun k hk => h.block k (by omega) (by omega)⟩

theorem RowAt.lt {w : World} {b : Nat} {us : List Int} (h : RowAt w b us) : b < w.heap.size := lt_of_block h
theorem RowAt.cell {w : World} {b : Nat} {us : List Int} (h : RowAt w b us) {k : Nat} (hk : k < us.length) : w.cell? ⟨b, k, none⟩ = some (.int .u32 (lb us k)) := by
  unfold RowAt at h
  simp only [World.cell?, h]
  exact arr_at us k hk
theorem RowAt.free {w : World} {b : Nat} {us : List Int} (h : RowAt w b us) (k : Nat) : w.frozen? ⟨b, k, none⟩ = false := by
  unfold RowAt at h
  simp [World.frozen?, h]
theorem RowAt.set {w : World} {b : Nat} {us : List Int} (h : RowAt w b us) (k : Nat) (d : Int) : RowAt (w.setCell ⟨b, k, none⟩ (.int .u32 d)) b (us.set k d) := by
  have hlt := h.lt
  unfold RowAt at h ⊢
  have h' : w.heap[b] = .cells (arr us) 54 (0, 0) := by simpa [Array.getElem?_eq_getElem hlt] using h
  show (w.heap.modify b _)[b]? = _
  rw [Array.getElem?_eq_getElem (by simpa using hlt), Array.getElem_modify_self, h', ← arr_set]
  rfl
theorem RowAt.other {w w' : World} {b j : Nat} {us : List Int} (h : RowAt w j us) (ho : OnlyB b w w') (hn : j ≠ b) : RowAt w' j us := by
  have hlt := h.lt
  unfold RowAt at h ⊢
  rw [ho.block j hlt hn]
  exact h
theorem RowAt.below {w w' : World} {j : Nat} {us : List Int} (h : RowAt w j us) (hb : Below w.heap.size w w') : RowAt w' j us := by
  have hlt := h.lt
  unfold RowAt at h ⊢
  rw [hb.block j hlt]
  exact h
theorem RowAt.new (w : World) (us : List Int) : RowAt (w.alloc (.cells (arr us) 54)) w.heap.size us := by
  unfold RowAt
  show (w.heap.push _)[w.heap.size]? = _
  simp
theorem RowAt.row {w : World} {b : Nat} {us : List Int} (h : RowAt w b us) (off : Nat) : Row w (some ⟨b, off, none⟩) (us.drop off) := by
  by_cases he : us.drop off = []
  · exact .inl he
  · refine .inr ⟨b, off, rfl, h.lt, fun i hi => ?_⟩
    rw [List.length_drop] at hi
    rw [lb_drop]
    exact h.cell (by omega)

/-- What take leaves: the row of u, and whether it was once too often. -/
def TakeOk (us vs : List Int) (off m : Nat) (g : Int) (bo : Int) (us' : List Int) : Prop :=
  us'.length = us.length ∧ U32s us' ∧ (bo = 0 ∨ bo = 1) ∧ val us' = val us + pw off * (0 - g * val vs + pw (m + 1) * bo) ∧ ∀ j, off + (m + 1) ≤ j → lb us' j = lb us j

/-- One limb taken off. -/
theorem take_step {zs us vs : List Int} {off k : Nat} {g c0 b0 c1 b1 d s : Int} (hk : off + k < zs.length)
    (hv : val zs = val us + pw off * (0 - g * val (vs.take k) + pw k * (c0 + b0))) (ht : g * val (vs.take (k + 1)) = g * val (vs.take k) + pw k * s)
    (hd : d - lb zs (off + k) + c0 + b0 + s = 4294967296 * (c1 + b1)) :
    val (zs.set (off + k) d) = val us + pw off * (0 - g * val (vs.take (k + 1)) + pw (k + 1) * (c1 + b1)) := by
  rw [val_set _ _ _ hk, hv, ht, pw_add, pw_succ', Int.mul_assoc (pw off), Int.add_assoc, ← Int.mul_add]
  congr 2
  have e1 : pw k * 4294967296 * (c1 + b1) = pw k * (4294967296 * (c1 + b1)) := by ac_rfl
  rw [e1, ← hd]
  have e2 : pw k * (d - lb zs (off + k) + c0 + b0 + s) = pw k * (c0 + b0) + pw k * (d - lb zs (off + k)) + pw k * s := by
    rw [← Int.mul_add, ← Int.mul_add]
    congr 1
    omega
  rw [e2]
  omega

set_option maxHeartbeats 4000000 in
set_option maxRecDepth 100000 in
theorem take_any (ub off cu cv : Nat) (vo : Option Addr) (us vs : List Int) (m : Nat) (g : Int) (w : World) (hu : RowAt w ub us) (rv : Row w vo vs) (hne : ∀ b o, vo = some ⟨b, o, none⟩ → b ≠ ub) (uu : U32s us) (uv : U32s vs)
    (hlv : vs.length = m) (hm : m ≤ 40) (hlu : off + (m + 1) ≤ us.length) (_hlu2 : us.length ≤ 1000) (g0 : 0 ≤ g) (g1 : g < 4294967296) :
    Calls Tryz.prog 116 #[.slice (some ⟨ub, off, none⟩) (m + 1) cu, .slice vo m cv, .int .u64 g] w fun e w' => ∃ bo us', e = .returned (.bool (bo != 0)) ∧ TakeOk us vs off m g bo us' ∧ RowAt w' ub us' ∧ OnlyB ub w w' := by
  go_enter Tryz.func116, Tryz.ntmps116
  go_wp2_with fail
  go_loopw [7, 8, 13] (fun c bo i wr => ∃ k : Nat, ∃ zs : List Int, ∃ c0 b0 : Int, k ≤ m + 1 ∧ i = .int .i64 k ∧ c = .int .u64 c0 ∧ bo = .int .u64 b0 ∧ 0 ≤ c0 ∧ c0 < 4294967296 ∧ 0 ≤ b0 ∧ b0 ≤ 1 ∧ (k = m + 1 → c0 = 0) ∧ zs.length = us.length ∧ U32s zs ∧ Hid (val zs = val us + pw off * (0 - g * val (vs.take k) + pw k * (c0 + b0))) ∧ Hid (∀ j, off + k ≤ j → lb zs j = lb us j) ∧ RowAt wr ub zs ∧ OnlyB ub w wr) (fun _ _ i _ => m + 1 - (intOf i).toNat)
  case atStart => exact ⟨0, us, 0, 0, Nat.zero_le _, rfl, rfl, rfl, by omega, by omega, by omega, by omega, fun _ => rfl, rfl, uu, Lib.hid (by simp [val]), Lib.hid (fun _ _ => rfl), hu, OnlyB.refl _ _⟩
  case round =>
    obtain ⟨k, zs, c0, b0, hk, rfl, rfl, rfl, hc0, hc1, hb0, hb1, hlast, hz, uz, hv, hs, hrow, ho⟩ := hrel
    rename_i wr
    by_cases hkn : k < m + 1
    · have hck := hrow.cell (k := off + k) (by omega)
      have hfk := hrow.free (off + k)
      obtain ⟨x0, x1⟩ := lb_range uz (off + k)
      have Hl := Lib.hid hlast
      clear hlast
      by_cases hkm : k < m
      · obtain ⟨vb, voff, rfl, hvb, hcv⟩ := rv.cells (by omega)
        have hcv0 := hcv k (by omega)
        have hvne := hne vb voff rfl
        have kv0 : wr.cell? ⟨vb, voff + k, none⟩ = some (.int .u32 (lb vs k)) := by
          rw [← hcv0]
          exact World.cell?_of_block (w := w) (ho.block vb hvb hvne)
        obtain ⟨y0, y1⟩ := lb_range uv k
        obtain ⟨p0, p1⟩ := NM.prod_bound g0 g1 y0 y1
        have Hcv := Lib.hid hcv
        clear hcv hcv0
        obtain ⟨P, hP⟩ : ∃ P, c0 + g * lb vs k = P := ⟨_, rfl⟩
        have P0 : 0 ≤ P := by omega
        have P1 : P ≤ 18446744069414584320 := by omega
        have HP := Lib.hid hP
        by_cases hge : P % 4294967296 + b0 ≤ lb zs (off + k)
        · go_wp2_with fail
          go_roundw
          case rel =>
            refine ⟨k + 1, zs.set (off + k) (lb zs (off + k) - P % 4294967296 - b0), _, _, by omega, by go_num, rfl, rfl, by omega, by omega, by omega, by omega, fun h => by omega, by simpa using hz, U32s_set uz _ (by omega) (by omega), Lib.hid ?_, Lib.hid ?_, hrow.set _ _, ho.set _ _⟩
            · exact take_step (by omega) hv.out (s := g * lb vs k) (by rw [val_step (by omega), Int.mul_add, show g * (pw k * lb vs k) = pw k * (g * lb vs k) by ac_rfl]) (by have h9 := HP.out; omega)
            · intro j hj
              rw [lb_set_ne (by omega)]
              exact hs.out j (by omega)
          case measure => simp [intOf]; omega
        · by_cases hge2 : P % 4294967296 ≤ lb zs (off + k)
          · have hw := wrap_below (show -18446744073709551616 ≤ lb zs (off + k) - P % 4294967296 - b0 by omega) (by omega)
            obtain ⟨W, hW⟩ : ∃ W, IntKind.u64.wrap (lb zs (off + k) - P % 4294967296 - b0) = W := ⟨_, rfl⟩
            rw [hW] at hw
            have W0 : 9223372036854775808 ≤ W := by omega
            have W1 : W < 18446744073709551616 := by omega
            have HW := Lib.hid hw
            clear hw
            go_wp2_with fail
            go_roundw
            case rel =>
              refine ⟨k + 1, zs.set (off + k) (W % 4294967296), _, _, by omega, by go_num, rfl, rfl, by omega, by omega, by omega, by omega, fun h => by omega, by simpa using hz, U32s_set uz _ (by omega) (by omega), Lib.hid ?_, Lib.hid ?_, hrow.set _ _, ho.set _ _⟩
              · exact take_step (by omega) hv.out (s := g * lb vs k) (by rw [val_step (by omega), Int.mul_add, show g * (pw k * lb vs k) = pw k * (g * lb vs k) by ac_rfl]) (by have h9 := HP.out; have h := HW.out; omega)
              · intro j hj
                rw [lb_set_ne (by omega)]
                exact hs.out j (by omega)
            case measure => simp [intOf]; omega
          · have hw := wrap_below (show -18446744073709551616 ≤ lb zs (off + k) - P % 4294967296 by omega) (by omega)
            obtain ⟨W, hW⟩ : ∃ W, IntKind.u64.wrap (lb zs (off + k) - P % 4294967296) = W := ⟨_, rfl⟩
            rw [hW] at hw
            have W0 : 9223372036854775809 ≤ W := by omega
            have W1 : W < 18446744073709551616 := by omega
            have HW := Lib.hid hw
            clear hw
            go_wp2_with fail
            go_roundw
            case rel =>
              refine ⟨k + 1, zs.set (off + k) ((W - b0) % 4294967296), _, _, by omega, by go_num, rfl, rfl, by omega, by omega, by omega, by omega, fun h => by omega, by simpa using hz, U32s_set uz _ (by omega) (by omega), Lib.hid ?_, Lib.hid ?_, hrow.set _ _, ho.set _ _⟩
              · exact take_step (by omega) hv.out (s := g * lb vs k) (by rw [val_step (by omega), Int.mul_add, show g * (pw k * lb vs k) = pw k * (g * lb vs k) by ac_rfl]) (by have h9 := HP.out; have h := HW.out; omega)
              · intro j hj
                rw [lb_set_ne (by omega)]
                exact hs.out j (by omega)
            case measure => simp [intOf]; omega
      · have hkm' : k = m := by omega
        subst hkm'
        by_cases hge : c0 + b0 ≤ lb zs (off + k)
        · go_wp2_with fail
          go_roundw
          case rel =>
            refine ⟨k + 1, zs.set (off + k) (lb zs (off + k) - c0 - b0), _, _, by omega, by go_num, rfl, rfl, by omega, by omega, by omega, by omega, fun h => by omega, by simpa using hz, U32s_set uz _ (by omega) (by omega), Lib.hid ?_, Lib.hid ?_, hrow.set _ _, ho.set _ _⟩
            · exact take_step (by omega) hv.out (s := 0) (by rw [val_take_all (xs := vs) (k := k) (by omega), val_take_all (xs := vs) (k := k + 1) (by omega)]; omega) (by omega)
            · intro j hj
              rw [lb_set_ne (by omega)]
              exact hs.out j (by omega)
          case measure => simp [intOf]
        · by_cases hge2 : c0 ≤ lb zs (off + k)
          · have hw := wrap_below (show -18446744073709551616 ≤ lb zs (off + k) - c0 - b0 by omega) (by omega)
            obtain ⟨W, hW⟩ : ∃ W, IntKind.u64.wrap (lb zs (off + k) - c0 - b0) = W := ⟨_, rfl⟩
            rw [hW] at hw
            have W0 : 9223372036854775808 ≤ W := by omega
            have W1 : W < 18446744073709551616 := by omega
            have HW := Lib.hid hw
            clear hw
            go_wp2_with fail
            go_roundw
            case rel =>
              refine ⟨k + 1, zs.set (off + k) (W % 4294967296), _, _, by omega, by go_num, rfl, rfl, by omega, by omega, by omega, by omega, fun h => by omega, by simpa using hz, U32s_set uz _ (by omega) (by omega), Lib.hid ?_, Lib.hid ?_, hrow.set _ _, ho.set _ _⟩
              · exact take_step (by omega) hv.out (s := 0) (by rw [val_take_all (xs := vs) (k := k) (by omega), val_take_all (xs := vs) (k := k + 1) (by omega)]; omega) (by have h := HW.out; omega)
              · intro j hj
                rw [lb_set_ne (by omega)]
                exact hs.out j (by omega)
            case measure => simp [intOf]
          · have hw := wrap_below (show -18446744073709551616 ≤ lb zs (off + k) - c0 by omega) (by omega)
            obtain ⟨W, hW⟩ : ∃ W, IntKind.u64.wrap (lb zs (off + k) - c0) = W := ⟨_, rfl⟩
            rw [hW] at hw
            have W0 : 9223372036854775809 ≤ W := by omega
            have W1 : W < 18446744073709551616 := by omega
            have HW := Lib.hid hw
            clear hw
            go_wp2_with fail
            go_roundw
            case rel =>
              refine ⟨k + 1, zs.set (off + k) ((W - b0) % 4294967296), _, _, by omega, by go_num, rfl, rfl, by omega, by omega, by omega, by omega, fun h => by omega, by simpa using hz, U32s_set uz _ (by omega) (by omega), Lib.hid ?_, Lib.hid ?_, hrow.set _ _, ho.set _ _⟩
              · exact take_step (by omega) hv.out (s := 0) (by rw [val_take_all (xs := vs) (k := k) (by omega), val_take_all (xs := vs) (k := k + 1) (by omega)]; omega) (by have h := HW.out; omega)
              · intro j hj
                rw [lb_set_ne (by omega)]
                exact hs.out j (by omega)
            case measure => simp [intOf]
    · have hk2 : k = m + 1 := by omega
      have hc00 := hlast hk2
      subst hk2
      have hok := Lib.hid (show TakeOk us vs off m g b0 zs from ⟨hz, uz, by omega, by
        rw [hv.out, hc00, val_take_all (xs := vs) (by omega), Int.zero_add], hs.out⟩)
      clear hlast
      go_wp2_with fail
      go_ret
      exact ⟨b0, zs, rfl, hok.out, hrow, ho⟩
end Go.Proofs.YtkafkcmhekgheaaGreatDoor.Q

namespace Go.Proofs.YtkafkcmhekgheaaGreatDoor.Q
open Go.RowKit NM

/-- What giveBack leaves. -/
def GiveOk (us vs : List Int) (off m : Nat) (co : Int) (us' : List Int) : Prop :=
  us'.length = us.length ∧ U32s us' ∧ (co = 0 ∨ co = 1) ∧ val us' = val us + pw off * (0 - (-1) * val vs + pw (m + 1) * (-co + 0)) ∧ ∀ j, off + (m + 1) ≤ j → lb us' j = lb us j

set_option maxHeartbeats 4000000 in
set_option maxRecDepth 100000 in
theorem give_any (ub off cu cv : Nat) (vo : Option Addr) (us vs : List Int) (m : Nat) (w : World) (hu : RowAt w ub us) (rv : Row w vo vs) (hne : ∀ b o, vo = some ⟨b, o, none⟩ → b ≠ ub) (uu : U32s us) (uv : U32s vs)
    (hlv : vs.length = m) (hm : m ≤ 40) (hlu : off + (m + 1) ≤ us.length) (_hlu2 : us.length ≤ 1000) :
    Calls Tryz.prog 117 #[.slice (some ⟨ub, off, none⟩) (m + 1) cu, .slice vo m cv] w fun e w' => ∃ co us', e = .returned (.tuple #[]) ∧ GiveOk us vs off m co us' ∧ RowAt w' ub us' ∧ OnlyB ub w w' := by
  go_enter Tryz.func117, Tryz.ntmps117
  go_wp2_with fail
  go_loopw [4, 8] (fun c i wr => ∃ k : Nat, ∃ zs : List Int, ∃ c0 : Int, k ≤ m + 1 ∧ i = .int .i64 k ∧ c = .int .u64 c0 ∧ 0 ≤ c0 ∧ c0 ≤ 1 ∧ zs.length = us.length ∧ U32s zs ∧ Hid (val zs = val us + pw off * (0 - (-1) * val (vs.take k) + pw k * (-c0 + 0))) ∧ Hid (∀ j, off + k ≤ j → lb zs j = lb us j) ∧ RowAt wr ub zs ∧ OnlyB ub w wr) (fun _ i _ => m + 1 - (intOf i).toNat)
  case atStart => exact ⟨0, us, 0, Nat.zero_le _, rfl, rfl, by omega, by omega, rfl, uu, Lib.hid (by simp [val]), Lib.hid (fun _ _ => rfl), hu, OnlyB.refl _ _⟩
  case round =>
    obtain ⟨k, zs, c0, hk, rfl, rfl, hc0, hc1, hz, uz, hv, hs, hrow, ho⟩ := hrel
    rename_i wr
    by_cases hkn : k < m + 1
    · have hck := hrow.cell (k := off + k) (by omega)
      have hfk := hrow.free (off + k)
      obtain ⟨x0, x1⟩ := lb_range uz (off + k)
      by_cases hkm : k < m
      · obtain ⟨vb, voff, rfl, hvb, hcv⟩ := rv.cells (by omega)
        have hcv0 := hcv k (by omega)
        have hvne := hne vb voff rfl
        have kv0 : wr.cell? ⟨vb, voff + k, none⟩ = some (.int .u32 (lb vs k)) := by
          rw [← hcv0]
          exact World.cell?_of_block (w := w) (ho.block vb hvb hvne)
        obtain ⟨y0, y1⟩ := lb_range uv k
        have Hcv := Lib.hid hcv
        clear hcv hcv0
        go_wp2_with fail
        go_roundw
        case rel =>
          refine ⟨k + 1, zs.set (off + k) ((c0 + lb zs (off + k) + lb vs k) % 4294967296), _, by omega, by go_num, rfl, by omega, by omega, by simpa using hz, U32s_set uz _ (by omega) (by omega), Lib.hid ?_, Lib.hid ?_, hrow.set _ _, ho.set _ _⟩
          · exact take_step (by omega) hv.out (s := -1 * lb vs k) (by rw [val_step (by omega), Int.mul_add, show -1 * (pw k * lb vs k) = pw k * (-1 * lb vs k) by ac_rfl]) (by omega)
          · intro j hj
            rw [lb_set_ne (by omega)]
            exact hs.out j (by omega)
        case measure => simp [intOf]; omega
      · have hkm' : k = m := by omega
        subst hkm'
        go_wp2_with fail
        go_roundw
        case rel =>
          refine ⟨k + 1, zs.set (off + k) ((c0 + lb zs (off + k)) % 4294967296), _, by omega, by go_num, rfl, by omega, by omega, by simpa using hz, U32s_set uz _ (by omega) (by omega), Lib.hid ?_, Lib.hid ?_, hrow.set _ _, ho.set _ _⟩
          · exact take_step (by omega) hv.out (s := 0) (by rw [val_take_all (xs := vs) (k := k) (by omega), val_take_all (xs := vs) (k := k + 1) (by omega)]; omega) (by omega)
          · intro j hj
            rw [lb_set_ne (by omega)]
            exact hs.out j (by omega)
        case measure => simp [intOf]
    · have hk2 : k = m + 1 := by omega
      subst hk2
      have hok := Lib.hid (show GiveOk us vs off m c0 zs from ⟨hz, uz, by omega, by
        rw [hv.out, val_take_all (xs := vs) (by omega)], hs.out⟩)
      go_wp2_with fail
      go_end0
      exact ⟨c0, zs, rfl, hok.out, hrow, ho⟩

/-! ### One limb of the quotient: plain facts -/
/-- Before a limb: the row, from place i on, is less than 2^32 times V. After: less than V. -/
theorem seg_val {us : List Int} (uu : U32s us) (i m : Nat) (hl : i + (m + 1) ≤ us.length) (hz : ∀ j, i + (m + 1) ≤ j → lb us j = 0) :
    val us = val (us.take i) + pw i * val ((us.drop i).take (m + 1)) ∧ 0 ≤ val (us.take i) ∧ val (us.take i) < pw i ∧ U32s ((us.drop i).take (m + 1)) ∧ ((us.drop i).take (m + 1)).length = m + 1 := by
  have h1 := val_split us i (by omega)
  have h2 := val_split (us.drop i) (m + 1) (by simp; omega)
  have h3 : val ((us.drop i).drop (m + 1)) = 0 := by
    have : ∀ (l : List Int), (∀ j, lb l j = 0) → val l = 0 := by
      intro l
      induction l with
      | nil => intro _; rfl
      | cons x l ih =>
        intro h
        have h0 := h 0
        have h1 : val l = 0 := ih (fun j => by have := h (j + 1); simpa [lb] using this)
        simp [lb] at h0
        simp [val, h0, h1]
    apply this
    intro j
    rw [lb_drop, lb_drop]
    exact hz _ (by omega)
  rw [h3] at h2
  refine ⟨by rw [h1, h2]; simp, val_nonneg (U32s_take uu i), ?_, U32s_take (U32s_drop uu i) _, by simp; omega⟩
  have := val_lt (U32s_take uu i)
  rw [List.length_take, Nat.min_eq_left (by omega)] at this
  exact this
end Go.Proofs.YtkafkcmhekgheaaGreatDoor.Q

namespace Go.Proofs.YtkafkcmhekgheaaGreatDoor.Q
open Go.RowKit NM

theorem lb_zero {us : List Int} (uu : U32s us) {t : Nat} (h : val us < pw t) (j : Nat) (hj : t ≤ j) : lb us j = 0 := by
  by_cases hl : j < us.length
  · have h1 := val_split us j (by omega)
    have h2 := val_drop hl
    have h3 := val_nonneg (U32s_take uu j)
    have h4 := val_nonneg (U32s_drop uu (j + 1))
    obtain ⟨a, _⟩ := lb_range uu j
    have hp := pw_pos j
    have hm := pw_mono hj
    by_cases h0 : lb us j = 0
    · exact h0
    · have h5 : pw j * 1 ≤ pw j * val (us.drop j) := Int.mul_le_mul_of_nonneg_left (by omega) (by omega)
      omega
  · exact lb_none (by omega)

theorem same_low {p a b x y : Int} (hp : 0 < p) (a0 : 0 ≤ a) (a1 : a < p) (b0 : 0 ≤ b) (b1 : b < p) (h : a + p * x = b + p * y) : x = y := by
  have h1 : (a + p * x) / p = x := by rw [Int.add_mul_ediv_left _ _ (by omega), Int.ediv_eq_zero_of_lt a0 a1, Int.zero_add]
  have h2 : (b + p * y) / p = y := by rw [Int.add_mul_ediv_left _ _ (by omega), Int.ediv_eq_zero_of_lt b0 b1, Int.zero_add]
  rw [← h1, ← h2, h]

/-- The segment of the row that a round looks at. -/
def seg (us : List Int) (i m : Nat) : List Int := (us.drop i).take (m + 1)

/-- What is known at the head of a round for place i. -/
structure Rnd (us vs : List Int) (i m : Nat) : Prop where
  uu : U32s us
  uv : U32s vs
  lv : vs.length = m
  m2 : 2 ≤ m
  lu : i + (m + 1) ≤ us.length
  top : 2147483648 ≤ lb vs (m - 1)
  lt : val us < pw (i + 1) * val vs

theorem Rnd.vlt {us vs : List Int} {i m : Nat} (h : Rnd us vs i m) : val vs < pw m := by
  have := val_lt h.uv
  rw [h.lv] at this
  exact this
theorem Rnd.zero {us vs : List Int} {i m : Nat} (h : Rnd us vs i m) (j : Nat) (hj : i + (m + 1) ≤ j) : lb us j = 0 := by
  refine lb_zero h.uu (t := i + (m + 1)) ?_ j hj
  have h1 := h.vlt
  have h2 : pw (i + 1) * val vs ≤ pw (i + 1) * pw m := Int.mul_le_mul_of_nonneg_left (by omega) (by have := pw_pos (i + 1); omega)
  rw [← pw_add, show i + 1 + m = i + (m + 1) by omega] at h2
  have := h.lt
  omega
theorem Rnd.val {us vs : List Int} {i m : Nat} (h : Rnd us vs i m) : NM.val us = NM.val (us.take i) + pw i * NM.val (seg us i m) ∧ 0 ≤ NM.val (us.take i) ∧ NM.val (us.take i) < pw i ∧ U32s (seg us i m) ∧ (seg us i m).length = m + 1 :=
  seg_val h.uu i m h.lu h.zero
theorem Rnd.pair {us vs : List Int} {i m : Nat} (h : Rnd us vs i m) : Pair (seg us i m) vs (m - 2) := by
  obtain ⟨e, l0, l1, u, l⟩ := h.val
  have m2 := h.m2
  refine ⟨u, h.uv, by omega, by rw [h.lv]; omega, by rw [show m - 2 + 1 = m - 1 by omega]; exact h.top, ?_⟩
  have h1 := h.lt
  rw [e, pw_succ', Int.mul_assoc] at h1
  exact le_of_mul (pw_pos i) (show pw i * NM.val (seg us i m) < pw i * (4294967296 * NM.val vs) by omega)

/-- Behind take. -/
theorem Rnd.took {us vs us1 : List Int} {i m : Nat} (h : Rnd us vs i m) {g bo : Int} (hg : GuessOk (seg us i m) vs g) (ht : TakeOk us vs i m g bo us1) :
    (bo = 0 ∧ g = NM.val (seg us i m) / NM.val vs ∧ NM.val us1 = NM.val us - pw i * (NM.val (seg us i m) / NM.val vs * NM.val vs)) ∨
    (bo = 1 ∧ g = NM.val (seg us i m) / NM.val vs + 1 ∧ ∀ co us2, GiveOk us1 vs i m co us2 → NM.val us2 = NM.val us - pw i * (NM.val (seg us i m) / NM.val vs * NM.val vs)) := by
  obtain ⟨e, l0, l1, u, l⟩ := h.val
  obtain ⟨t1, t2, t3, t4, t5⟩ := ht
  obtain ⟨g0, g1, g2, g3⟩ := hg
  have hp := pw_pos i
  have hV := h.pair.pos
  have hpm : NM.val vs < pw (m + 1) := by have := h.vlt; have := pw_mono (show m ≤ m + 1 by omega); omega
  have hs1 := seg_val t2 i m (by have := h.lu; omega) (fun j hj => by rw [t5 j hj]; exact h.zero j hj)
  obtain ⟨e1, k0, k1, u1, n1⟩ := hs1
  have hx : NM.val ((us1.drop i).take (m + 1)) = NM.val (seg us i m) + (0 - g * NM.val vs + pw (m + 1) * bo) := by
    refine same_low hp k0 k1 l0 l1 ?_
    rw [← e1, t4, e, Int.mul_add (pw i) (NM.val (seg us i m))]
    omega
  have s0 := val_nonneg u1
  have s1 := val_lt u1
  rw [n1] at s1
  have hm := Int.mul_ediv_add_emod (NM.val (seg us i m)) (NM.val vs)
  have hr0 := Int.emod_nonneg (NM.val (seg us i m)) (show NM.val vs ≠ 0 by omega)
  have hr1 := Int.emod_lt_of_pos (NM.val (seg us i m)) hV
  rw [Int.mul_comm] at hm
  obtain ⟨Q, hQ⟩ : ∃ Q, NM.val (seg us i m) / NM.val vs = Q := ⟨_, rfl⟩
  rw [hQ] at g2 g3 hm ⊢
  rcases (show g = Q ∨ g = Q + 1 by omega) with hgq | hgq
  · left
    have hb : bo = 0 := by
      rcases t3 with h3 | h3
      · exact h3
      · rw [h3, hgq] at hx
        omega
    refine ⟨hb, hgq, ?_⟩
    rw [t4, hb, hgq, Int.mul_zero, Int.add_zero, Int.mul_sub]
    omega
  · right
    have hgv : g * NM.val vs = Q * NM.val vs + NM.val vs := by rw [hgq, Int.add_mul, Int.one_mul]
    have hb : bo = 1 := by
      rcases t3 with h3 | h3
      · rw [h3] at hx
        omega
      · exact h3
    refine ⟨hb, hgq, fun co us2 hgive => ?_⟩
    obtain ⟨v1, v2, v3, v4, v5⟩ := hgive
    have hs2 := seg_val v2 i m (by have := h.lu; omega) (fun j hj => by rw [v5 j hj, t5 j hj]; exact h.zero j hj)
    obtain ⟨e2, j0, j1, u2, n2⟩ := hs2
    have hy : NM.val ((us2.drop i).take (m + 1)) = NM.val ((us1.drop i).take (m + 1)) + (0 - -1 * NM.val vs + pw (m + 1) * (-co + 0)) := by
      refine same_low hp j0 j1 k0 k1 ?_
      rw [← e2, v4, e1, Int.mul_add (pw i) (NM.val ((us1.drop i).take (m + 1)))]
      omega
    have z1 := val_lt u2
    rw [n2] at z1
    rw [hx, hb, hgv] at hy
    have hco : co = 1 := by
      rcases v3 with h3 | h3
      · rw [h3] at hy
        omega
      · exact h3
    rw [v4, t4, hb, hco, hgv]
    have e9 : NM.val us + pw i * (0 - (Q * NM.val vs + NM.val vs) + pw (m + 1) * 1) + pw i * (0 - -1 * NM.val vs + pw (m + 1) * (-1 + 0)) = NM.val us + pw i * (0 - Q * NM.val vs) := by
      rw [Int.add_assoc, ← Int.mul_add]
      congr 2
      omega
    rw [e9, Int.mul_sub]
    omega

/-- What is left is less than V, from place i on. -/
theorem Rnd.next {us vs : List Int} {i m : Nat} (h : Rnd us vs i m) {X : Int} (hX : X = NM.val us - pw i * (NM.val (seg us i m) / NM.val vs * NM.val vs)) : X < pw i * NM.val vs ∧ 0 ≤ NM.val (seg us i m) / NM.val vs ∧ NM.val (seg us i m) / NM.val vs < 4294967296 := by
  obtain ⟨e, l0, l1, u, l⟩ := h.val
  have hV := h.pair.pos
  have hm := Int.mul_ediv_add_emod (NM.val (seg us i m)) (NM.val vs)
  have hr1 := Int.emod_lt_of_pos (NM.val (seg us i m)) hV
  rw [Int.mul_comm] at hm
  refine ⟨?_, h.pair.q_nonneg, h.pair.q_lt⟩
  have h1 : X = NM.val (us.take i) + pw i * (NM.val (seg us i m) % NM.val vs) := by
    rw [hX, e]
    have : pw i * NM.val (seg us i m) = pw i * (NM.val (seg us i m) / NM.val vs * NM.val vs) + pw i * (NM.val (seg us i m) % NM.val vs) := by rw [← Int.mul_add, hm]
    omega
  have h2 : pw i * (NM.val (seg us i m) % NM.val vs + 1) ≤ pw i * NM.val vs := Int.mul_le_mul_of_nonneg_left (by omega) (by have := pw_pos i; omega)
  rw [Int.mul_add] at h2
  omega

/-- A number's highest limb, and its bits. -/
theorem bitLen_facts {x : Int} (h0 : 0 < x) (h1 : x < 4294967296) : 1 ≤ Lib.bitLen x.toNat ∧ Lib.bitLen x.toNat ≤ 32 ∧ (2 : Int) ^ (Lib.bitLen x.toNat - 1) ≤ x ∧ x < 2 ^ Lib.bitLen x.toNat := by
  have hb := Lib.bitLenAux_bounds 64 x.toNat (by omega) (by omega)
  have hl := Lib.bitLen_le x.toNat 32 (by omega) (by omega)
  unfold Lib.bitLen at hl ⊢
  refine ⟨hb.1, hl, ?_, ?_⟩
  · have : ((2 ^ (Lib.bitLenAux 64 x.toNat - 1) : Nat) : Int) ≤ (x.toNat : Int) := by exact_mod_cast hb.2.1
    rw [Int.natCast_pow, show ((2 : Nat) : Int) = 2 from rfl] at this
    omega
  · have : (x.toNat : Int) < ((2 ^ Lib.bitLenAux 64 x.toNat : Nat) : Int) := by exact_mod_cast hb.2.2
    rw [Int.natCast_pow, show ((2 : Nat) : Int) = 2 from rfl] at this
    omega
end Go.Proofs.YtkafkcmhekgheaaGreatDoor.Q

namespace Go.Proofs
open Go.Shelf
def Tryz.lays128_ren : Go.Shelf.Ren := ⟨fun | 128 => 123 | n => n, fun | 51 => 54 | 3 => 3 | 4 => 4 | 46 => 89 | 5 => 5 | 9 => 9 | n => n, fun | n => n⟩
theorem Tryz.lays128 : Go.Proofs.Lays.n128 Tryz.prog Tryz.lays128_ren := {
  mixed := by kernel_rfl
  f128 := Tryz.func123.trans (congrArg some (by kernel_rfl))
  t3 := Tryz.underlying3
  a3 := Tryz.isAgg3
  z3 := Tryz.sizeOf3
  v3 := Tryz.zeroValue3
  t4 := Tryz.underlying4
  a4 := Tryz.isAgg4
  z4 := Tryz.sizeOf4
  v4 := Tryz.zeroValue4
  t5 := Tryz.underlying5
  a5 := Tryz.isAgg5
  z5 := Tryz.sizeOf5
  v5 := Tryz.zeroValue5
  t9 := Tryz.underlying9
  a9 := Tryz.isAgg9
  z9 := Tryz.sizeOf9
  v9 := Tryz.zeroValue9
  t46 := Tryz.underlying89
  a46 := Tryz.isAgg89
  z46 := Tryz.sizeOf89
  v46 := Tryz.zeroValue89
  t51 := Tryz.underlying54
  a51 := Tryz.isAgg54
  z51 := Tryz.sizeOf54
  v51 := Tryz.zeroValue54 }
theorem Tryz.bits_Len32 (x : Int) (w : World) (h0 : 0 ≤ x) (h1 : x ≤ 4294967295) :
    Calls Tryz.prog 123 #[.int .u32 x] w fun e w' => e = .returned (.int .i64 (Lib.bitLen x.toNat)) ∧ w' = w := Any.bits_Len32 Tryz.lays128 x w h0 h1
def Tryz.lays133_ren : Go.Shelf.Ren := ⟨fun | 133 => 113 | 128 => 123 | n => n, fun | 51 => 54 | 3 => 3 | 4 => 4 | 46 => 89 | 5 => 5 | 9 => 9 | n => n, fun | n => n⟩
theorem Tryz.lays133 : Go.Proofs.Lays.n133 Tryz.prog Tryz.lays133_ren := {
  mixed := by kernel_rfl
  f128 := Tryz.func123.trans (congrArg some (by kernel_rfl))
  f133 := Tryz.func113.trans (congrArg some (by kernel_rfl))
  t3 := Tryz.underlying3
  a3 := Tryz.isAgg3
  z3 := Tryz.sizeOf3
  v3 := Tryz.zeroValue3
  t4 := Tryz.underlying4
  a4 := Tryz.isAgg4
  z4 := Tryz.sizeOf4
  v4 := Tryz.zeroValue4
  t5 := Tryz.underlying5
  a5 := Tryz.isAgg5
  z5 := Tryz.sizeOf5
  v5 := Tryz.zeroValue5
  t9 := Tryz.underlying9
  a9 := Tryz.isAgg9
  z9 := Tryz.sizeOf9
  v9 := Tryz.zeroValue9
  t46 := Tryz.underlying89
  a46 := Tryz.isAgg89
  z46 := Tryz.sizeOf89
  v46 := Tryz.zeroValue89
  t51 := Tryz.underlying54
  a51 := Tryz.isAgg54
  z51 := Tryz.sizeOf54
  v51 := Tryz.zeroValue54 }
theorem Tryz.bits_LeadingZeros32 (x : Int) (w : World) (h0 : 0 ≤ x) (h1 : x ≤ 4294967295) :
    Calls Tryz.prog 113 #[.int .u32 x] w fun e w' => e = .returned (.int .i64 (32 - (Lib.bitLen x.toNat : Int))) ∧ w' = w := Any.bits_LeadingZeros32 Tryz.lays133 x w h0 h1
end Go.Proofs

namespace Go.Proofs.YtkafkcmhekgheaaGreatDoor.Q
open Go.RowKit NM

/-- The divisor, shifted so that its highest limb is at least half of what a limb may be. -/
theorem shifted {ys zs : List Int} {m b : Nat} (cy : Canon ys) (hl : ys.length = m) (m1 : 1 ≤ m) (hb : b = 32 - Lib.bitLen (lb ys (m - 1)).toNat) (uz : U32s zs) (hz : zs.length = m + 1) (hv : val zs = val ys * 2 ^ b) :
    b ≤ 31 ∧ tl zs zs.length = m ∧ 2147483648 ≤ lb zs (m - 1) ∧ val (zs.take m) = val ys * 2 ^ b := by
  have hne : ys ≠ [] := by intro e; rw [e] at hl; simp at hl; omega
  have h0 := Ends_lb cy.e hne
  rw [hl] at h0
  obtain ⟨r0, r1⟩ := lb_range cy.u (m - 1)
  obtain ⟨b0, b1, b2, b3⟩ := bitLen_facts (x := lb ys (m - 1)) (by omega) r1
  obtain ⟨k, hk⟩ : ∃ k, Lib.bitLen (lb ys (m - 1)).toNat = k := ⟨_, rfl⟩
  rw [hk] at b0 b1 b2 b3 hb
  have hsp := val_split ys (m - 1) (by omega)
  have hdr := val_drop (xs := ys) (k := m - 1) (by omega)
  rw [List.drop_of_length_le (show ys.length ≤ m - 1 + 1 by omega)] at hdr
  simp only [val, Int.mul_zero, Int.add_zero] at hdr
  rw [hdr] at hsp
  have t0 := val_nonneg (U32s_take cy.u (m - 1))
  have t1 := val_lt (U32s_take cy.u (m - 1))
  rw [List.length_take, Nat.min_eq_left (by omega)] at t1
  have hp := pw_pos (m - 1)
  have hP := pow_pos2 b
  have e1 : (2 : Int) ^ k * 2 ^ b = 4294967296 := by rw [← Int.pow_add, show k + b = 32 by omega]; rfl
  have e2 : (2 : Int) ^ (k - 1) * 2 ^ b = 2147483648 := by rw [← Int.pow_add, show k - 1 + b = 31 by omega]; rfl
  have up : val ys * 2 ^ b < pw m := by
    have h1 : val ys < pw (m - 1) * 2 ^ k := by
      have : pw (m - 1) * (lb ys (m - 1) + 1) ≤ pw (m - 1) * 2 ^ k := Int.mul_le_mul_of_nonneg_left (by omega) (by omega)
      rw [Int.mul_add] at this
      omega
    have h2 := Int.mul_lt_mul_of_pos_right h1 hP
    rw [Int.mul_assoc, e1, ← pw_succ', show m - 1 + 1 = m by omega] at h2
    exact h2
  have lo : pw (m - 1) * 2147483648 ≤ val ys * 2 ^ b := by
    have h1 : pw (m - 1) * 2 ^ (k - 1) ≤ val ys := by
      have : pw (m - 1) * 2 ^ (k - 1) ≤ pw (m - 1) * lb ys (m - 1) := Int.mul_le_mul_of_nonneg_left b2 (by omega)
      omega
    have h2 := Int.mul_le_mul_of_nonneg_right h1 (show (0 : Int) ≤ 2 ^ b by omega)
    rw [Int.mul_assoc, e2] at h2
    exact h2
  rw [← hv] at up lo
  have hzm := lb_zero uz up
  have hlen : tl zs zs.length = m := by
    rw [hz, tl, if_pos (hzm m (Nat.le_refl _))]
    rw [show m = (m - 1) + 1 by omega, tl, if_neg]
    intro hz0
    have h1 := val_split zs (m - 1) (by omega)
    have h2 := val_drop (xs := zs) (k := m - 1) (by omega)
    have h3 := val_drop (xs := zs) (k := m) (by omega)
    rw [show m - 1 + 1 = m by omega] at h2
    rw [hzm m (Nat.le_refl _), List.drop_of_length_le (show zs.length ≤ m + 1 by omega)] at h3
    simp only [val, Int.mul_zero, Int.add_zero] at h3
    rw [h2, h3, hz0] at h1
    have h4 := val_lt (U32s_take uz (m - 1))
    rw [List.length_take, Nat.min_eq_left (by omega)] at h4
    omega
  have hvt : val (zs.take m) = val ys * 2 ^ b := by
    rw [← hv, ← hlen, tl_val zs _ (Nat.le_refl _), List.take_length]
  refine ⟨by omega, hlen, ?_, hvt⟩
  have h1 := val_step (xs := zs) (k := m - 1) (by omega)
  rw [show m - 1 + 1 = m by omega, hvt, ← hv] at h1
  have h4 := val_lt (U32s_take uz (m - 1))
  rw [List.length_take, Nat.min_eq_left (by omega)] at h4
  have h5 := le_of_mul hp (show pw (m - 1) * 2147483648 < pw (m - 1) * (lb zs (m - 1) + 1) by rw [Int.mul_add (pw (m - 1)) _ 1]; omega)
  omega

theorem guess_m (uo vo : Option Addr) (cu cv : Nat) (us vs : List Int) (m : Nat) (w : World) (ru : Row w uo us) (rv : Row w vo vs) (hp : Pair us vs (m - 2)) (m2 : 2 ≤ m) (hm : m ≤ 16) :
    Calls Tryz.prog 115 #[.slice uo (m + 1) cu, .slice vo m cv] w fun e w' => (∃ g, e = .returned (.int .u64 g) ∧ GuessOk us vs g) ∧ Below w.heap.size w w' := by
  have h := guess_any uo vo cu cv us vs (m - 2) w ru rv hp (by omega)
  rw [show m - 2 + 3 = m + 1 by omega, show m - 2 + 2 = m by omega] at h
  exact h

set_option maxHeartbeats 1600000 in
set_option maxRecDepth 100000 in
theorem long_any (v u : Value) (N M : Int) (w : World) (h1 : Num w v N) (h2 : Num w u M) (hge : M ≤ N) (hbig : 4294967296 ≤ M) :
    Calls Tryz.prog 111 #[v, u] w fun e w' => (∃ q r, e = .returned (.tuple #[q, r]) ∧ Num w' q (N / M) ∧ Num w' r (N % M)) ∧ Below w.heap.size w w' := by
  obtain ⟨xs, ⟨ao, ca, rfl, _, ra, ux, _⟩, rx, hvx⟩ := h1
  obtain ⟨ys, ⟨bo, cb, rfl, _, rb, uy, _⟩, ry, hvy⟩ := h2
  obtain ⟨cx, lx⟩ := rightB_canon ux rx
  obtain ⟨cy, ly⟩ := rightB_canon uy ry
  have hm2 : 2 ≤ ys.length := by
    have h := val_lt uy
    by_cases h2 : 2 ≤ ys.length
    · exact h2
    · have := pw_mono (show ys.length ≤ 1 by omega)
      have e : pw 1 = 4294967296 := rfl
      omega
  have hl : ys.length ≤ xs.length := by
    by_cases h : ys.length ≤ xs.length
    · exact h
    · have := val_lt_of_len ux cy (by omega)
      omega
  obtain ⟨n, hn⟩ : ∃ n, n = xs.length := ⟨_, rfl⟩
  obtain ⟨m, hm⟩ : ∃ m, m = ys.length := ⟨_, rfl⟩
  obtain ⟨b, off, rfl, hbs, hc⟩ := rb.cells (by omega)
  have hck := hc (m - 1) (by omega)
  have hne : ys ≠ [] := by intro e; rw [e] at hm2; simp at hm2
  have htop := Ends_lb cy.e hne
  obtain ⟨t0, t1⟩ := lb_range uy (m - 1)
  rw [← hm] at htop
  obtain ⟨l0, l1, _, _⟩ := bitLen_facts (x := lb ys (m - 1)) (by omega) t1
  obtain ⟨lz, hlz⟩ : ∃ lz : Nat, lz = 32 - Lib.bitLen (lb ys (m - 1)).toNat := ⟨_, rfl⟩
  have hLZ : ∀ w, Calls Tryz.prog 113 #[.int .u32 (lb ys (m - 1))] w fun e w' => e = .returned (.int .i64 (lz : Int)) ∧ w = w' := fun w =>
    (Tryz.bits_LeadingZeros32 (lb ys (m - 1)) w t0 (by omega)).mono fun e w' ⟨he, hw⟩ => ⟨by rw [he, hlz]; congr 2; omega, hw.symm⟩
  have HLZ := Lib.hid hLZ
  have Hlz := Lib.hid hlz
  have Hn := Lib.hid hn
  have Hm := Lib.hid hm
  have Hvx := Lib.hid hvx
  have Hvy := Lib.hid hvy
  have lz31 : lz ≤ 31 := by omega
  have Hc := Lib.hid hc
  rw [← hn] at lx hl ⊢
  rw [← hm] at ly hl hm2 ⊢
  clear hLZ hlz hn hm hvx hvy hc hbig hge rx ry htop hne
  go_enter Tryz.func111, Tryz.ntmps111
  go_wp2_with fail
  refine (HLZ.out _).mono ?_
  rintro e w' ⟨rfl, rfl⟩
  go_wp2_with fail
  have hU := up_any ao ca xs lz w ra ux (by rw [← Hn.out]; omega) lz31
  rw [← Hn.out] at hU
  have HU := Lib.hid hU
  clear hU
  refine HU.out.mono ?_
  rintro e w1 ⟨us, rfl, hus, uus, vus, rfl⟩
  have Hus := Lib.hid hus
  have Vus := Lib.hid vus
  clear hus vus HU
  have b1 : Below w.heap.size w (w.alloc (.cells (arr us) 54)) := (Below.refl _ _).alloc (Nat.le_refl _) _
  go_wp2_with fail
  have hV := up_any _ cb ys lz _ (rb.below b1) uy (by rw [← Hm.out]; omega) lz31
  rw [← Hm.out] at hV
  have HV := Lib.hid hV
  clear hV
  refine HV.out.mono ?_
  rintro e w2 ⟨zs, rfl, hzs, uzs, vzs, rfl⟩
  obtain ⟨_, sh1, sh2, sh3⟩ := shifted (m := m) (b := lz) cy (by rw [← Hm.out]) (by omega) Hlz.out uzs hzs vzs
  have Hzs := Lib.hid hzs
  have S3 := Lib.hid sh3
  have hrow2 := arr_row (w.alloc (.cells (arr us) 54)) zs 54
  have hT := trim_any _ (m + 1) zs _ hrow2 (by omega) (by omega)
  rw [sh1, hzs, show (w.alloc (.cells (arr us) 54)).heap.size = w.heap.size + 1 by simp] at hT
  have HT := Lib.hid hT
  clear hzs vzs HV hT sh1 sh3 hrow2
  have hmk : ∀ wx, (Instr.makeSlice 47 (.int .i64 ((n : Int) - (m : Int) + 1)) (.int .i64 ((n : Int) - (m : Int) + 1))).run Tryz.prog wx = .ok (.slice (some ⟨wx.heap.size, 0, none⟩) (n - m + 1) (n - m + 1)) (wx.alloc (.cells (arr (List.replicate (n - m + 1) 0)) 54)) := by
    have := make_nat (n - m + 1) (by omega)
    rw [show ((n - m + 1 : Nat) : Int) = (n : Int) - (m : Int) + 1 by omega] at this
    exact this
  go_wp2_with fail
  refine HT.out.mono ?_
  rintro e w3 ⟨rfl, rfl⟩
  obtain ⟨V, hVd⟩ : ∃ V, V = val (zs.take m) := ⟨_, rfl⟩
  have HVd := Lib.hid hVd
  clear hVd
  have hvl : (zs.take m).length = m := by rw [List.length_take, Hzs.out]; omega
  have Hvl := Lib.hid hvl
  clear hvl
  -- what holds at the loop's head at first
  have hA : Hid (val us < pw (n - m + 1) * V) := Lib.hid (by
    rw [HVd.out, S3.out, Vus.out]
    have hP := pow_pos2 lz
    have h1 := val_lt ux
    rw [← Hn.out] at h1
    have h2 := val_ge_of_last cy (by intro e; have := Hm.out; rw [e] at this; simp at this; omega)
    rw [← Hm.out] at h2
    have h3 : pw (n - m + 1) * pw (m - 1) ≤ pw (n - m + 1) * val ys := Int.mul_le_mul_of_nonneg_left h2 (by have := pw_pos (n - m + 1); omega)
    rw [← pw_add, show n - m + 1 + (m - 1) = n by omega] at h3
    have h4 := Int.mul_lt_mul_of_pos_right (show val xs < pw (n - m + 1) * val ys by omega) hP
    rw [Int.mul_assoc] at h4
    exact h4)
  have r0 : RowAt (((w.alloc (.cells (arr us) 54)).alloc (.cells (arr zs) 54)).alloc (.cells (arr (List.replicate (n - m + 1) 0)) 54)) w.heap.size us := ((RowAt.new w us).below ((Below.refl _ _).alloc (Nat.le_refl _) _)).below ((Below.refl _ _).alloc (Nat.le_refl _) _)
  have r1 : RowAt (((w.alloc (.cells (arr us) 54)).alloc (.cells (arr zs) 54)).alloc (.cells (arr (List.replicate (n - m + 1) 0)) 54)) (w.heap.size + 1) zs := by
    have := (RowAt.new (w.alloc (.cells (arr us) 54)) zs).below ((Below.refl _ _).alloc (Nat.le_refl _) (.cells (arr (List.replicate (n - m + 1) 0)) 54))
    simpa using this
  have r2 : RowAt (((w.alloc (.cells (arr us) 54)).alloc (.cells (arr zs) 54)).alloc (.cells (arr (List.replicate (n - m + 1) 0)) 54)) (w.heap.size + 1 + 1) (List.replicate (n - m + 1) 0) := by
    have := RowAt.new ((w.alloc (.cells (arr us) 54)).alloc (.cells (arr zs) 54)) (List.replicate (n - m + 1) 0)
    simpa using this
  have bl0 : Below w.heap.size w (((w.alloc (.cells (arr us) 54)).alloc (.cells (arr zs) 54)).alloc (.cells (arr (List.replicate (n - m + 1) 0)) 54)) := (b1.alloc b1.size _).alloc (b1.alloc b1.size _).size _
  have R0 := Lib.hid r0
  have R1 := Lib.hid r1
  have R2 := Lib.hid r2
  have BL := Lib.hid bl0
  clear r0 r1 r2 bl0 b1
  go_wp2_with fail
  go_loopw [10, 11] (fun i _ wr => ∃ k : Nat, ∃ uz qs : List Int, k ≤ n - m + 1 ∧ i = .int .i64 ((k : Int) - 1) ∧ uz.length = n + 1 ∧ qs.length = n - m + 1 ∧ U32s uz ∧ U32s qs ∧ Hid (val uz < pw k * V) ∧ Hid (val us = val uz + pw k * (V * val (qs.drop k))) ∧ Hid (RowAt wr w.heap.size uz) ∧ Hid (RowAt wr (w.heap.size + 1) zs) ∧ Hid (RowAt wr (w.heap.size + 1 + 1) qs) ∧ Hid (Below w.heap.size w wr)) (fun i _ _ => (intOf i + 1).toNat)
  case atStart => exact ⟨n - m + 1, us, List.replicate (n - m + 1) 0, Nat.le_refl _, by congr 1; omega, Hus.out, by simp, uus, U32s_replicate _, hA, Lib.hid (by rw [List.drop_of_length_le (by simp)]; simp [val]), R0, R1, R2, BL⟩
  case round =>
    obtain ⟨k, uz, qs, hk, rfl, hul, hql, uuz, uqs, hlt, heq, q0, q1, q2, qb⟩ := hrel
    rename_i wr
    cases k with
    | zero =>
      have hP := pow_pos2 lz
      have e1 : val us = val uz + V * val qs := by have := heq.out; simpa [pw] using this
      have l0 := val_nonneg uuz
      have l1 : val uz < V := by have := hlt.out; simpa [pw] using this
      have hVM : V = M * 2 ^ lz := by rw [HVd.out, S3.out, Hvy.out]
      have hUN : val us = N * 2 ^ lz := by rw [Vus.out, Hvx.out]
      have V0 : 0 < V := by omega
      have hq : val qs = N / M := by
        have h1 : val us / V = val qs := by rw [e1, Int.add_mul_ediv_left _ _ (by omega), Int.ediv_eq_zero_of_lt l0 l1, Int.zero_add]
        rw [← h1, hUN, hVM, Int.mul_ediv_mul_of_pos_left _ _ hP]
      have hr : val uz / 2 ^ lz = N % M := by
        have h1 : val us % V = val uz := by rw [e1, Int.add_mul_emod_self_left, Int.emod_eq_of_lt l0 l1]
        rw [← h1, hUN, hVM, Int.mul_comm N, Int.mul_comm M, Int.mul_emod_mul_of_pos _ _ hP, Int.mul_ediv_cancel_left _ (by omega)]
      have M0 : 0 < M := by
        rcases Int.lt_or_le 0 M with h | h
        · exact h
        · have : M * 2 ^ lz ≤ 0 := Int.mul_nonpos_of_nonpos_of_nonneg h (by omega)
          omega
      have hsm : val uz / 2 ^ lz < pw 16 := by
        rw [hr]
        have h1 := Int.emod_lt_of_pos N M0
        have h2 := val_lt uy
        rw [← Hm.out, Hvy.out] at h2
        have := pw_mono ly
        omega
      have rq : Row wr (some ⟨w.heap.size + 1 + 1, 0, none⟩) qs := by have := q2.out.row 0; simpa using this
      have ru : Row wr (some ⟨w.heap.size, 0, none⟩) uz := by have := q0.out.row 0; simpa using this
      have hnum := trimmed_num rq uqs (cap := n - m + 1) (by omega) (by have := tl_le qs qs.length; omega)
      rw [hq, hql] at hnum
      have Hnum := Lib.hid hnum
      have hT := trim_any _ (n - m + 1) qs wr rq (by omega) (by omega)
      rw [hql] at hT
      have HT' := Lib.hid hT
      have hD := down_any _ (n + 1) uz lz wr ru uuz (by omega) lz31 hsm
      rw [hul, hr] at hD
      have HD := Lib.hid hD
      have QB := qb
      clear hnum hT hD hsm M0 hr hq hVM hUN e1 l1 V0 l0 hP rq ru
      go_wp2_with fail
      refine HT'.out.mono ?_
      rintro e w4 ⟨rfl, rfl⟩
      go_wp2_with fail
      refine HD.out.mono ?_
      rintro e w5 ⟨⟨r, rfl, hr⟩, hb5⟩
      have Hr := Lib.hid hr
      have Hnum2 := Lib.hid (Hnum.out.below hb5)
      have Hb5 := Lib.hid (QB.out.trans (hb5.mono QB.out.size))
      clear hr hb5
      go_wp2_with fail
      go_ret2
      exact ⟨⟨_, r, rfl, Hnum2.out, Hr.out⟩, Hb5.out⟩
    | succ j =>
      have e1 : ((j + 1 : Nat) : Int) - 1 = j := by omega
      rw [e1]
      clear e1
      have hR : Rnd uz (zs.take m) j m := ⟨uuz, U32s_take uzs m, Hvl.out, hm2, by omega, by rw [lb_take (by omega)]; exact sh2, by rw [← HVd.out]; exact hlt.out⟩
      have HR := Lib.hid hR
      have rowu : Row wr (some ⟨w.heap.size, j, none⟩) (seg uz j m) := (q0.out.row j).take (m + 1)
      have rowv : Row wr (some ⟨w.heap.size + 1, 0, none⟩) (zs.take m) := by have := (q1.out.row 0).take m; simpa using this
      have hG := guess_m (some ⟨w.heap.size, j, none⟩) (some ⟨w.heap.size + 1, 0, none⟩) (n + 1 - j) (m + 1) (seg uz j m) (zs.take m) m wr rowu rowv hR.pair hm2 ly
      have HG := Lib.hid hG
      have ej : j + m + 1 - j = m + 1 := by omega
      clear hG hR rowu
      go_wp2_with fail
      refine HG.out.mono ?_
      rintro e wg ⟨⟨g, rfl, hg⟩, hbg⟩
      obtain ⟨g0, g1, -, -⟩ := id hg
      have Hg := Lib.hid hg
      have q0' := Lib.hid (q0.out.below hbg)
      have q1' := Lib.hid (q1.out.below hbg)
      have q2' := Lib.hid (q2.out.below hbg)
      have qb' := Lib.hid (qb.out.trans (hbg.mono qb.out.size))
      have hT2 := take_any w.heap.size j (n + 1 - j) (m + 1) (some ⟨w.heap.size + 1, 0, none⟩) uz (zs.take m) m g wg q0'.out (rowv.below hbg) (by intro b o h; simp at h; omega) uuz (U32s_take uzs m) Hvl.out (by omega) (by omega) (by omega) g0 g1
      have HT2 := Lib.hid hT2
      clear hT2 hg q0 q1 q2 qb HG rowv hbg
      go_wp2_with fail
      refine HT2.out.mono ?_
      rintro e wt ⟨bo, u1, rfl, ht, row1, only1⟩
      have hne1 : w.heap.size + 1 ≠ w.heap.size := by omega
      have hne2 : w.heap.size + 1 + 1 ≠ w.heap.size := by omega
      have p1 := Lib.hid (q1'.out.other only1 hne1)
      have p2 := Lib.hid (q2'.out.other only1 hne2)
      have pb := Lib.hid (qb'.out.trans (only1.below (Nat.le_refl _) qb'.out.size))
      have Row1 := Lib.hid row1
      have cases2 := HR.out.took Hg.out ht
      have hnext := fun X hX => HR.out.next (X := X) hX
      have Hnx := Lib.hid hnext
      have Htk := Lib.hid ht
      clear q0' q1' q2' qb' HT2 row1 only1 hnext ht
      obtain ⟨Q, hQ⟩ : ∃ Q, val (seg uz j m) / val (zs.take m) = Q := ⟨_, rfl⟩
      have HQ := Lib.hid hQ
      rw [hQ] at cases2
      clear hQ
      -- what holds at the next head
      have fin : ∀ u2 : List Int, val u2 = val uz - pw j * (Q * val (zs.take m)) → 0 ≤ Q ∧ Q < 4294967296 ∧ val u2 < pw j * V ∧ val us = val u2 + pw j * (V * val ((qs.set j Q).drop j)) := by
        intro u2 h2
        have h3 := Hnx.out (val u2) (by rw [HQ.out]; exact h2)
        rw [HQ.out] at h3
        refine ⟨h3.2.1, h3.2.2, by rw [HVd.out]; exact h3.1, ?_⟩
        rw [heq.out, h2, drop_set _ (by omega), val, HVd.out, pw_succ', Int.mul_add (val (zs.take m)), Int.mul_add (pw j)]
        have e2 : pw j * 4294967296 * (val (zs.take m) * val (qs.drop (j + 1))) = pw j * (val (zs.take m) * (4294967296 * val (qs.drop (j + 1)))) := by ac_rfl
        have e3 : pw j * (val (zs.take m) * Q) = pw j * (Q * val (zs.take m)) := by ac_rfl
        rw [e2, e3]
        omega
      have Fin := Lib.hid fin
      clear fin
      rcases cases2 with ⟨rfl, rfl, hval⟩ | ⟨rfl, rfl, hval⟩
      · have hF := Fin.out u1 hval
        obtain ⟨f0, f1, f2, f3⟩ := hF
        have F2 := Lib.hid f2
        have F3 := Lib.hid f3
        have ck := p2.out.cell (k := j) (by omega)
        have fk := p2.out.free j
        have Hval := Lib.hid hval
        clear f2 f3 hval ej
        go_wp2_with fail
        go_roundw
        case rel =>
          refine ⟨j, u1, qs.set j g, by omega, rfl, ?_, by simpa using hql, Htk.out.2.1, U32s_set uqs _ f0 f1, F2, F3, ?_, ?_, ?_, ?_⟩
          · rw [Htk.out.1]; exact hul
          · exact Lib.hid (Row1.out.other ((OnlyB.refl _ _).set _ _) (by omega))
          · exact Lib.hid (p1.out.other ((OnlyB.refl _ _).set _ _) (by omega))
          · exact Lib.hid (p2.out.set _ _)
          · exact Lib.hid (pb.out.setCell (by simp; omega) _)
        case measure => simp [intOf]
      · have hF := fun u2 h => Fin.out u2 h
        have Hval := Lib.hid hval
        have hgv := give_any w.heap.size j (n + 1 - j) (m + 1) (some ⟨w.heap.size + 1, 0, none⟩) u1 (zs.take m) m wt Row1.out (by have := (p1.out.row 0).take m; simpa using this) (by intro b o h; simp at h; omega) Htk.out.2.1 (U32s_take uzs m) Hvl.out (by omega) (by rw [Htk.out.1]; omega) (by rw [Htk.out.1]; omega)
        have HGV := Lib.hid hgv
        have HF := Lib.hid hF
        have hQ0 : 0 ≤ Q ∧ Q < 4294967296 := by
          have h3 := Hnx.out _ rfl
          rw [HQ.out] at h3
          exact h3.2
        obtain ⟨qq0, qq1⟩ := hQ0
        have eg : Q + 1 - 1 = Q := by omega
        clear hF hval hgv
        go_wp2_with fail
        refine HGV.out.mono ?_
        rintro e wz ⟨co, u2, rfl, hgive, row2, only2⟩
        have p1' := Lib.hid (p1.out.other only2 hne1)
        have p2' := Lib.hid (p2.out.other only2 hne2)
        have pb' := Lib.hid (pb.out.trans (only2.below (Nat.le_refl _) pb.out.size))
        have Row2 := Lib.hid row2
        have Hgive := Lib.hid hgive
        obtain ⟨f0, f1, f2, f3⟩ := HF.out u2 (Hval.out co u2 hgive)
        have F2 := Lib.hid f2
        have F3 := Lib.hid f3
        have ck := p2'.out.cell (k := j) (by omega)
        have fk := p2'.out.free j
        clear f2 f3 row2 only2 hgive ej eg p1 p2 pb HGV
        go_wp2_with fail
        go_roundw
        case rel =>
          refine ⟨j, u2, qs.set j Q, by omega, rfl, ?_, by simpa using hql, Hgive.out.2.1, U32s_set uqs _ f0 f1, F2, F3, ?_, ?_, ?_, ?_⟩
          · rw [Hgive.out.1, Htk.out.1]; exact hul
          · exact Lib.hid (Row2.out.other ((OnlyB.refl _ _).set _ _) (by omega))
          · exact Lib.hid (p1'.out.other ((OnlyB.refl _ _).set _ _) (by omega))
          · exact Lib.hid (p2'.out.set _ _)
          · exact Lib.hid (pb'.out.setCell (by simp; omega) _)
        case measure => simp [intOf]
end Go.Proofs.YtkafkcmhekgheaaGreatDoor.Q

namespace Go.Proofs.YtkafkcmhekgheaaGreatDoor.Q
open Go.RowKit NM

/-- A row that an append has made is a slice of limbs. -/
theorem own_sl {w : World} {base : Nat} {v : Value} {n : Nat} {xs : List Int} (h : w.ownsRow base 54 1 v n (xs.map (Value.int .u32))) (hn : xs.length = n) (uu : U32s xs) (hl : xs.length ≤ 1000000) : Sl w v xs := by
  obtain ⟨h1, h2⟩ := h
  rcases h2 with ⟨rfl, h0⟩ | ⟨g, cap, cur, rfl, hg, hh, h3, h4, h5, h6⟩
  · have : xs = [] := List.eq_nil_of_length_eq_zero (by omega)
    subst this
    exact ⟨none, 0, rfl, Nat.le_refl _, .inl rfl, U32s_nil, by simp, fun _ => rfl⟩
  · refine ⟨some ⟨g, 0, none⟩, cap, by rw [hn], by omega, ?_, uu, by omega, fun h => by cases h⟩
    by_cases he : xs = []
    · exact .inl he
    · refine .inr ⟨g, 0, rfl, lt_of_block hh, fun i hi => ?_⟩
      rw [Nat.zero_add]
      simp only [World.cell?, hh, Option.isSome_none, Bool.false_eq_true, if_false]
      have e : cur[i]? = (cur.toList.take (n * 1))[i]? := by
        rw [List.getElem?_take_of_lt (by omega)]
        simp
      rw [e, h6]
      simp [lb, hi]

set_option maxHeartbeats 800000 in
set_option maxRecDepth 100000 in
theorem div_zero (v u : Value) (N : Int) (w : World) (h1 : Num w v N) (h2 : Num w u 0) :
    Calls Tryz.prog 103 #[v, u] w fun e w' => e = .returned (.tuple #[.slice none 0 0, .slice none 0 0, .int .i64 4]) ∧ Below w.heap.size w w' := by
  have R1 := Lib.hid (right_num h1)
  have R2 := Lib.hid (right_num h2)
  obtain ⟨ys, ⟨bo, cb, rfl, _, rb, uy, _⟩, ry, hvy⟩ := h2
  have hy : ys = [] := by
    by_cases h : ys = []
    · exact h
    · have := val_pos (rightB_canon uy ry).1 h
      omega
  subst hy
  clear h1 rb uy ry hvy
  go_enter Tryz.func103, Tryz.ntmps103
  go_wp2_with fail
  refine R1.out.mono ?_
  rintro e w' ⟨rfl, rfl⟩
  go_wp2_with fail
  refine R2.out.mono ?_
  rintro e w' ⟨rfl, rfl⟩
  go_wp2_with fail
  go_ret3
  exact ⟨rfl, Below.refl _ _⟩

theorem Num.len {w : World} {v : Value} {N : Int} (h : Num w v N) : ∃ ao n cap, v = .slice ao n cap ∧ n ≤ 16 ∧ (n = 0 ↔ N = 0) ∧ (n = 1 → ∃ b off, ao = some ⟨b, off, none⟩ ∧ w.cell? ⟨b, off, none⟩ = some (.int .u32 N) ∧ N < 4294967296) ∧ (2 ≤ n → 4294967296 ≤ N) := by
  obtain ⟨xs, ⟨ao, ca, rfl, _, ra, ux, _⟩, rx, rfl⟩ := h
  obtain ⟨cx, lx⟩ := rightB_canon ux rx
  refine ⟨ao, _, ca, rfl, lx, ?_, ?_, ?_⟩
  · constructor
    · intro h
      rw [List.eq_nil_of_length_eq_zero h]
      rfl
    · intro h
      by_cases he : xs = []
      · rw [he]; rfl
      · have := val_pos cx he; omega
  · intro h
    obtain ⟨b, off, rfl, _, hc⟩ := ra.cells (by omega)
    have h0 := hc 0 (by omega)
    match xs, h with
    | [x], _ =>
      have := ux x (by simp)
      refine ⟨b, off, rfl, ?_, by simp [val]; omega⟩
      rw [Nat.add_zero] at h0
      rw [h0]
      simp [lb, val]
  · intro h
    have h1 := val_ge_of_last cx (by intro e; rw [e] at h; simp at h)
    have h2 := pw_mono (show 1 ≤ xs.length - 1 by omega)
    have e : pw 1 = 4294967296 := rfl
    omega

set_option maxHeartbeats 800000 in
set_option maxRecDepth 100000 in
theorem div_less (v u : Value) (N M : Int) (w : World) (h1 : Num w v N) (h2 : Num w u M) (hlt : N < M) :
    Calls Tryz.prog 103 #[v, u] w fun e w' => (∃ r, e = .returned (.tuple #[.slice none 0 0, r, .int .i64 0]) ∧ Num w' r N) ∧ Below w.heap.size w w' := by
  have R1 := Lib.hid (right_num h1)
  have R2 := Lib.hid (right_num h2)
  have hC := compare_num h1 h2
  rw [show sgn N M = -1 by rw [sgn, if_pos hlt]] at hC
  have C := Lib.hid hC
  have hr := h1.range
  obtain ⟨bo, nb, cb, rfl, hb16, hb0, -, -⟩ := h2.len
  have hbn : ((nb : Int) == 0) = false := by
    rw [beq_eq_false_iff_ne]
    intro h
    have := hb0.1 (by omega)
    omega
  have H1 := Lib.hid h1
  obtain ⟨xs, ⟨ao, ca, rfl, hca, ra, ux, _, hao⟩, rx, hvx⟩ := h1
  obtain ⟨cx, lx⟩ := rightB_canon ux rx
  have Hvx := Lib.hid hvx
  have Hrx := Lib.hid rx
  obtain ⟨i0, hi, hz0, hz1, hz2⟩ := info_parts info_u32
  clear hvx rx hC h2 hb0 hlt hb16
  cases ao with
  | none =>
    have h0 := hao rfl
    have h00 : xs.length = 0 := by omega
    subst h0
    have hx0 : xs = [] := List.eq_nil_of_length_eq_zero h00
    subst hx0
    have Hao := Lib.hid hao
    clear hao h00
    go_enter Tryz.func103, Tryz.ntmps103
    go_wp2_with fail
    refine R1.out.mono ?_
    rintro e w' ⟨rfl, rfl⟩
    go_wp2_with fail
    refine R2.out.mono ?_
    rintro e w' ⟨rfl, rfl⟩
    go_wp2_with fail
    refine C.out.mono ?_
    rintro e w1 ⟨rfl, hb⟩
    go_wp2_with (at_builtin; refine wpList_append_own_none rfl _ _ 47 rfl w1.heap.size 54 i0 1 Tryz.underlying47 hi _ 0 [] rfl ⟨by simp, .inl ⟨rfl, rfl⟩⟩ rfl ?_)
    go_wp2_with fail
    go_ret3
    exact ⟨⟨_, rfl, by rw [← Hvx.out]; exact Num_nil _⟩, hb⟩
  | some ad =>
    have Hao := Lib.hid hao
    clear hao
    obtain ⟨n, hn⟩ : ∃ n, n = xs.length := ⟨_, rfl⟩
    rw [← hn] at lx R1 C ⊢
    have Hn := Lib.hid hn
    clear hn
    go_enter Tryz.func103, Tryz.ntmps103
    go_wp2_with fail
    refine R1.out.mono ?_
    rintro e w' ⟨rfl, rfl⟩
    go_wp2_with fail
    refine R2.out.mono ?_
    rintro e w' ⟨rfl, rfl⟩
    go_wp2_with fail
    refine C.out.mono ?_
    rintro e w1 ⟨rfl, hb⟩
    have ra1 := ra.below hb
    go_wp2_with (at_builtin; refine wpList_append_own _ rfl _ _ 47 rfl w1.heap.size 54 i0 (.int .u32 0) 1 4 Tryz.underlying47 hi hz0 hz1 hz2 rfl (by decide) _ 0 [] rfl ⟨by simp, .inl ⟨rfl, rfl⟩⟩ ad n ca (xs.map (Value.int .u32)) rfl ?c1 ?c2 ?c3 ?c4 ?c5 ?c6 ?_)
    case c1 => simp [Hn.out]
    case c2 =>
      intro j u hj
      by_cases hjl : j < xs.length
      · obtain ⟨b, off, e, _, hc⟩ := ra1.cells (by omega)
        cases e
        have h1 := hc j hjl
        rw [List.getElem?_map, List.getElem?_eq_getElem hjl] at hj
        simp at hj
        rw [← hj, ← lb_eq hjl]
        by_cases hj0 : j = 0
        · subst hj0; simpa [Addr.add] using h1
        · simpa [Addr.add, hj0] using h1
      · rw [List.getElem?_eq_none (by simp; omega)] at hj
        cases hj
    case c3 =>
      intro u hu
      simp at hu
      obtain ⟨a, _, rfl⟩ := hu
      rfl
    case c4 => unfold maxLen; omega
    case c5 => omega
    case c6 => exact Nat.le_refl _
    intro v' w2 hown hgrow _
    have hsl := own_sl (xs := xs) (n := n) (by simpa using hown) Hn.out.symm ux (by rw [← Hn.out]; omega)
    have hnum : Num w2 v' N := ⟨xs, hsl, Hrx.out, Hvx.out⟩
    have Hnum := Lib.hid hnum
    have hb2 : Below w.heap.size w w2 := hb.grown hgrow hb.size (by intro k hk; simp [Value.ownBlock] at hk)
    clear hown hgrow hsl hnum
    go_wp2_with fail
    go_ret3
    exact ⟨⟨_, rfl, Hnum.out⟩, hb2⟩

set_option maxHeartbeats 800000 in
set_option maxRecDepth 100000 in
theorem div_more (v u : Value) (N M : Int) (w : World) (h1 : Num w v N) (h2 : Num w u M) (hle : M ≤ N) (hpos : 0 < M) :
    Calls Tryz.prog 103 #[v, u] w fun e w' => (∃ q r, e = .returned (.tuple #[q, r, .int .i64 0]) ∧ Num w' q (N / M) ∧ Num w' r (N % M)) ∧ Below w.heap.size w w' := by
  have R1 := Lib.hid (right_num h1)
  have R2 := Lib.hid (right_num h2)
  have hC := compare_num h1 h2
  have hsg : 0 ≤ sgn N M := by rw [sgn]; split <;> (try split) <;> omega
  obtain ⟨sg, hsgd⟩ : ∃ sg, sgn N M = sg := ⟨_, rfl⟩
  rw [hsgd] at hC hsg
  have C := Lib.hid hC
  have hr := h1.range
  have H1 := Lib.hid h1
  have H2 := Lib.hid h2
  obtain ⟨ao, na, ca, rfl, -, -, -, -⟩ := h1.len
  obtain ⟨bo, nb, cb, rfl, hb16, hb0, hb1, hb2⟩ := h2.len
  have hbn : ((nb : Int) == 0) = false := by
    rw [beq_eq_false_iff_ne]
    intro h
    have := hb0.1 (by omega)
    omega
  by_cases hone : nb = 1
  · subst hone
    obtain ⟨b, off, rfl, hc, hM⟩ := hb1 rfl
    clear hb0 hb1 hb2 hC hsgd h1 h2
    go_enter Tryz.func103, Tryz.ntmps103
    go_wp2_with fail
    refine R1.out.mono ?_
    rintro e w' ⟨rfl, rfl⟩
    go_wp2_with fail
    refine R2.out.mono ?_
    rintro e w' ⟨rfl, rfl⟩
    go_wp2_with fail
    refine C.out.mono ?_
    rintro e w1 ⟨rfl, hbl⟩
    have hbw : b < w.heap.size := by
      by_cases h : b < w.heap.size
      · exact h
      · rw [World.cell?, Array.getElem?_eq_none (show w.heap.size ≤ b by omega)] at hc
        cases hc
    have hc1 : w1.cell? ⟨b, off, none⟩ = some (.int .u32 M) := by rw [hbl.cell (p := ⟨b, off, none⟩) hbw]; exact hc
    have hS := short_num _ N M w1 (H1.out.below hbl) hpos hM
    have HS := Lib.hid hS
    clear hS
    go_wp2_with fail
    refine HS.out.mono ?_
    rintro e w2 ⟨⟨q, rfl, hq⟩, hb2⟩
    have hm0 := Int.emod_nonneg N (show M ≠ 0 by omega)
    have hm1 := Int.emod_lt_of_pos N hpos
    have Hq := Lib.hid hq
    have hO := of_num (N % M) w2 hm0 (by omega)
    have HO := Lib.hid hO
    clear hq hO
    go_wp2_with fail
    refine HO.out.mono ?_
    rintro e w3 ⟨⟨r, rfl, hr3⟩, hb3⟩
    have Hq3 := Lib.hid (Hq.out.below hb3)
    have Hr3 := Lib.hid hr3
    have bl3 : Below w.heap.size w w3 := (hbl.trans (hb2.mono hbl.size)).trans (hb3.mono (Nat.le_trans hbl.size hb2.size))
    clear hr3 hb3 hb2
    go_wp2_with fail
    go_ret3
    exact ⟨⟨q, r, rfl, Hq3.out, Hr3.out⟩, bl3⟩
  · have hbn1 : ((nb : Int) == 1) = false := by rw [beq_eq_false_iff_ne]; omega
    have hnb0 : nb ≠ 0 := by intro h; have := hb0.1 h; omega
    have hbig := hb2 (by omega)
    clear hb0 hb1 hb2 hC hsgd h1 h2 hone hnb0
    go_enter Tryz.func103, Tryz.ntmps103
    go_wp2_with fail
    refine R1.out.mono ?_
    rintro e w' ⟨rfl, rfl⟩
    go_wp2_with fail
    refine R2.out.mono ?_
    rintro e w' ⟨rfl, rfl⟩
    go_wp2_with fail
    refine C.out.mono ?_
    rintro e w1 ⟨rfl, hbl⟩
    have hL := long_any _ _ N M w1 (H1.out.below hbl) (H2.out.below hbl) hle hbig
    have HL := Lib.hid hL
    clear hL
    go_wp2_with fail
    refine HL.out.mono ?_
    rintro e w2 ⟨⟨q, r, rfl, hq, hr2⟩, hb2⟩
    have Hq := Lib.hid hq
    have Hr := Lib.hid hr2
    have bl2 : Below w.heap.size w w2 := hbl.trans (hb2.mono hbl.size)
    clear hq hr2 hb2
    go_wp2_with fail
    go_ret3
    exact ⟨⟨q, r, rfl, Hq.out, Hr.out⟩, bl2⟩

/-- Division, all together: by what is not 0. -/
theorem div_num (v u : Value) (N M : Int) (w : World) (h1 : Num w v N) (h2 : Num w u M) (hpos : 0 < M) :
    Calls Tryz.prog 103 #[v, u] w fun e w' => (∃ q r, e = .returned (.tuple #[q, r, .int .i64 0]) ∧ Num w' q (N / M) ∧ Num w' r (N % M)) ∧ Below w.heap.size w w' := by
  by_cases h : M ≤ N
  · exact div_more v u N M w h1 h2 h hpos
  · have hr := h1.range
    refine (div_less v u N M w h1 h2 (by omega)).mono ?_
    rintro e w' ⟨⟨r, rfl, hn⟩, hb⟩
    refine ⟨⟨_, r, rfl, ?_, ?_⟩, hb⟩
    · rw [Int.ediv_eq_zero_of_lt hr.1 (by omega)]; exact Num_nil _
    · rw [Int.emod_eq_of_lt hr.1 (by omega)]; exact hn
end Go.Proofs.YtkafkcmhekgheaaGreatDoor.Q

