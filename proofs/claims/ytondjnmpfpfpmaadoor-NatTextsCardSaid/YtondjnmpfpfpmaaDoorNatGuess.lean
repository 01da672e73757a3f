/- The guess of a quotient's limb: the walk. -/
import Derived.Test.YtondjnmpfpfpmaaDoorNatDown
import Derived.Test.YtondjnmpfpfpmaaDoorNatKnuth
namespace Go.Proofs.YtondjnmpfpfpmaaDoor
open Go.RowKit NM

/-- What the guess is good for. -/
def GuessOk (us vs : List Int) (g : Int) : Prop := 0 ≤ g ∧ g < 4294967296 ∧ val us / val vs ≤ g ∧ g ≤ val us / val vs + 1

set_option maxHeartbeats 4000000 in
set_option maxRecDepth 100000 in
theorem guess_any (uo vo : Option Addr) (cu cv : Nat) (us vs : List Int) (k : Nat) (w : World) (ru : Row w uo us) (rv : Row w vo vs) (hp : Pair us vs k) (hk : k ≤ 16) :
    Calls Tryd.prog 52 #[.slice uo (k + 3) cu, .slice vo (k + 2) cv] w fun e w' => (∃ g, e = .returned (.int .u64 g) ∧ GuessOk us vs g) ∧ Below w.heap.size w w' := by
  obtain ⟨ub, uoff, rfl, hub, hcu⟩ := ru.cells (by have := hp.lu; omega)
  obtain ⟨vb, voff, rfl, hvb, hcv⟩ := rv.cells (by have := hp.lv; omega)
  have cu2 := hcu (k + 2) (by have := hp.lu; omega)
  have cu1 := hcu (k + 1) (by have := hp.lu; omega)
  have cu0 := hcu k (by have := hp.lu; omega)
  have cv1 := hcv (k + 1) (by have := hp.lv; omega)
  have cv0 := hcv k (by have := hp.lv; omega)
  clear hcu hcv
  obtain ⟨a2, b2⟩ := lb_range hp.uu (k + 2)
  obtain ⟨a1, b1⟩ := lb_range hp.uu (k + 1)
  obtain ⟨a0, b0⟩ := lb_range hp.uu k
  obtain ⟨c1, d1⟩ := lb_range hp.uv (k + 1)
  obtain ⟨c0, d0⟩ := lb_range hp.uv k
  have htop := hp.top
  have hq1 := hp.q_lt
  have hq0 := hp.q_nonneg
  have hfirst := hp.first
  have hor := or_u64 a2 b2 a1 b1
  obtain ⟨T, hT⟩ : ∃ T, lb us (k + 2) * 4294967296 + lb us (k + 1) = T := ⟨_, rfl⟩
  rw [hT] at hor hfirst
  have T0 : 0 ≤ T := by omega
  have T1 : T < 18446744073709551616 := by omega
  have htd : T.tdiv (lb vs (k + 1)) = T / lb vs (k + 1) := Int.tdiv_eq_ediv_of_nonneg T0
  have htm : T.tmod (lb vs (k + 1)) = T % lb vs (k + 1) := Int.tmod_eq_emod_of_nonneg T0
  have hem := Int.ediv_mul_add_emod T (lb vs (k + 1))
  have hr0 := Int.emod_nonneg T (show lb vs (k + 1) ≠ 0 by omega)
  have hr1 := Int.emod_lt_of_pos T (show 0 < lb vs (k + 1) by omega)
  obtain ⟨G, hG⟩ : ∃ G, T / lb vs (k + 1) = G := ⟨_, rfl⟩
  obtain ⟨L, hL⟩ : ∃ L, T % lb vs (k + 1) = L := ⟨_, rfl⟩
  have G0 : 0 ≤ G := by rw [← hG]; exact Int.ediv_nonneg T0 (by omega)
  rw [hL] at htm hem hr0 hr1
  rw [hG] at htd hem hfirst
  have G1 : G ≤ 8589934592 := by
    have h1 : G * 2147483648 ≤ G * lb vs (k + 1) := Int.mul_le_mul_of_nonneg_left htop G0
    omega
  have hwr : IntKind.u64.wrap G = G := wrap_in G0 (by omega)
  have HT := Lib.hid hT
  have HGL := Lib.hid hem
  have Hf := Lib.hid hfirst
  have Hq1 := Lib.hid hq1
  have L1 : L < 4294967296 := by omega
  have HL := Lib.hid hL
  clear hT ru rv hG hL hem T1 hr1 hfirst hq1 hq0
  go_enter Tryd.func52, Tryd.ntmps52
  go_wp2_with fail
  go_quiet (fail)
  go_wp2_with fail
  go_quiet (fail)
  go_wp2_with fail
  go_loopw [7, 8] (fun cg cl wr => ∃ g l : Int, cg = .int .u64 g ∧ cl = .int .u64 l ∧ 0 ≤ g ∧ g ≤ 8589934592 ∧ 0 ≤ l ∧ l < 4294967296 ∧ Hid (g * lb vs (k + 1) + l = T) ∧ Hid (val us / val vs ≤ g) ∧ Below w.heap.size w wr) (fun cg _ _ => (intOf cg).toNat)
  case atStart => exact ⟨G, L, rfl, rfl, G0, G1, hr0, L1, HGL, Hf, by first | exact below_drewN (below_drewN (Below.refl _ _) _) _ | exact below_drewN (Below.refl _ _) _⟩
  case round =>
    obtain ⟨g, l, rfl, rfl, g0, g1, l0, l1, hgl, hge, hb⟩ := hrel
    rename_i wr
    have ku0 : wr.cell? ⟨ub, uoff + k, none⟩ = some (.int .u32 (lb us k)) := by rw [hb.cell (p := ⟨ub, uoff + k, none⟩) hub]; exact cu0
    have kv1 : wr.cell? ⟨vb, voff + (k + 1), none⟩ = some (.int .u32 (lb vs (k + 1))) := by rw [hb.cell (p := ⟨vb, voff + (k + 1), none⟩) hvb]; exact cv1
    have kv0 : wr.cell? ⟨vb, voff + k, none⟩ = some (.int .u32 (lb vs k)) := by rw [hb.cell (p := ⟨vb, voff + k, none⟩) hvb]; exact cv0
    have hsum : g * lb vs (k + 1) + l = lb us (k + 2) * 4294967296 + lb us (k + 1) := by rw [hgl.out, HT.out]
    -- one down, and on
    have hstep : ∀ (hgt : val us / val vs < g), Hid ((g - 1) * lb vs (k + 1) + (l + lb vs (k + 1)) = T) ∧ Hid (val us / val vs ≤ g - 1) ∧ (4294967296 ≤ l + lb vs (k + 1) → GuessOk us vs (g - 1)) := by
      intro hgt
      have h0 := hp.q_nonneg
      have e : (g - 1) * lb vs (k + 1) + (l + lb vs (k + 1)) = g * lb vs (k + 1) + l := by rw [Int.sub_mul]; omega
      refine ⟨Lib.hid (by rw [e, hgl.out]), Lib.hid (by omega), fun hl => ?_⟩
      have h2 := hp.broke (g := g - 1) (by omega) hl (by rw [e, hsum])
      exact ⟨by omega, h2.1, by omega, h2.2⟩
    have hor2 := or_u64 l0 l1 a0 b0
    clear hor htd htm hwr
    by_cases hbig : 4294967296 ≤ g
    · obtain ⟨s1, s2, s3⟩ := hstep (by have := Hq1.out; omega)
      have S3 := Lib.hid s3
      have hb1 : (g / 4294967296 != 0) = true := by rw [bne_iff_ne]; omega
      clear hstep hor2 hsum s3
      by_cases hl : 4294967296 ≤ l + lb vs (k + 1)
      · have hb2 : ((l + lb vs (k + 1)) / 4294967296 != 0) = true := by rw [bne_iff_ne]; omega
        go_wp2_with fail
        go_quiet (fail)
        go_wp2_with fail
        go_ret
        exact ⟨⟨_, rfl, S3.out hl⟩, below_drewN hb _⟩
      · have hb2 : ((l + lb vs (k + 1)) / 4294967296 != 0) = false := by rw [bne_eq_false_iff_eq]; omega
        go_wp2_with fail
        go_quiet (fail)
        go_wp2_with fail
        go_roundw
        case rel =>
            repeat apply Exists.intro
            exact ⟨⟨g - 1, l + lb vs (k + 1), rfl, rfl, by omega, by omega, by omega, by omega, s1, s2, below_drewN hb _⟩, rfl⟩
        case measure => simp [intOf]; omega
    · have hb1 : (g / 4294967296 != 0) = false := by rw [bne_eq_false_iff_eq]; omega
      obtain ⟨p0, p1⟩ := NM.prod_bound g0 (show g < 4294967296 by omega) c0 d0
      by_cases hcm : l * 4294967296 + lb us k < g * lb vs k
      · obtain ⟨s1, s2, s3⟩ := hstep (hp.less g0 hsum hcm)
        have S3 := Lib.hid s3
        have gne : 1 ≤ g := by
          rcases Int.lt_or_le 0 g with h | h
          · omega
          · have : g = 0 := by omega
            rw [this] at hcm; omega
        clear hstep hsum s3
        by_cases hl : 4294967296 ≤ l + lb vs (k + 1)
        · have hb2 : ((l + lb vs (k + 1)) / 4294967296 != 0) = true := by rw [bne_iff_ne]; omega
          go_wp2_with fail
          go_quiet (fail)
          go_wp2_with fail
          go_ret
          exact ⟨⟨_, rfl, S3.out hl⟩, below_drewN hb _⟩
        · have hb2 : ((l + lb vs (k + 1)) / 4294967296 != 0) = false := by rw [bne_eq_false_iff_eq]; omega
          go_wp2_with fail
          go_quiet (fail)
          go_wp2_with fail
          go_roundw
          case rel =>
            repeat apply Exists.intro
            exact ⟨⟨g - 1, l + lb vs (k + 1), rfl, rfl, by omega, by omega, by omega, by omega, s1, s2, below_drewN hb _⟩, rfl⟩
          case measure => simp [intOf]; omega
      · have hok := Lib.hid (show GuessOk us vs g from ⟨g0, by omega, hge.out, hp.good g0 (by omega) hsum (by omega)⟩)
        have hcm2 : g * lb vs k ≤ l * 4294967296 + lb us k := by omega
        clear hstep hsum
        go_wp2_with fail
        go_quiet (fail)
        go_wp2_with fail
        go_ret
        exact ⟨⟨_, rfl, hok.out⟩, below_drewN hb _⟩
end Go.Proofs.YtondjnmpfpfpmaaDoor
