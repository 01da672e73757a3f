import Derived.Test.YtkmnfkhchcoamaaGreatDoorUnB
import Derived.Test.YtkmnfkhchcoamaaGreatDoorUnQ
import Derived.Test.YtkmnfkhchcoamaaGreatDoorTypRefRight
import Derived.Test.YtkmnfkhchcoamaaGreatDoorUnP
import Derived.Test.YtkmnfkhchcoamaaGreatDoorTypPA
import Derived.Laws.StructEq
import Derived.Test.YtkmnfkhchcoamaaGreatDoorTypArena
/- The reference's named. -/
namespace Go.Proofs.YtkmnfkhchcoamaaGreatDoor
open Go.RowKit
set_option linter.unusedSimpArgs false
set_option linter.unusedVariables false

theorem underB_iff2 {l : List Ty} {n : Nm} : underB l n = true ↔ fitB l n.under n.bounds.length = true ∧ isB l n.under 8 = false ∧ isB l n.under 9 = false ∧ ¬ (14 ≤ n.under ∧ n.under ≤ 19) ∧ (n.methods = [] ∨ (isB l n.under 7 = false ∧ isB l n.under 1 = false)) := by
  unfold underB
  simp only [Bool.and_eq_true, Bool.or_eq_true, Bool.not_eq_true', decide_eq_true_eq]
  constructor
  · rintro ⟨⟨⟨⟨h1, h2⟩, h3⟩, h4⟩, h5⟩; exact ⟨h1, h2, h3, h4, h5⟩
  · rintro ⟨h1, h2, h3, h4, h5⟩; exact ⟨⟨⟨⟨h1, h2⟩, h3⟩, h4⟩, h5⟩
set_option maxHeartbeats 32000000 in
set_option maxRecDepth 100000 in
theorem refnamed_any (u : Un) (ao no : Option Addr) (ac nc : Nat) (n : Nm) (bo mo : Option Addr) (bc mc : Nat) (w : World) (hU : UnC w ao no ac nc u) (hr : rightT u.types = true) (hn : NmC w bo mo n) (hbc : n.bounds.length ≤ bc) (hmc : n.methods.length ≤ mc) :
    Calls Tryz.prog 20 #[unV u ao ac no nc, nmV n bo bc mo mc] w fun e w' => e = .returned (.bool (oneU u.types n)) ∧ Below w.heap.size w w' := by
  obtain ⟨R, hR⟩ : ∃ R, oneU u.types n = R := ⟨_, rfl⟩
  rw [hR]
  have HR := Lib.hid hR
  have HU := Lib.hid hU
  have HRT := Lib.hid hr
  clear hR
  unfold nmV
  obtain ⟨nb, hnb⟩ : ∃ nb, n.bounds.length = nb := ⟨_, rfl⟩
  obtain ⟨nm, hnm⟩ : ∃ nm, n.methods.length = nm := ⟨_, rfl⟩
  obtain ⟨s, hs⟩ : ∃ s, n.name = s := ⟨_, rfl⟩
  obtain ⟨ud, hud⟩ : ∃ ud, n.under = ud := ⟨_, rfl⟩
  have HNB := Lib.hid hnb
  have HNM := Lib.hid hnm
  have HS := Lib.hid hs
  have HUD := Lib.hid hud
  have l1 := hn.ok.bl
  have l2 := hn.ok.ml
  have l3 := hn.ok.nl
  rw [hnb] at l1 hbc ⊢
  rw [hnm] at l2 hmc ⊢
  rw [hs] at l3 ⊢
  rw [hud]
  have HN := Lib.hid hn
  obtain ⟨w1, h1⟩ : ∃ w1, w.alloc (.cells #[.slice ao u.types.length ac, .slice no u.named.length nc] 25) = w1 := ⟨_, rfl⟩
  obtain ⟨k1, q1, z1⟩ := box_new h1
  obtain ⟨w2, h2⟩ : ∃ w2, w1.alloc (.cells #[.string s, .slice bo nb bc, .int .i64 ud, .slice mo nm mc] 51) = w2 := ⟨_, rfl⟩
  obtain ⟨k2, q2, z2⟩ := box_new h2
  have B2 := Lib.hid (q1.trans (q2.mono q1.size))
  have K1 := Lib.hid (k1.below q2)
  have K2 := Lib.hid k2
  obtain ⟨c0, c1⟩ := cell2 K1.out
  obtain ⟨y0, y1, y2, y3⟩ := cell4 k2
  have HIS0 := fun (i k : Int) W (hb : Below w2.heap.size w2 W) => refis_any u ao no ac nc i k W ((hU.below B2.out).below hb)
  have HAS0 := fun (i : Int) W (hb : Below w2.heap.size w2 W) => refasksat_any u ao no ac nc i nb W ((hU.below B2.out).below hb) hr
  unfold unV at HIS0 HAS0
  unfold unV
  have HIS := Lib.hid HIS0
  have HAS := Lib.hid HAS0
  have HTW := Lib.hid (fun W => twofold_any s W (by omega))
  have UBAD := Lib.hid (show (underB u.types n = true → False) → false = R from fun h => is_false fun g => h (oneU_iff.1 (HR.out.trans g)).2.2.1)
  have HB0 := Lib.hid (Below.refl w2.heap.size w2)
  clear HIS0 HAS0 hnb hnm hs hud hn hU hr k1 k2 q1 q2 z1 z2
  go_enter Tryz.func20, Tryz.ntmps20
  cases hnb : namedB s
  · have HV := Lib.hid (is_false (R := R) fun g => by
      have := (oneU_iff.1 (HR.out.trans g)).1
      rw [HS.out, hnb] at this
      cases this)
    rw [hnb] at HTW
    clear hnb
    go_wp2_with fail
    refine (HTW.out _).mono ?_
    rintro e w4 ⟨rfl, rfl⟩
    go_wp2_with fail
    go_ret
    exact ⟨ret_bool HV.out, B2.out⟩
  have NB := Lib.hid hnb
  rw [hnb] at HTW
  clear hnb
  by_cases c1x : 16 < nb
  · have HV := Lib.hid (is_false (R := R) fun g => by
      have := (oneU_iff.1 (HR.out.trans g)).2.1.1
      rw [HNB.out] at this
      omega)
    have hd1 : decide ((16 : Int) < (nb : Int)) = true := decide_eq_true (by omega)
    go_wp2_with fail
    refine (HTW.out _).mono ?_
    rintro e w4 ⟨rfl, rfl⟩
    go_wp2_with fail
    go_ret
    exact ⟨ret_bool HV.out, B2.out⟩
  have hd1 : decide ((16 : Int) < (nb : Int)) = false := decide_eq_false (by omega)
  by_cases c2x : 16 < nm
  · have HV := Lib.hid (is_false (R := R) fun g => by
      have := (oneU_iff.1 (HR.out.trans g)).2.1.2
      rw [HNM.out] at this
      omega)
    have hd2 : decide ((16 : Int) < (nm : Int)) = true := decide_eq_true (by omega)
    go_wp2_with fail
    refine (HTW.out _).mono ?_
    rintro e w4 ⟨rfl, rfl⟩
    go_wp2_with fail
    go_ret
    exact ⟨ret_bool HV.out, B2.out⟩
  have hd2 : decide ((16 : Int) < (nm : Int)) = false := decide_eq_false (by omega)
  go_wp2_with fail
  refine (HTW.out _).mono ?_
  rintro e w4 ⟨rfl, hw⟩
  subst hw
  clear h1 h2 HTW
  have HC0 := HAS.out ud w2 HB0.out
  cases hf : fitB u.types ud nb <;> rw [hf] at HC0 <;> have HF := Lib.hid hf <;> have HC := Lib.hid HC0 <;> clear hf HC0
  · have HV := Lib.hid (UBAD.out fun g => by have := (underB_iff2.1 g).1; rw [HUD.out, HNB.out, HF.out] at this; cases this)
    go_wp2_with fail
    refine HC.out.mono ?_
    rintro e w5 ⟨rfl, b⟩
    have Hw5 := Lib.hid (HB0.out.trans (b.mono HB0.out.size))
    clear b HC c0 c1 y0 y1 y2 y3
    obtain ⟨c0, c1⟩ := cell2 (K1.out.below Hw5.out)
    obtain ⟨y0, y1, y2, y3⟩ := cell4 (K2.out.below Hw5.out)
    go_wp2_with fail
    go_ret
    exact ⟨ret_bool HV.out, B2.out.trans (Hw5.out.mono B2.out.size)⟩
  go_wp2_with fail
  refine HC.out.mono ?_
  rintro e w5 ⟨rfl, b⟩
  have Hw5 := Lib.hid (HB0.out.trans (b.mono HB0.out.size))
  clear b HC c0 c1 y0 y1 y2 y3
  obtain ⟨c0, c1⟩ := cell2 (K1.out.below Hw5.out)
  obtain ⟨y0, y1, y2, y3⟩ := cell4 (K2.out.below Hw5.out)
  go_wp2_with fail
  go_loopw [38] (fun v wr => ∃ k : Nat, k ≤ nb ∧ v = .int .i64 k ∧ Hid (∀ j, j < k → boundB u.types nb (n.bounds.getD j 0) = true) ∧ Hid (Below w2.heap.size w2 wr)) (fun v _ => nb - (intOf v).toNat)
  case atStart => exact ⟨0, Nat.zero_le _, rfl, Lib.hid (fun j hj => absurd hj (Nat.not_lt_zero _)), Hw5⟩
  case round =>
    obtain ⟨k, hk, rfl, Hall, HB⟩ := hrel
    clear c0 c1 y0 y1 y2 y3
    obtain ⟨c0, c1⟩ := cell2 (K1.out.below HB.out)
    obtain ⟨y0, y1, y2, y3⟩ := cell4 (K2.out.below HB.out)
    by_cases hkn : k < nb
    · have hkI : (k : Int) < (nb : Int) := by omega
      have hkl : k < n.bounds.length := by rw [HNB.out]; exact hkn
      obtain ⟨ib, iof, rfl, hib, hic⟩ := (HN.out.bounds.below (B2.out.trans (HB.out.mono B2.out.size))).cells (by omega)
      have ck := hic k hkl
      obtain ⟨i, hi⟩ : ∃ i, n.bounds.getD k 0 = i := ⟨_, rfl⟩
      have HI := Lib.hid hi
      rw [hi] at ck
      clear hi hic hib
      have BAD := Lib.hid (show (boundB u.types nb i = true → False) → false = R from fun h => is_false fun g => h (by
        have := (oneU_iff.1 (HR.out.trans g)).2.2.2.1 _ (getD_mem hkl)
        rw [HI.out, HNB.out] at this
        exact this))
      have HC0 := HIS.out i 7 wr HB.out
      cases h7 : isB u.types i 7 <;> rw [h7] at HC0 <;> have H7 := Lib.hid h7 <;> have HC := Lib.hid HC0 <;> clear h7 HC0
      · have HV := Lib.hid (BAD.out fun g => by
          unfold boundB at g
          rw [H7.out] at g
          cases g)
        go_wp2_with fail
        refine HC.out.mono ?_
        rintro e w6 ⟨rfl, b⟩
        have Hw6 := Lib.hid (HB.out.trans (b.mono HB.out.size))
        clear b HC c0 c1 y0 y1 y2 y3 ck
        obtain ⟨c0, c1⟩ := cell2 (K1.out.below Hw6.out)
        obtain ⟨y0, y1, y2, y3⟩ := cell4 (K2.out.below Hw6.out)
        go_wp2_with fail
        go_ret
        exact ⟨ret_bool HV.out, B2.out.trans (Hw6.out.mono B2.out.size)⟩
      go_wp2_with fail
      refine HC.out.mono ?_
      rintro e w6 ⟨rfl, b⟩
      have Hw6 := Lib.hid (HB.out.trans (b.mono HB.out.size))
      clear b HC c0 c1 y0 y1 y2 y3 ck
      obtain ⟨c0, c1⟩ := cell2 (K1.out.below Hw6.out)
      obtain ⟨y0, y1, y2, y3⟩ := cell4 (K2.out.below Hw6.out)
      have HC0 := HAS.out i w6 Hw6.out
      cases hf2 : fitB u.types i nb <;> rw [hf2] at HC0 <;> have HF2 := Lib.hid hf2 <;> have HC := Lib.hid HC0 <;> clear hf2 HC0
      · have HV := Lib.hid (BAD.out fun g => by
          unfold boundB at g
          rw [HF2.out, Bool.and_false] at g
          cases g)
        go_wp2_with fail
        refine HC.out.mono ?_
        rintro e w7 ⟨rfl, b⟩
        have Hw7 := Lib.hid (Hw6.out.trans (b.mono Hw6.out.size))
        clear b HC c0 c1 y0 y1 y2 y3
        obtain ⟨c0, c1⟩ := cell2 (K1.out.below Hw7.out)
        obtain ⟨y0, y1, y2, y3⟩ := cell4 (K2.out.below Hw7.out)
        go_wp2_with fail
        go_ret
        exact ⟨ret_bool HV.out, B2.out.trans (Hw7.out.mono B2.out.size)⟩
      have Hall2 := Lib.hid (show ∀ j, j < k + 1 → boundB u.types nb (n.bounds.getD j 0) = true from fun j hj => by
        rcases Nat.lt_or_eq_of_le (Nat.le_of_lt_succ hj) with h | h
        · exact Hall.out j h
        · rw [h, HI.out]
          unfold boundB
          rw [H7.out, HF2.out]
          rfl)
      go_wp2_with fail
      refine HC.out.mono ?_
      rintro e w7 ⟨rfl, b⟩
      have Hw7 := Lib.hid (Hw6.out.trans (b.mono Hw6.out.size))
      clear b HC c0 c1 y0 y1 y2 y3
      obtain ⟨c0, c1⟩ := cell2 (K1.out.below Hw7.out)
      obtain ⟨y0, y1, y2, y3⟩ := cell4 (K2.out.below Hw7.out)
      go_wp2_with fail
      go_roundw
      case rel => exact ⟨k + 1, by omega, by go_num, Hall2, Hw7⟩
      case measure => first | (simp [intOf]; done) | (simp [intOf]; omega)
    · obtain rfl : k = nb := by omega
      have HBD := Lib.hid (show ∀ b ∈ n.bounds, boundB u.types k b = true from fun b hb => by
        obtain ⟨j, hj, rfl⟩ := List.getElem_of_mem hb
        have := Hall.out j (by rw [← HNB.out]; exact hj)
        rwa [getD_of hj] at this)
      have HC0 := HIS.out ud 8 wr HB.out
      cases h8 : isB u.types ud 8 <;> rw [h8] at HC0 <;> have H8 := Lib.hid h8 <;> have HC := Lib.hid HC0 <;> clear h8 HC0
      case true =>
        have HV := Lib.hid (UBAD.out fun g => by have := (underB_iff2.1 g).2.1; rw [HUD.out, H8.out] at this; cases this)
        go_wp2_with fail
        refine HC.out.mono ?_
        rintro e w6 ⟨rfl, b⟩
        have Hw6 := Lib.hid (HB.out.trans (b.mono HB.out.size))
        clear b HC c0 c1 y0 y1 y2 y3
        obtain ⟨c0, c1⟩ := cell2 (K1.out.below Hw6.out)
        obtain ⟨y0, y1, y2, y3⟩ := cell4 (K2.out.below Hw6.out)
        go_wp2_with fail
        go_ret
        exact ⟨ret_bool HV.out, B2.out.trans (Hw6.out.mono B2.out.size)⟩
      go_wp2_with fail
      refine HC.out.mono ?_
      rintro e w6 ⟨rfl, b⟩
      have Hw6 := Lib.hid (HB.out.trans (b.mono HB.out.size))
      clear b HC c0 c1 y0 y1 y2 y3
      obtain ⟨c0, c1⟩ := cell2 (K1.out.below Hw6.out)
      obtain ⟨y0, y1, y2, y3⟩ := cell4 (K2.out.below Hw6.out)
      have HC0 := HIS.out ud 9 w6 Hw6.out
      cases h9 : isB u.types ud 9 <;> rw [h9] at HC0 <;> have H9 := Lib.hid h9 <;> have HC := Lib.hid HC0 <;> clear h9 HC0
      case true =>
        have HV := Lib.hid (UBAD.out fun g => by have := (underB_iff2.1 g).2.2.1; rw [HUD.out, H9.out] at this; cases this)
        go_wp2_with fail
        refine HC.out.mono ?_
        rintro e w7 ⟨rfl, b⟩
        have Hw7 := Lib.hid (Hw6.out.trans (b.mono Hw6.out.size))
        clear b HC c0 c1 y0 y1 y2 y3
        obtain ⟨c0, c1⟩ := cell2 (K1.out.below Hw7.out)
        obtain ⟨y0, y1, y2, y3⟩ := cell4 (K2.out.below Hw7.out)
        go_wp2_with fail
        go_ret
        exact ⟨ret_bool HV.out, B2.out.trans (Hw7.out.mono B2.out.size)⟩
      by_cases hut : 14 ≤ ud ∧ ud ≤ 19
      · have HV := Lib.hid (UBAD.out fun g => (underB_iff2.1 g).2.2.2.1 (by rw [HUD.out]; exact hut))
        obtain ⟨hu1, hu2⟩ := hut
        have hdu1 : decide (14 ≤ ud) = true := decide_eq_true hu1
        have hdu2 : decide (ud ≤ 19) = true := decide_eq_true hu2
        go_wp2_with fail
        refine HC.out.mono ?_
        rintro e w7 ⟨rfl, b⟩
        have Hw7 := Lib.hid (Hw6.out.trans (b.mono Hw6.out.size))
        clear b HC c0 c1 y0 y1 y2 y3
        obtain ⟨c0, c1⟩ := cell2 (K1.out.below Hw7.out)
        obtain ⟨y0, y1, y2, y3⟩ := cell4 (K2.out.below Hw7.out)
        go_wp2_with fail
        go_ret
        exact ⟨ret_bool HV.out, B2.out.trans (Hw7.out.mono B2.out.size)⟩
      have HUT := Lib.hid hut
      by_cases hu1 : 14 ≤ ud
      · have hu2 : ¬ ud ≤ 19 := fun g => hut ⟨hu1, g⟩
        have hdu1 : decide (14 ≤ ud) = true := decide_eq_true hu1
        have hdu2 : decide (ud ≤ 19) = false := decide_eq_false hu2
        clear hut
        go_wp2_with fail
        refine HC.out.mono ?_
        rintro e w7 ⟨rfl, b⟩
        have Hw7 := Lib.hid (Hw6.out.trans (b.mono Hw6.out.size))
        clear b HC c0 c1 y0 y1 y2 y3
        obtain ⟨c0, c1⟩ := cell2 (K1.out.below Hw7.out)
        obtain ⟨y0, y1, y2, y3⟩ := cell4 (K2.out.below Hw7.out)
        go_wp2_with fail
        go_loopw [77] (fun v wr => ∃ k2 : Nat, k2 ≤ nm ∧ v = .int .i64 k2 ∧ Hid (∀ j (hj : j < n.methods.length), j < k2 → methB u.types k n.methods[j] = true ∧ riseB (n.methods.map (·.name)) j = true) ∧ Hid (Below w2.heap.size w2 wr)) (fun v _ => nm - (intOf v).toNat)
        case atStart => exact ⟨0, Nat.zero_le _, rfl, Lib.hid (fun j _ hj => absurd hj (Nat.not_lt_zero _)), Hw7⟩
        case round =>
          obtain ⟨k2, hk2, rfl, Hall, HB6⟩ := hrel
          clear c0 c1 y0 y1 y2 y3
          obtain ⟨c0, c1⟩ := cell2 (K1.out.below HB6.out)
          obtain ⟨y0, y1, y2, y3⟩ := cell4 (K2.out.below HB6.out)
          by_cases hkm : k2 < nm
          · have hkI : (k2 : Int) < (nm : Int) := by omega
            have hkl2 : k2 < n.methods.length := by rw [HNM.out]; exact hkm
            obtain ⟨mb, mof, rfl, hmb, hmcell⟩ := (HN.out.methods.below B2.out).cells (by omega)
            have HMB := Lib.hid hmb
            have HMC := Lib.hid hmcell
            obtain ⟨m0', m1', m2'⟩ := hmcell k2 hkl2
            have m0 := (HB6.out.cell hmb).trans m0'
            have m1 := (HB6.out.cell hmb).trans m1'
            have m2 := (HB6.out.cell hmb).trans m2'
            obtain ⟨x, hx⟩ : ∃ x, n.methods[k2] = x := ⟨_, rfl⟩
            rw [hx] at m0 m1 m2
            have HXE := Lib.hid hx
            have hsz := (HN.out.ok.ms _ (List.getElem_mem hkl2)).1
            rw [hx] at hsz
            obtain ⟨v, hv⟩ : ∃ v, x.name = v := ⟨_, rfl⟩
            obtain ⟨sg, hsg⟩ : ∃ sg, x.sig = sg := ⟨_, rfl⟩
            have HVN := Lib.hid hv
            have HSG := Lib.hid hsg
            rw [hv] at m0 hsz
            rw [hsg] at m2
            obtain ⟨wn, hwn⟩ : ∃ wn, wr.alloc (.cells #[.string v, .bool x.ptr, .int .i64 sg] 48) = wn := ⟨_, rfl⟩
            obtain ⟨kx, qx, zx⟩ := box_new hwn
            obtain ⟨xb, hxb⟩ : ∃ xb, wr.heap.size = xb := ⟨_, rfl⟩
            have HXB := Lib.hid hxb
            have KX := Lib.hid (show BlockAt wn xb #[.string v, .bool x.ptr, .int .i64 sg] 48 by rw [← hxb]; exact kx)
            have HBN := Lib.hid (HB6.out.trans (qx.mono HB6.out.size))
            clear hx hv hsg hmb hmcell m0' m1' m2' kx qx zx c0 c1 y0 y1 y2 y3
            obtain ⟨d0, d1, d2⟩ := cell3m KX.out
            obtain ⟨c0, c1⟩ := cell2 (K1.out.below HBN.out)
            obtain ⟨y0, y1, y2, y3⟩ := cell4 (K2.out.below HBN.out)
            have BADM := Lib.hid (show (methB u.types k x = true → False) → false = R from fun h => is_false fun g => h (by
              have := (oneU_iff.1 (HR.out.trans g)).2.2.2.2.1 _ (List.getElem_mem hkl2)
              rw [HXE.out, HNB.out] at this
              exact this))
            have BADR := Lib.hid (show riseB (n.methods.map (·.name)) k2 = false → false = R from fun h => is_false fun g => by
              have := rises_at (oneU_iff.1 (HR.out.trans g)).2.2.2.2.2 (k := k2) (by rw [List.length_map]; exact hkl2)
              rw [h] at this
              cases this)
            have GOOD := Lib.hid (show methB u.types k x = true → riseB (n.methods.map (·.name)) k2 = true → ∀ j (hj : j < n.methods.length), j < k2 + 1 → methB u.types k n.methods[j] = true ∧ riseB (n.methods.map (·.name)) j = true from fun h1 h2 j hj h => by
              rcases Nat.lt_or_eq_of_le (Nat.le_of_lt_succ h) with c | c
              · exact Hall.out j hj c
              · subst c; rw [HXE.out]; exact ⟨h1, h2⟩)
            have HNQ0 := fun W => refName_any v W (by omega)
            clear hxb
            cases hna : nameB v <;> rw [hna] at HNQ0 <;> have NA := Lib.hid hna <;> have HNQ := Lib.hid HNQ0 <;> clear hna HNQ0
            · have HV := Lib.hid (BADM.out (fun g => by have := (methB_iff.1 g).1; rw [HVN.out, NA.out] at this; cases this))
              have hxb := HXB.out
              go_wp2_with fail
              refine (HNQ.out _).mono ?_
              rintro e w8 ⟨rfl, rfl⟩
              go_wp2_with fail
              go_ret
              exact ⟨ret_bool HV.out, B2.out.trans (HBN.out.mono B2.out.size)⟩
            have hxb := HXB.out
            go_wp2_with fail
            refine (HNQ.out _).mono ?_
            rintro e w8 ⟨rfl, rfl⟩
            clear hxb hwn m0 m1 m2 HNQ
            have HC0 := HIS.out sg 5 wn HBN.out
            cases h5 : isB u.types sg 5 <;> rw [h5] at HC0 <;> have H5 := Lib.hid h5 <;> have HC := Lib.hid HC0 <;> clear h5 HC0
            · have HV := Lib.hid (BADM.out fun g => by
                unfold methB at g
                rw [HSG.out, H5.out, Bool.and_false] at g
                cases g)
              go_wp2_with fail
              refine HC.out.mono ?_
              rintro e w8 ⟨rfl, b⟩
              have W8B := Lib.hid b
              have Hw8 := Lib.hid (HBN.out.trans (b.mono HBN.out.size))
              clear b HC c0 c1 y0 y1 y2 y3 d0 d1 d2
              obtain ⟨c0, c1⟩ := cell2 (K1.out.below Hw8.out)
              obtain ⟨y0, y1, y2, y3⟩ := cell4 (K2.out.below Hw8.out)
              go_wp2_with fail
              go_ret
              exact ⟨ret_bool HV.out, B2.out.trans (Hw8.out.mono B2.out.size)⟩
            go_wp2_with fail
            refine HC.out.mono ?_
            rintro e w8 ⟨rfl, b⟩
            have W8B := Lib.hid b
            have Hw8 := Lib.hid (HBN.out.trans (b.mono HBN.out.size))
            clear b HC c0 c1 y0 y1 y2 y3 d0 d1 d2
            obtain ⟨c0, c1⟩ := cell2 (K1.out.below Hw8.out)
            obtain ⟨y0, y1, y2, y3⟩ := cell4 (K2.out.below Hw8.out)
            obtain ⟨d0, d1, d2⟩ := cell3m (KX.out.below W8B.out)
            have HC0 := HAS.out sg w8 Hw8.out
            cases hf2 : fitB u.types sg k <;> rw [hf2] at HC0 <;> have HF2 := Lib.hid hf2 <;> have HC := Lib.hid HC0 <;> clear hf2 HC0
            · have HV := Lib.hid (BADM.out fun g => by
                unfold methB at g
                rw [HSG.out, HF2.out, Bool.and_false] at g
                cases g)
              go_wp2_with fail
              refine HC.out.mono ?_
              rintro e w9 ⟨rfl, b⟩
              try have W9B := Lib.hid (W8B.out.trans (b.mono W8B.out.size))
              have Hw9 := Lib.hid (Hw8.out.trans (b.mono Hw8.out.size))
              clear b HC c0 c1 y0 y1 y2 y3 d0 d1 d2
              obtain ⟨c0, c1⟩ := cell2 (K1.out.below Hw9.out)
              obtain ⟨y0, y1, y2, y3⟩ := cell4 (K2.out.below Hw9.out)
              go_wp2_with fail
              go_ret
              exact ⟨ret_bool HV.out, B2.out.trans (Hw9.out.mono B2.out.size)⟩
            have HMB2 := Lib.hid (show methB u.types k x = true by
              unfold methB
              rw [HVN.out, NA.out, HSG.out, H5.out, HF2.out]
              rfl)
            go_wp2_with fail
            refine HC.out.mono ?_
            rintro e w9 ⟨rfl, b⟩
            try have W9B := Lib.hid (W8B.out.trans (b.mono W8B.out.size))
            have Hw9 := Lib.hid (Hw8.out.trans (b.mono Hw8.out.size))
            clear b HC c0 c1 y0 y1 y2 y3 d0 d1 d2
            obtain ⟨c0, c1⟩ := cell2 (K1.out.below Hw9.out)
            obtain ⟨y0, y1, y2, y3⟩ := cell4 (K2.out.below Hw9.out)
            obtain ⟨d0, d1, d2⟩ := cell3m (KX.out.below W9B.out)
            by_cases h0 : k2 = 0
            · subst h0
              have Hx := Lib.hid (GOOD.out HMB2.out rfl)
              go_wp2_with fail
              go_quiet (fail)
              go_wp2_with fail
              go_roundw
              case rel => exact ⟨0 + 1, by omega, by go_num, Hx, Lib.hid (below_drewN Hw9.out _)⟩
              case measure => first | (simp [intOf]; done) | (simp [intOf]; omega)
            · obtain ⟨p, hp⟩ : ∃ p, k2 = p + 1 := ⟨k2 - 1, by omega⟩
              have hpl : p < n.methods.length := by omega
              have hpn : p < nm := by omega
              have hpI : (p : Int) < (nm : Int) := by omega
              have cp := (Hw9.out.cell HMB.out).trans (HMC.out p hpl).1
              obtain ⟨v2, hv2⟩ : ∃ v, n.methods[p].name = v := ⟨_, rfl⟩
              rw [hv2] at cp
              have hpos : (0 : Int) < (k2 : Int) := by omega
              have hposd : decide ((0 : Int) < (k2 : Int)) = true := decide_eq_true hpos
              have hposn : 0 < k2 := by omega
              have hsub : (k2 : Int) - 1 = (p : Int) := by omega
              have hsubw : IntKind.i64.wrap ((k2 : Int) - 1) = (p : Int) := by rw [hsub]; exact IntWalk.i64_in _ (by omega)
              have HRE := Lib.hid (show riseB (n.methods.map (·.name)) k2 = lessB v2 v by rw [rise_succ hkl2 hp, hv2]; congr 1; rw [HXE.out, HVN.out])
              clear hp hv2 h0
              cases hls : Op.bytesLess v2.toList v.toList
              · have LS := Lib.hid hls
                have HV := Lib.hid (BADR.out (by rw [HRE.out]; exact LS.out))
                go_wp2_with fail
                go_quiet (fail)
                go_wp2_with fail
                go_ret
                exact ⟨ret_bool HV.out, B2.out.trans ((below_drewN Hw9.out _).mono B2.out.size)⟩
              · have LS := Lib.hid hls
                have Hx := Lib.hid (GOOD.out HMB2.out (by rw [HRE.out]; exact LS.out))
                go_wp2_with fail
                go_quiet (fail)
                go_wp2_with fail
                go_roundw
                case rel => exact ⟨k2 + 1, by omega, by go_num, Hx, Lib.hid (below_drewN Hw9.out _)⟩
                case measure => first | (simp [intOf]; done) | (simp [intOf]; omega)
          · obtain rfl : k2 = nm := by omega
            have GOODR := Lib.hid (show underB u.types n = true → true = R from fun h => by
              rw [← HR.out]
              exact (oneU_iff.2 ⟨by rw [HS.out]; exact NB.out, ⟨by rw [HNB.out]; omega, by rw [HNM.out]; omega⟩, h, by rw [HNB.out]; exact HBD.out, fun m hm => by
                obtain ⟨j, hj, rfl⟩ := List.getElem_of_mem hm
                rw [HNB.out]
                exact (Hall.out j hj (by rw [← HNM.out]; exact hj)).1, rises_of fun j hj => (Hall.out j (by rw [List.length_map] at hj; exact hj) (by rw [List.length_map] at hj; rw [← HNM.out]; exact hj)).2⟩).symm)
            have UGOOD := Lib.hid (show (n.methods = [] ∨ (isB u.types ud 7 = false ∧ isB u.types ud 1 = false)) → underB u.types n = true from fun h => underB_iff2.2 ⟨by rw [HUD.out, HNB.out]; exact HF.out, by rw [HUD.out]; exact H8.out, by rw [HUD.out]; exact H9.out, by rw [HUD.out]; exact HUT.out, by rw [HUD.out]; exact h⟩)
            by_cases m0 : k2 = 0
            · have HV := Lib.hid (GOODR.out (UGOOD.out (.inl (List.eq_nil_of_length_eq_zero (by rw [HNM.out]; exact m0)))))
              subst m0
              go_wp2_with fail
              go_ret
              exact ⟨ret_bool HV.out, B2.out.trans (HB6.out.mono B2.out.size)⟩
            · have hm0 : ((k2 : Int) == 0) = false := by rw [beq_eq_false_iff_ne]; omega
              have UB2 := Lib.hid (show (isB u.types ud 7 = true ∨ isB u.types ud 1 = true) → false = R from fun h => UBAD.out fun g => by
                have := (underB_iff2.1 g).2.2.2.2
                rw [HUD.out] at this
                rcases this with g | ⟨g1, g2⟩
                · have e := HNM.out
                  rw [g] at e
                  exact m0 e.symm
                · rcases h with h | h
                  · rw [g1] at h; cases h
                  · rw [g2] at h; cases h)
              clear m0
              have HC0 := HIS.out ud 7 wr HB6.out
              cases h7 : isB u.types ud 7 <;> rw [h7] at HC0 <;> have H7 := Lib.hid h7 <;> have HC := Lib.hid HC0 <;> clear h7 HC0
              case true =>
                have HV := Lib.hid (UB2.out (.inl H7.out))
                go_wp2_with fail
                refine HC.out.mono ?_
                rintro e w8 ⟨rfl, b⟩
                have Hw8 := Lib.hid (HB6.out.trans (b.mono HB6.out.size))
                clear b HC c0 c1 y0 y1 y2 y3
                obtain ⟨c0, c1⟩ := cell2 (K1.out.below Hw8.out)
                obtain ⟨y0, y1, y2, y3⟩ := cell4 (K2.out.below Hw8.out)
                go_wp2_with fail
                go_ret
                exact ⟨ret_bool HV.out, B2.out.trans (Hw8.out.mono B2.out.size)⟩
              go_wp2_with fail
              refine HC.out.mono ?_
              rintro e w8 ⟨rfl, b⟩
              have Hw8 := Lib.hid (HB6.out.trans (b.mono HB6.out.size))
              clear b HC c0 c1 y0 y1 y2 y3
              obtain ⟨c0, c1⟩ := cell2 (K1.out.below Hw8.out)
              obtain ⟨y0, y1, y2, y3⟩ := cell4 (K2.out.below Hw8.out)
              have HC0 := HIS.out ud 1 w8 Hw8.out
              cases h1 : isB u.types ud 1 <;> rw [h1] at HC0 <;> have H1 := Lib.hid h1 <;> have HC := Lib.hid HC0 <;> clear h1 HC0
              case true =>
                have HV := Lib.hid (UB2.out (.inr H1.out))
                go_wp2_with fail
                refine HC.out.mono ?_
                rintro e w9 ⟨rfl, b⟩
                try have W9B := Lib.hid (W8B.out.trans (b.mono W8B.out.size))
                have Hw9 := Lib.hid (Hw8.out.trans (b.mono Hw8.out.size))
                clear b HC c0 c1 y0 y1 y2 y3
                obtain ⟨c0, c1⟩ := cell2 (K1.out.below Hw9.out)
                obtain ⟨y0, y1, y2, y3⟩ := cell4 (K2.out.below Hw9.out)
                go_wp2_with fail
                go_ret
                exact ⟨ret_bool HV.out, B2.out.trans (Hw9.out.mono B2.out.size)⟩
              have HV := Lib.hid (GOODR.out (UGOOD.out (.inr ⟨H7.out, H1.out⟩)))
              go_wp2_with fail
              refine HC.out.mono ?_
              rintro e w9 ⟨rfl, b⟩
              try have W9B := Lib.hid (W8B.out.trans (b.mono W8B.out.size))
              have Hw9 := Lib.hid (Hw8.out.trans (b.mono Hw8.out.size))
              clear b HC c0 c1 y0 y1 y2 y3
              obtain ⟨c0, c1⟩ := cell2 (K1.out.below Hw9.out)
              obtain ⟨y0, y1, y2, y3⟩ := cell4 (K2.out.below Hw9.out)
              go_wp2_with fail
              go_ret
              exact ⟨ret_bool HV.out, B2.out.trans (Hw9.out.mono B2.out.size)⟩
      · have hdu1 : decide (14 ≤ ud) = false := decide_eq_false hu1
        clear hut
        go_wp2_with fail
        refine HC.out.mono ?_
        rintro e w7 ⟨rfl, b⟩
        have Hw7 := Lib.hid (Hw6.out.trans (b.mono Hw6.out.size))
        clear b HC c0 c1 y0 y1 y2 y3
        obtain ⟨c0, c1⟩ := cell2 (K1.out.below Hw7.out)
        obtain ⟨y0, y1, y2, y3⟩ := cell4 (K2.out.below Hw7.out)
        go_wp2_with fail
        go_loopw [77] (fun v wr => ∃ k2 : Nat, k2 ≤ nm ∧ v = .int .i64 k2 ∧ Hid (∀ j (hj : j < n.methods.length), j < k2 → methB u.types k n.methods[j] = true ∧ riseB (n.methods.map (·.name)) j = true) ∧ Hid (Below w2.heap.size w2 wr)) (fun v _ => nm - (intOf v).toNat)
        case atStart => exact ⟨0, Nat.zero_le _, rfl, Lib.hid (fun j _ hj => absurd hj (Nat.not_lt_zero _)), Hw7⟩
        case round =>
          obtain ⟨k2, hk2, rfl, Hall, HB6⟩ := hrel
          clear c0 c1 y0 y1 y2 y3
          obtain ⟨c0, c1⟩ := cell2 (K1.out.below HB6.out)
          obtain ⟨y0, y1, y2, y3⟩ := cell4 (K2.out.below HB6.out)
          by_cases hkm : k2 < nm
          · have hkI : (k2 : Int) < (nm : Int) := by omega
            have hkl2 : k2 < n.methods.length := by rw [HNM.out]; exact hkm
            obtain ⟨mb, mof, rfl, hmb, hmcell⟩ := (HN.out.methods.below B2.out).cells (by omega)
            have HMB := Lib.hid hmb
            have HMC := Lib.hid hmcell
            obtain ⟨m0', m1', m2'⟩ := hmcell k2 hkl2
            have m0 := (HB6.out.cell hmb).trans m0'
            have m1 := (HB6.out.cell hmb).trans m1'
            have m2 := (HB6.out.cell hmb).trans m2'
            obtain ⟨x, hx⟩ : ∃ x, n.methods[k2] = x := ⟨_, rfl⟩
            rw [hx] at m0 m1 m2
            have HXE := Lib.hid hx
            have hsz := (HN.out.ok.ms _ (List.getElem_mem hkl2)).1
            rw [hx] at hsz
            obtain ⟨v, hv⟩ : ∃ v, x.name = v := ⟨_, rfl⟩
            obtain ⟨sg, hsg⟩ : ∃ sg, x.sig = sg := ⟨_, rfl⟩
            have HVN := Lib.hid hv
            have HSG := Lib.hid hsg
            rw [hv] at m0 hsz
            rw [hsg] at m2
            obtain ⟨wn, hwn⟩ : ∃ wn, wr.alloc (.cells #[.string v, .bool x.ptr, .int .i64 sg] 48) = wn := ⟨_, rfl⟩
            obtain ⟨kx, qx, zx⟩ := box_new hwn
            obtain ⟨xb, hxb⟩ : ∃ xb, wr.heap.size = xb := ⟨_, rfl⟩
            have HXB := Lib.hid hxb
            have KX := Lib.hid (show BlockAt wn xb #[.string v, .bool x.ptr, .int .i64 sg] 48 by rw [← hxb]; exact kx)
            have HBN := Lib.hid (HB6.out.trans (qx.mono HB6.out.size))
            clear hx hv hsg hmb hmcell m0' m1' m2' kx qx zx c0 c1 y0 y1 y2 y3
            obtain ⟨d0, d1, d2⟩ := cell3m KX.out
            obtain ⟨c0, c1⟩ := cell2 (K1.out.below HBN.out)
            obtain ⟨y0, y1, y2, y3⟩ := cell4 (K2.out.below HBN.out)
            have BADM := Lib.hid (show (methB u.types k x = true → False) → false = R from fun h => is_false fun g => h (by
              have := (oneU_iff.1 (HR.out.trans g)).2.2.2.2.1 _ (List.getElem_mem hkl2)
              rw [HXE.out, HNB.out] at this
              exact this))
            have BADR := Lib.hid (show riseB (n.methods.map (·.name)) k2 = false → false = R from fun h => is_false fun g => by
              have := rises_at (oneU_iff.1 (HR.out.trans g)).2.2.2.2.2 (k := k2) (by rw [List.length_map]; exact hkl2)
              rw [h] at this
              cases this)
            have GOOD := Lib.hid (show methB u.types k x = true → riseB (n.methods.map (·.name)) k2 = true → ∀ j (hj : j < n.methods.length), j < k2 + 1 → methB u.types k n.methods[j] = true ∧ riseB (n.methods.map (·.name)) j = true from fun h1 h2 j hj h => by
              rcases Nat.lt_or_eq_of_le (Nat.le_of_lt_succ h) with c | c
              · exact Hall.out j hj c
              · subst c; rw [HXE.out]; exact ⟨h1, h2⟩)
            have HNQ0 := fun W => refName_any v W (by omega)
            clear hxb
            cases hna : nameB v <;> rw [hna] at HNQ0 <;> have NA := Lib.hid hna <;> have HNQ := Lib.hid HNQ0 <;> clear hna HNQ0
            · have HV := Lib.hid (BADM.out (fun g => by have := (methB_iff.1 g).1; rw [HVN.out, NA.out] at this; cases this))
              have hxb := HXB.out
              go_wp2_with fail
              refine (HNQ.out _).mono ?_
              rintro e w8 ⟨rfl, rfl⟩
              go_wp2_with fail
              go_ret
              exact ⟨ret_bool HV.out, B2.out.trans (HBN.out.mono B2.out.size)⟩
            have hxb := HXB.out
            go_wp2_with fail
            refine (HNQ.out _).mono ?_
            rintro e w8 ⟨rfl, rfl⟩
            clear hxb hwn m0 m1 m2 HNQ
            have HC0 := HIS.out sg 5 wn HBN.out
            cases h5 : isB u.types sg 5 <;> rw [h5] at HC0 <;> have H5 := Lib.hid h5 <;> have HC := Lib.hid HC0 <;> clear h5 HC0
            · have HV := Lib.hid (BADM.out fun g => by
                unfold methB at g
                rw [HSG.out, H5.out, Bool.and_false] at g
                cases g)
              go_wp2_with fail
              refine HC.out.mono ?_
              rintro e w8 ⟨rfl, b⟩
              have W8B := Lib.hid b
              have Hw8 := Lib.hid (HBN.out.trans (b.mono HBN.out.size))
              clear b HC c0 c1 y0 y1 y2 y3 d0 d1 d2
              obtain ⟨c0, c1⟩ := cell2 (K1.out.below Hw8.out)
              obtain ⟨y0, y1, y2, y3⟩ := cell4 (K2.out.below Hw8.out)
              go_wp2_with fail
              go_ret
              exact ⟨ret_bool HV.out, B2.out.trans (Hw8.out.mono B2.out.size)⟩
            go_wp2_with fail
            refine HC.out.mono ?_
            rintro e w8 ⟨rfl, b⟩
            have W8B := Lib.hid b
            have Hw8 := Lib.hid (HBN.out.trans (b.mono HBN.out.size))
            clear b HC c0 c1 y0 y1 y2 y3 d0 d1 d2
            obtain ⟨c0, c1⟩ := cell2 (K1.out.below Hw8.out)
            obtain ⟨y0, y1, y2, y3⟩ := cell4 (K2.out.below Hw8.out)
            obtain ⟨d0, d1, d2⟩ := cell3m (KX.out.below W8B.out)
            have HC0 := HAS.out sg w8 Hw8.out
            cases hf2 : fitB u.types sg k <;> rw [hf2] at HC0 <;> have HF2 := Lib.hid hf2 <;> have HC := Lib.hid HC0 <;> clear hf2 HC0
            · have HV := Lib.hid (BADM.out fun g => by
                unfold methB at g
                rw [HSG.out, HF2.out, Bool.and_false] at g
                cases g)
              go_wp2_with fail
              refine HC.out.mono ?_
              rintro e w9 ⟨rfl, b⟩
              try have W9B := Lib.hid (W8B.out.trans (b.mono W8B.out.size))
              have Hw9 := Lib.hid (Hw8.out.trans (b.mono Hw8.out.size))
              clear b HC c0 c1 y0 y1 y2 y3 d0 d1 d2
              obtain ⟨c0, c1⟩ := cell2 (K1.out.below Hw9.out)
              obtain ⟨y0, y1, y2, y3⟩ := cell4 (K2.out.below Hw9.out)
              go_wp2_with fail
              go_ret
              exact ⟨ret_bool HV.out, B2.out.trans (Hw9.out.mono B2.out.size)⟩
            have HMB2 := Lib.hid (show methB u.types k x = true by
              unfold methB
              rw [HVN.out, NA.out, HSG.out, H5.out, HF2.out]
              rfl)
            go_wp2_with fail
            refine HC.out.mono ?_
            rintro e w9 ⟨rfl, b⟩
            try have W9B := Lib.hid (W8B.out.trans (b.mono W8B.out.size))
            have Hw9 := Lib.hid (Hw8.out.trans (b.mono Hw8.out.size))
            clear b HC c0 c1 y0 y1 y2 y3 d0 d1 d2
            obtain ⟨c0, c1⟩ := cell2 (K1.out.below Hw9.out)
            obtain ⟨y0, y1, y2, y3⟩ := cell4 (K2.out.below Hw9.out)
            obtain ⟨d0, d1, d2⟩ := cell3m (KX.out.below W9B.out)
            by_cases h0 : k2 = 0
            · subst h0
              have Hx := Lib.hid (GOOD.out HMB2.out rfl)
              go_wp2_with fail
              go_quiet (fail)
              go_wp2_with fail
              go_roundw
              case rel => exact ⟨0 + 1, by omega, by go_num, Hx, Lib.hid (below_drewN Hw9.out _)⟩
              case measure => first | (simp [intOf]; done) | (simp [intOf]; omega)
            · obtain ⟨p, hp⟩ : ∃ p, k2 = p + 1 := ⟨k2 - 1, by omega⟩
              have hpl : p < n.methods.length := by omega
              have hpn : p < nm := by omega
              have hpI : (p : Int) < (nm : Int) := by omega
              have cp := (Hw9.out.cell HMB.out).trans (HMC.out p hpl).1
              obtain ⟨v2, hv2⟩ : ∃ v, n.methods[p].name = v := ⟨_, rfl⟩
              rw [hv2] at cp
              have hpos : (0 : Int) < (k2 : Int) := by omega
              have hposd : decide ((0 : Int) < (k2 : Int)) = true := decide_eq_true hpos
              have hposn : 0 < k2 := by omega
              have hsub : (k2 : Int) - 1 = (p : Int) := by omega
              have hsubw : IntKind.i64.wrap ((k2 : Int) - 1) = (p : Int) := by rw [hsub]; exact IntWalk.i64_in _ (by omega)
              have HRE := Lib.hid (show riseB (n.methods.map (·.name)) k2 = lessB v2 v by rw [rise_succ hkl2 hp, hv2]; congr 1; rw [HXE.out, HVN.out])
              clear hp hv2 h0
              cases hls : Op.bytesLess v2.toList v.toList
              · have LS := Lib.hid hls
                have HV := Lib.hid (BADR.out (by rw [HRE.out]; exact LS.out))
                go_wp2_with fail
                go_quiet (fail)
                go_wp2_with fail
                go_ret
                exact ⟨ret_bool HV.out, B2.out.trans ((below_drewN Hw9.out _).mono B2.out.size)⟩
              · have LS := Lib.hid hls
                have Hx := Lib.hid (GOOD.out HMB2.out (by rw [HRE.out]; exact LS.out))
                go_wp2_with fail
                go_quiet (fail)
                go_wp2_with fail
                go_roundw
                case rel => exact ⟨k2 + 1, by omega, by go_num, Hx, Lib.hid (below_drewN Hw9.out _)⟩
                case measure => first | (simp [intOf]; done) | (simp [intOf]; omega)
          · obtain rfl : k2 = nm := by omega
            have GOODR := Lib.hid (show underB u.types n = true → true = R from fun h => by
              rw [← HR.out]
              exact (oneU_iff.2 ⟨by rw [HS.out]; exact NB.out, ⟨by rw [HNB.out]; omega, by rw [HNM.out]; omega⟩, h, by rw [HNB.out]; exact HBD.out, fun m hm => by
                obtain ⟨j, hj, rfl⟩ := List.getElem_of_mem hm
                rw [HNB.out]
                exact (Hall.out j hj (by rw [← HNM.out]; exact hj)).1, rises_of fun j hj => (Hall.out j (by rw [List.length_map] at hj; exact hj) (by rw [List.length_map] at hj; rw [← HNM.out]; exact hj)).2⟩).symm)
            have UGOOD := Lib.hid (show (n.methods = [] ∨ (isB u.types ud 7 = false ∧ isB u.types ud 1 = false)) → underB u.types n = true from fun h => underB_iff2.2 ⟨by rw [HUD.out, HNB.out]; exact HF.out, by rw [HUD.out]; exact H8.out, by rw [HUD.out]; exact H9.out, by rw [HUD.out]; exact HUT.out, by rw [HUD.out]; exact h⟩)
            by_cases m0 : k2 = 0
            · have HV := Lib.hid (GOODR.out (UGOOD.out (.inl (List.eq_nil_of_length_eq_zero (by rw [HNM.out]; exact m0)))))
              subst m0
              go_wp2_with fail
              go_ret
              exact ⟨ret_bool HV.out, B2.out.trans (HB6.out.mono B2.out.size)⟩
            · have hm0 : ((k2 : Int) == 0) = false := by rw [beq_eq_false_iff_ne]; omega
              have UB2 := Lib.hid (show (isB u.types ud 7 = true ∨ isB u.types ud 1 = true) → false = R from fun h => UBAD.out fun g => by
                have := (underB_iff2.1 g).2.2.2.2
                rw [HUD.out] at this
                rcases this with g | ⟨g1, g2⟩
                · have e := HNM.out
                  rw [g] at e
                  exact m0 e.symm
                · rcases h with h | h
                  · rw [g1] at h; cases h
                  · rw [g2] at h; cases h)
              clear m0
              have HC0 := HIS.out ud 7 wr HB6.out
              cases h7 : isB u.types ud 7 <;> rw [h7] at HC0 <;> have H7 := Lib.hid h7 <;> have HC := Lib.hid HC0 <;> clear h7 HC0
              case true =>
                have HV := Lib.hid (UB2.out (.inl H7.out))
                go_wp2_with fail
                refine HC.out.mono ?_
                rintro e w8 ⟨rfl, b⟩
                have Hw8 := Lib.hid (HB6.out.trans (b.mono HB6.out.size))
                clear b HC c0 c1 y0 y1 y2 y3
                obtain ⟨c0, c1⟩ := cell2 (K1.out.below Hw8.out)
                obtain ⟨y0, y1, y2, y3⟩ := cell4 (K2.out.below Hw8.out)
                go_wp2_with fail
                go_ret
                exact ⟨ret_bool HV.out, B2.out.trans (Hw8.out.mono B2.out.size)⟩
              go_wp2_with fail
              refine HC.out.mono ?_
              rintro e w8 ⟨rfl, b⟩
              have Hw8 := Lib.hid (HB6.out.trans (b.mono HB6.out.size))
              clear b HC c0 c1 y0 y1 y2 y3
              obtain ⟨c0, c1⟩ := cell2 (K1.out.below Hw8.out)
              obtain ⟨y0, y1, y2, y3⟩ := cell4 (K2.out.below Hw8.out)
              have HC0 := HIS.out ud 1 w8 Hw8.out
              cases h1 : isB u.types ud 1 <;> rw [h1] at HC0 <;> have H1 := Lib.hid h1 <;> have HC := Lib.hid HC0 <;> clear h1 HC0
              case true =>
                have HV := Lib.hid (UB2.out (.inr H1.out))
                go_wp2_with fail
                refine HC.out.mono ?_
                rintro e w9 ⟨rfl, b⟩
                try have W9B := Lib.hid (W8B.out.trans (b.mono W8B.out.size))
                have Hw9 := Lib.hid (Hw8.out.trans (b.mono Hw8.out.size))
                clear b HC c0 c1 y0 y1 y2 y3
                obtain ⟨c0, c1⟩ := cell2 (K1.out.below Hw9.out)
                obtain ⟨y0, y1, y2, y3⟩ := cell4 (K2.out.below Hw9.out)
                go_wp2_with fail
                go_ret
                exact ⟨ret_bool HV.out, B2.out.trans (Hw9.out.mono B2.out.size)⟩
              have HV := Lib.hid (GOODR.out (UGOOD.out (.inr ⟨H7.out, H1.out⟩)))
              go_wp2_with fail
              refine HC.out.mono ?_
              rintro e w9 ⟨rfl, b⟩
              try have W9B := Lib.hid (W8B.out.trans (b.mono W8B.out.size))
              have Hw9 := Lib.hid (Hw8.out.trans (b.mono Hw8.out.size))
              clear b HC c0 c1 y0 y1 y2 y3
              obtain ⟨c0, c1⟩ := cell2 (K1.out.below Hw9.out)
              obtain ⟨y0, y1, y2, y3⟩ := cell4 (K2.out.below Hw9.out)
              go_wp2_with fail
              go_ret
              exact ⟨ret_bool HV.out, B2.out.trans (Hw9.out.mono B2.out.size)⟩
end Go.Proofs.YtkmnfkhchcoamaaGreatDoor
/- The reference's Fits, Right. -/
namespace Go.Proofs.YtkmnfkhchcoamaaGreatDoor
open Go.RowKit
set_option linter.unusedSimpArgs false
set_option linter.unusedVariables false

set_option maxHeartbeats 4000000 in
set_option maxRecDepth 100000 in
theorem reffits_any (u : Un) (ao no : Option Addr) (ac nc : Nat) (t : Ty) (wo ko : Option Addr) (wc kc : Nat) (w : World) (hU : UnC w ao no ac nc u) (ht : TyC w wo ko t) :
    Calls Tryz.prog 21 #[unV u ao ac no nc, tyV t wo wc ko kc] w fun e w' => e = .returned (.bool (fitsU u.named t)) ∧ Below w.heap.size w w' := by
  obtain ⟨R, hR⟩ : ∃ R, fitsU u.named t = R := ⟨_, rfl⟩
  rw [hR]
  have HR := Lib.hid hR
  have HU := Lib.hid hU
  have hnl := hU.nl
  obtain ⟨w1, h1⟩ : ∃ w1, w.alloc (.cells #[.slice ao u.types.length ac, .slice no u.named.length nc] 25) = w1 := ⟨_, rfl⟩
  obtain ⟨k1, q1, z1⟩ := box_new h1
  obtain ⟨w2, h2⟩ : ∃ w2, w1.alloc (.cells #[.int .i64 t.kind, .string t.name, .int .i64 t.n, .slice wo t.words.length wc, .slice ko t.kids.length kc] 38) = w2 := ⟨_, rfl⟩
  obtain ⟨k2, q2, z2⟩ := box_new h2
  have B2 := Lib.hid (q1.trans (q2.mono q1.size))
  have HF0 := refat_any u ao no ac nc t.name w2 (hU.below B2.out)
  unfold unV at HF0
  unfold unV tyV
  obtain ⟨kd, hkd⟩ : ∃ kd, t.kind = kd := ⟨_, rfl⟩
  obtain ⟨s, hs⟩ : ∃ s, t.name = s := ⟨_, rfl⟩
  obtain ⟨kl, hkl⟩ : ∃ kl, t.kids.length = kl := ⟨_, rfl⟩
  obtain ⟨n, hn⟩ : ∃ n, u.named.length = n := ⟨_, rfl⟩
  obtain ⟨at_, hat⟩ : ∃ a, atU u.named t.name = a := ⟨_, rfl⟩
  have HKD := Lib.hid hkd
  have HKL := Lib.hid hkl
  have HN := Lib.hid hn
  have HAT := Lib.hid hat
  rw [hat, hs] at HF0
  rw [hkd, hs, hkl] at h2 ⊢
  rw [hn] at h1 hnl HF0 ⊢
  obtain ⟨c0, c1⟩ := cell2 (k1.below q2)
  obtain ⟨d0, d1, d2, d3, d4⟩ := cell5 k2
  rw [hn] at c1
  rw [hkd] at d0
  rw [hs] at d1
  rw [hkl] at d4
  have HF := Lib.hid HF0
  by_cases h8 : kd = 8
  · have q8 : (kd != 8) = false := by rw [bne_eq_false_iff_eq]; exact h8
    have HRF := Lib.hid (show (decide (0 ≤ at_) && decide ((u.named.getD at_.toNat ⟨⟨#[]⟩, [], 0, []⟩).bounds.length = kl)) = R by
      rw [← HR.out]
      unfold fitsU
      rw [show decide (t.kind ≠ 8) = false from decide_eq_false (fun g => g (HKD.out.trans h8)), Bool.false_or, HAT.out, HKL.out])
    have hrg : at_ < (u.named.length : Int) := by
      rw [← hat]
      unfold atU
      cases hf : u.named.findIdx? (fun n => decide (n.name = t.name)) with
      | none => simp only; omega
      | some i => rw [List.findIdx?_eq_some_iff_getElem] at hf; obtain ⟨hi, -⟩ := hf; simp only; omega
    rw [hn] at hrg
    clear hkd hs hkl hn hat k1 q1 z1 k2 z2 hR hU ht h8 HF0
    by_cases h0 : 0 ≤ at_
    · obtain ⟨z, rfl⟩ : ∃ z : Nat, at_ = (z : Int) := ⟨at_.toNat, by omega⟩
      have hzn : z < n := by omega
      have hI : (z : Int) < (n : Int) := by omega
      have hz0 : decide ((0 : Int) ≤ (z : Int)) = true := decide_eq_true h0
      have hlu : z < u.named.length := by rw [HN.out]; exact hzn
      obtain ⟨b, o, rfl, hb, hc⟩ := HU.out.named.cells (by omega)
      obtain ⟨bo, bc, mo, mc, -, a1', -, -, -, -, -⟩ := hc z hlu
      obtain ⟨bl, hbl⟩ : ∃ bl, u.named[z].bounds.length = bl := ⟨_, rfl⟩
      rw [hbl] at a1'
      have HV := Lib.hid (show ((bl : Int) == (kl : Int)) = R by
        rw [← HRF.out, Int.toNat_natCast, getD_of hlu, hbl, decide_eq_true h0, Bool.true_and, Bool.eq_iff_iff, beq_iff_eq, decide_eq_true_eq]
        omega)
      clear hc hbl h0
      go_enter Tryz.func21, Tryz.ntmps21
      go_wp2_with fail
      refine HF.out.mono ?_
      rintro e w3 ⟨rfl, b3⟩
      have B3 := Lib.hid (B2.out.trans (b3.mono B2.out.size))
      have a1 := (B3.out.cell hb).trans a1'
      have e1 := (b3.cell (p := ⟨w.heap.size, 1, none⟩) (cell_ltB c1)).trans c1
      have e4 := (b3.cell (p := ⟨w1.heap.size, 4, none⟩) (cell_ltB d4)).trans d4
      clear b3 c0 c1 d0 d1 d2 d3 d4 h1 h2 a1' hb
      go_wp2_with fail
      go_quiet (fail)
      go_wp2_with fail
      go_ret
      exact ⟨ret_bool HV.out, below_drewN B3.out _⟩
    · have hz0 : decide ((0 : Int) ≤ at_) = false := decide_eq_false h0
      have HV := Lib.hid (show false = R by rw [← HRF.out, decide_eq_false h0, Bool.false_and])
      go_enter Tryz.func21, Tryz.ntmps21
      go_wp2_with fail
      refine HF.out.mono ?_
      rintro e w3 ⟨rfl, b3⟩
      have B3 := Lib.hid (B2.out.trans (b3.mono B2.out.size))
      clear b3 c0 c1 d0 d1 d2 d3 d4 h1 h2
      go_wp2_with fail
      go_quiet (fail)
      go_wp2_with fail
      go_ret
      exact ⟨ret_bool HV.out, below_drewN B3.out _⟩
  · have q8 : (kd != 8) = true := by rw [bne_iff_ne]; exact h8
    have HV := Lib.hid (show true = R by rw [← HR.out, fits_other (by rw [hkd]; exact h8)])
    clear hkd hs hkl hn hat k1 q1 z1 k2 q2 z2 hR hU ht h8 HF0
    go_enter Tryz.func21, Tryz.ntmps21
    go_wp2_with fail
    go_ret
    exact ⟨ret_bool HV.out, B2.out⟩
set_option maxHeartbeats 16000000 in
set_option maxRecDepth 100000 in
theorem refright_uany (u : Un) (ao no : Option Addr) (ac nc : Nat) (w : World) (hU : UnC w ao no ac nc u) :
    Calls Tryz.prog 7 #[unV u ao ac no nc] w fun e w' => e = .returned (.bool (rightU u)) ∧ Below w.heap.size w w' := by
  obtain ⟨R, hR⟩ : ∃ R, rightU u = R := ⟨_, rfl⟩
  rw [hR]
  have HR := Lib.hid (show (rightT u.types && restU u) = R by rw [← rightU_rest]; exact hR)
  have HU := Lib.hid hU
  have hnl := hU.nl
  have htl := hU.tl
  have htc := hU.tc
  obtain ⟨w1, h1⟩ : ∃ w1, w.alloc (.cells #[.slice ao u.types.length ac, .slice no u.named.length nc] 25) = w1 := ⟨_, rfl⟩
  obtain ⟨k1, q1, z1⟩ := box_new h1
  have B1 := Lib.hid q1
  have HP0 := refright_any u.types ao ac w1 (hU.types.below q1) hU.tl hU.tc
  unfold unV
  obtain ⟨L, hL⟩ : ∃ L, u.types.length = L := ⟨_, rfl⟩
  obtain ⟨n, hn⟩ : ∃ n, u.named.length = n := ⟨_, rfl⟩
  have HL := Lib.hid hL
  have HN := Lib.hid hn
  rw [hL, hn] at h1 k1
  rw [hL] at htl HP0 htc ⊢
  rw [hn] at hnl ⊢
  have K1 := Lib.hid k1
  obtain ⟨c0, c1⟩ := cell2 k1
  clear hL hn hU hR k1 q1 z1
  go_enter Tryz.func7, Tryz.ntmps7
  cases ht : rightT u.types <;> rw [ht] at HP0 <;> have HT := Lib.hid ht <;> have HP := Lib.hid HP0 <;> clear ht HP0
  · have HV := Lib.hid (show false = R by rw [← HR.out, HT.out, Bool.false_and])
    go_wp2_with fail
    refine HP.out.mono ?_
    rintro e w2 ⟨rfl, b2⟩
    have B2 := Lib.hid (B1.out.trans (b2.mono B1.out.size))
    clear b2 c0 c1 h1
    go_wp2_with fail
    go_ret
    exact ⟨ret_bool HV.out, B2.out⟩
  have HR2 := Lib.hid (show restU u = R by rw [← HR.out, HT.out, Bool.true_and])
  have BAD := Lib.hid (show (restU u = true → False) → false = R from fun h => is_false fun g => h (HR2.out.trans g))
  by_cases h60 : 60 < n
  · have hd : decide ((60 : Int) < (n : Int)) = true := decide_eq_true (by omega)
    have HV := Lib.hid (BAD.out fun g => by have := (restU_iff.1 g).1; rw [HN.out] at this; omega)
    go_wp2_with fail
    refine HP.out.mono ?_
    rintro e w2 ⟨rfl, b2⟩
    have B2 := Lib.hid (B1.out.trans (b2.mono B1.out.size))
    clear c0 c1 h1
    obtain ⟨c0, c1⟩ := cell2 (K1.out.below b2)
    clear b2
    go_wp2_with fail
    go_ret
    exact ⟨ret_bool HV.out, B2.out⟩
  have hd : decide ((60 : Int) < (n : Int)) = false := decide_eq_false (by omega)
  go_wp2_with fail
  refine HP.out.mono ?_
  rintro e w2 ⟨rfl, b2⟩
  have B2 := Lib.hid (B1.out.trans (b2.mono B1.out.size))
  have K2 := Lib.hid (K1.out.below b2)
  clear c0 c1 h1 b2 HP
  obtain ⟨c0, c1⟩ := cell2 K2.out
  go_wp2_with fail
  clear c0 c1
  go_loopw [20] (fun v wr => ∃ k : Nat, k ≤ n ∧ v = .int .i64 k ∧ Hid (∀ j (hj : j < u.named.length), j < k → oneU u.types u.named[j] = true ∧ riseB (namesU u.named) j = true) ∧ Hid (Below w2.heap.size w2 wr)) (fun v _ => n - (intOf v).toNat)
  case atStart => exact ⟨0, Nat.zero_le _, rfl, Lib.hid (fun j _ hj => absurd hj (Nat.not_lt_zero _)), Lib.hid (Below.refl _ _)⟩
  case round =>
    obtain ⟨k, hk, rfl, Hall, HB⟩ := hrel
    have BW := Lib.hid (B2.out.trans (HB.out.mono B2.out.size))
    by_cases hkn : k < n
    · have hkI : (k : Int) < (n : Int) := by omega
      have hku : k < u.named.length := by rw [HN.out]; exact hkn
      obtain ⟨b, o, rfl, hb, hc⟩ := (HU.out.named.below BW.out).cells (by omega)
      obtain ⟨bo, bc, mo, mc, a0, a1, a2, a3, hbc, hmc, hnc⟩ := hc k hku
      have HCC := Lib.hid hc
      clear hc
      obtain ⟨x, hx⟩ : ∃ x, u.named[k] = x := ⟨_, rfl⟩
      rw [hx] at a0 a1 a2 a3 hbc hmc hnc
      have HX := Lib.hid hx
      obtain ⟨wn, hwn⟩ : ∃ wn, wr.alloc (.cells #[.string x.name, .slice bo x.bounds.length bc, .int .i64 x.under, .slice mo x.methods.length mc] 51) = wn := ⟨_, rfl⟩
      obtain ⟨kx, qx, zx⟩ := box_new hwn
      obtain ⟨xb, hxb⟩ : ∃ xb, wr.heap.size = xb := ⟨_, rfl⟩
      rw [hxb] at kx
      have KX := Lib.hid kx
      have HBN := Lib.hid (HB.out.trans (qx.mono HB.out.size))
      have BWN := Lib.hid (B2.out.trans (HBN.out.mono B2.out.size))
      obtain ⟨d0, d1, d2, d3⟩ := cell4 kx
      obtain ⟨e0, e1⟩ := cell2 (K2.out.below HBN.out)
      have HNA0 := refnamed_any u ao (some ⟨b, o, none⟩) ac nc x bo mo bc mc wn.drew ((HU.out.below BWN.out).below (Below.refl _ _).drew) HT.out ((hnc.below qx).below (Below.refl _ _).drew) hbc hmc
      unfold unV nmV at HNA0
      rw [HL.out, HN.out] at HNA0
      have HBB := Lib.hid (show b < wn.heap.size from Nat.lt_of_lt_of_le hb qx.size)
      have BADO := Lib.hid (show oneU u.types x = false → false = R from fun h => BAD.out fun g => by
        have := (restU_iff.1 g).2.1 _ (List.getElem_mem hku)
        rw [HX.out, h] at this
        cases this)
      have BADR := Lib.hid (show riseB (namesU u.named) k = false → false = R from fun h => BAD.out fun g => by
        have := rises_at (restU_iff.1 g).2.2.1 (k := k) (by rw [namesU_len]; exact hku)
        rw [h] at this
        cases this)
      have GOOD := Lib.hid (show oneU u.types x = true → riseB (namesU u.named) k = true → ∀ j (hj : j < u.named.length), j < k + 1 → oneU u.types u.named[j] = true ∧ riseB (namesU u.named) j = true from fun h1 h2 j hj h => by
        rcases Nat.lt_or_eq_of_le (Nat.le_of_lt_succ h) with c | c
        · exact Hall.out j hj c
        · subst c; rw [HX.out]; exact ⟨h1, h2⟩)
      obtain ⟨s, hs⟩ : ∃ s, x.name = s := ⟨_, rfl⟩
      rw [hs] at a0 d0 hwn HNA0 KX
      have HSN := Lib.hid hs
      clear hx hnc kx qx zx hbc hmc hb hs
      cases ho : oneU u.types x <;> rw [ho] at HNA0 <;> have HO := Lib.hid ho <;> have HNA := Lib.hid HNA0 <;> clear ho HNA0
      · have HV := Lib.hid (BADO.out HO.out)
        go_upto_region 6 with fail
        clear hwn a0 a1 a2 a3 hxb
        refine GoG.start [(21, ⟨w.heap.size, 0, none⟩, .slice ao L ac), (21, ⟨w.heap.size, 1, none⟩, .slice (some ⟨b, o, none⟩) n nc), (21, ⟨xb, 0, none⟩, .string s), (21, ⟨xb, 1, none⟩, .slice bo x.bounds.length bc), (21, ⟨xb, 2, none⟩, .int .i64 x.under), (21, ⟨xb, 3, none⟩, .slice mo x.methods.length mc)] (by kernel_rfl) ?_ ?_
        · exact Keeps.cons (by first | exact e0 | assumption) (Keeps.cons (by first | exact e1 | assumption) (Keeps.cons (by first | exact d0 | assumption) (Keeps.cons (by first | exact d1 | assumption) (Keeps.cons (by first | exact d2 | assumption) (Keeps.cons (by first | exact d3 | assumption) (Keeps.nil))))))
        refine GoG.take (i := 0) (v := ?_) [21] rfl (by kernel_rfl) (by kernel_rfl) (by kernel_rfl) (by kernel_rfl) (by kernel_rfl) (by kernel_rfl) (fun _ _ _ h => h) (.inl ⟨by rfl, fun WW hS => ?_⟩) ?_
        rotate_left
        · have g0 : WW.cell? ⟨w.heap.size, 0, none⟩ = some (.slice ao L ac) := hS (21, ⟨w.heap.size, 0, none⟩, .slice ao L ac) (by simp) (by simp)
          have g1 : WW.cell? ⟨w.heap.size, 1, none⟩ = some (.slice (some ⟨b, o, none⟩) n nc) := hS (21, ⟨w.heap.size, 1, none⟩, .slice (some ⟨b, o, none⟩) n nc) (by simp) (by simp)
          clear hS
          go_simp; try (with_reducible rfl)
        try simp only [Act.put, List.getElem_toArray, List.getElem_cons_succ, List.getElem_cons_zero, List.setIfInBounds_toArray, List.set_cons_zero, List.set_cons_succ]
        refine GoG.take (i := 1) (v := ?_) [21] rfl (by kernel_rfl) (by kernel_rfl) (by kernel_rfl) (by kernel_rfl) (by kernel_rfl) (by kernel_rfl) (fun _ _ _ h => h) (.inl ⟨by rfl, fun WW hS => ?_⟩) ?_
        rotate_left
        · have g0 : WW.cell? ⟨xb, 0, none⟩ = some (.string s) := hS (21, ⟨xb, 0, none⟩, .string s) (by simp) (by simp)
          have g1 : WW.cell? ⟨xb, 1, none⟩ = some (.slice bo x.bounds.length bc) := hS (21, ⟨xb, 1, none⟩, .slice bo x.bounds.length bc) (by simp) (by simp)
          have g2 : WW.cell? ⟨xb, 2, none⟩ = some (.int .i64 x.under) := hS (21, ⟨xb, 2, none⟩, .int .i64 x.under) (by simp) (by simp)
          have g3 : WW.cell? ⟨xb, 3, none⟩ = some (.slice mo x.methods.length mc) := hS (21, ⟨xb, 3, none⟩, .slice mo x.methods.length mc) (by simp) (by simp)
          clear hS
          go_simp; try (with_reducible rfl)
        try simp only [Act.put, List.getElem_toArray, List.getElem_cons_succ, List.getElem_cons_zero, List.setIfInBounds_toArray, List.set_cons_zero, List.set_cons_succ]
        refine GoG.one (i := 2) rfl (by kernel_rfl) (fun K hK => ?_)
        go_simp
        refine HNA.out.mono ?_
        rintro e w6 ⟨rfl, b6⟩
        have B6 := Lib.hid (HBN.out.drew.trans (b6.mono HBN.out.drew.size))
        refine hK.out _ _ (Keeps.cons ((b6.cell (p := ⟨w.heap.size, 0, none⟩) (show _ < wn.heap.size from cell_ltB e0)).trans e0) (Keeps.cons ((b6.cell (p := ⟨w.heap.size, 1, none⟩) (show _ < wn.heap.size from cell_ltB e1)).trans e1) (Keeps.cons ((b6.cell (p := ⟨xb, 0, none⟩) (show _ < wn.heap.size from cell_ltB d0)).trans d0) (Keeps.cons ((b6.cell (p := ⟨xb, 1, none⟩) (show _ < wn.heap.size from cell_ltB d1)).trans d1) (Keeps.cons ((b6.cell (p := ⟨xb, 2, none⟩) (show _ < wn.heap.size from cell_ltB d2)).trans d2) (Keeps.cons ((b6.cell (p := ⟨xb, 3, none⟩) (show _ < wn.heap.size from cell_ltB d3)).trans d3) (Keeps.nil))))))) ?_
        clear hK K b6
        try simp only [Act.put, List.getElem_toArray, List.getElem_cons_succ, List.getElem_cons_zero, List.setIfInBounds_toArray, List.set_cons_zero, List.set_cons_succ]
        refine GoG.take (i := 3) (v := ?_) [] rfl (by kernel_rfl) (by kernel_rfl) (by kernel_rfl) (by kernel_rfl) (by kernel_rfl) (by kernel_rfl) (fun _ _ _ h => h) (yields_free (by rfl) (fun w => ?_)) ?_
        rotate_left
        · go_simp; try (with_reducible rfl)
        try simp only [Act.put, List.getElem_toArray, List.getElem_cons_succ, List.getElem_cons_zero, List.setIfInBounds_toArray, List.set_cons_zero, List.set_cons_succ]
        refine GoG.take (i := 4) (v := ?_) [] rfl (by kernel_rfl) (by kernel_rfl) (by kernel_rfl) (by kernel_rfl) (by kernel_rfl) (by kernel_rfl) (fun _ _ _ h => h) (yields_free (by rfl) (fun w => ?_)) ?_
        rotate_left
        · go_simp; try (with_reducible rfl)
        try simp only [Act.put, List.getElem_toArray, List.getElem_cons_succ, List.getElem_cons_zero, List.setIfInBounds_toArray, List.set_cons_zero, List.set_cons_succ]
        refine GoG.take (i := 5) (v := undef) [] rfl (by kernel_rfl) (by kernel_rfl) (by kernel_rfl) (by kernel_rfl) (by kernel_rfl) (by kernel_rfl) (fun _ _ _ h => h) (.inr ⟨by rfl, rfl⟩) ?_
        try simp only [Act.put, List.getElem_toArray, List.getElem_cons_succ, List.getElem_cons_zero, List.setIfInBounds_toArray, List.set_cons_zero, List.set_cons_succ]
        refine GoG.take (i := 6) (v := undef) [] rfl (by kernel_rfl) (by kernel_rfl) (by kernel_rfl) (by kernel_rfl) (by kernel_rfl) (by kernel_rfl) (fun _ _ _ h => h) (.inr ⟨by rfl, rfl⟩) ?_
        try simp only [Act.put, List.getElem_toArray, List.getElem_cons_succ, List.getElem_cons_zero, List.setIfInBounds_toArray, List.set_cons_zero, List.set_cons_succ]
        refine GoG.take (i := 7) (v := undef) [] rfl (by kernel_rfl) (by kernel_rfl) (by kernel_rfl) (by kernel_rfl) (by kernel_rfl) (by kernel_rfl) (fun _ _ _ h => h) (.inr ⟨by rfl, rfl⟩) ?_
        try simp only [Act.put, List.getElem_toArray, List.getElem_cons_succ, List.getElem_cons_zero, List.setIfInBounds_toArray, List.set_cons_zero, List.set_cons_succ]
        refine GoG.take (i := 8) (v := undef) [] rfl (by kernel_rfl) (by kernel_rfl) (by kernel_rfl) (by kernel_rfl) (by kernel_rfl) (by kernel_rfl) (fun _ _ _ h => h) (.inr ⟨by rfl, rfl⟩) ?_
        try simp only [Act.put, List.getElem_toArray, List.getElem_cons_succ, List.getElem_cons_zero, List.setIfInBounds_toArray, List.set_cons_zero, List.set_cons_succ]
        refine GoG.take (i := 9) (v := undef) [] rfl (by kernel_rfl) (by kernel_rfl) (by kernel_rfl) (by kernel_rfl) (by kernel_rfl) (by kernel_rfl) (fun _ _ _ h => h) (.inr ⟨by rfl, rfl⟩) ?_
        try simp only [Act.put, List.getElem_toArray, List.getElem_cons_succ, List.getElem_cons_zero, List.setIfInBounds_toArray, List.set_cons_zero, List.set_cons_succ]
        refine GoG.take (i := 10) (v := undef) [] rfl (by kernel_rfl) (by kernel_rfl) (by kernel_rfl) (by kernel_rfl) (by kernel_rfl) (by kernel_rfl) (fun _ _ _ h => h) (.inr ⟨by rfl, rfl⟩) ?_
        try simp only [Act.put, List.getElem_toArray, List.getElem_cons_succ, List.getElem_cons_zero, List.setIfInBounds_toArray, List.set_cons_zero, List.set_cons_succ]
        refine GoG.take (i := 11) (v := undef) [] rfl (by kernel_rfl) (by kernel_rfl) (by kernel_rfl) (by kernel_rfl) (by kernel_rfl) (by kernel_rfl) (fun _ _ _ h => h) (.inr ⟨by rfl, rfl⟩) ?_
        try simp only [Act.put, List.getElem_toArray, List.getElem_cons_succ, List.getElem_cons_zero, List.setIfInBounds_toArray, List.set_cons_zero, List.set_cons_succ]
        refine GoG.take (i := 12) (v := undef) [] rfl (by kernel_rfl) (by kernel_rfl) (by kernel_rfl) (by kernel_rfl) (by kernel_rfl) (by kernel_rfl) (fun _ _ _ h => h) (.inr ⟨by rfl, rfl⟩) ?_
        try simp only [Act.put, List.getElem_toArray, List.getElem_cons_succ, List.getElem_cons_zero, List.setIfInBounds_toArray, List.set_cons_zero, List.set_cons_succ]
        refine GoG.take (i := 13) (v := undef) [] rfl (by kernel_rfl) (by kernel_rfl) (by kernel_rfl) (by kernel_rfl) (by kernel_rfl) (by kernel_rfl) (fun _ _ _ h => h) (.inr ⟨by rfl, rfl⟩) ?_
        try simp only [Act.put, List.getElem_toArray, List.getElem_cons_succ, List.getElem_cons_zero, List.setIfInBounds_toArray, List.set_cons_zero, List.set_cons_succ]
        refine GoG.take (i := 14) (v := undef) [] rfl (by kernel_rfl) (by kernel_rfl) (by kernel_rfl) (by kernel_rfl) (by kernel_rfl) (by kernel_rfl) (fun _ _ _ h => h) (.inr ⟨by rfl, rfl⟩) ?_
        try simp only [Act.put, List.getElem_toArray, List.getElem_cons_succ, List.getElem_cons_zero, List.setIfInBounds_toArray, List.set_cons_zero, List.set_cons_succ]
        refine GoG.take (i := 15) (v := undef) [] rfl (by kernel_rfl) (by kernel_rfl) (by kernel_rfl) (by kernel_rfl) (by kernel_rfl) (by kernel_rfl) (fun _ _ _ h => h) (.inr ⟨by rfl, rfl⟩) ?_
        try simp only [Act.put, List.getElem_toArray, List.getElem_cons_succ, List.getElem_cons_zero, List.setIfInBounds_toArray, List.set_cons_zero, List.set_cons_succ]
        refine GoG.take (i := 16) (v := undef) [] rfl (by kernel_rfl) (by kernel_rfl) (by kernel_rfl) (by kernel_rfl) (by kernel_rfl) (by kernel_rfl) (fun _ _ _ h => h) (.inr ⟨by rfl, rfl⟩) ?_
        try simp only [Act.put, List.getElem_toArray, List.getElem_cons_succ, List.getElem_cons_zero, List.setIfInBounds_toArray, List.set_cons_zero, List.set_cons_succ]
        refine GoG.take (i := 17) (v := undef) [] rfl (by kernel_rfl) (by kernel_rfl) (by kernel_rfl) (by kernel_rfl) (by kernel_rfl) (by kernel_rfl) (fun _ _ _ h => h) (.inr ⟨by rfl, rfl⟩) ?_
        try simp only [Act.put, List.getElem_toArray, List.getElem_cons_succ, List.getElem_cons_zero, List.setIfInBounds_toArray, List.set_cons_zero, List.set_cons_succ]
        refine GoG.take (i := 18) (v := undef) [] rfl (by kernel_rfl) (by kernel_rfl) (by kernel_rfl) (by kernel_rfl) (by kernel_rfl) (by kernel_rfl) (fun _ _ _ h => h) (.inr ⟨by rfl, rfl⟩) ?_
        try simp only [Act.put, List.getElem_toArray, List.getElem_cons_succ, List.getElem_cons_zero, List.setIfInBounds_toArray, List.set_cons_zero, List.set_cons_succ]
        refine GoG.take (i := 19) (v := ?_) [] rfl (by kernel_rfl) (by kernel_rfl) (by kernel_rfl) (by kernel_rfl) (by kernel_rfl) (by kernel_rfl) (fun _ _ _ h => h) (yields_free (by rfl) (fun w => ?_)) ?_
        rotate_left
        · go_simp; try (with_reducible rfl)
        try simp only [Act.put, List.getElem_toArray, List.getElem_cons_succ, List.getElem_cons_zero, List.setIfInBounds_toArray, List.set_cons_zero, List.set_cons_succ]
        refine GoG.done (by kernel_rfl) ?_ _
        clear d0 d1 d2 d3 e0 e1
        go_wp2_with fail
        go_ret
        exact ⟨ret_bool HV.out, B2.out.trans (B6.out.mono B2.out.size)⟩
      · by_cases h0 : k = 0
        · have RI := Lib.hid (show riseB (namesU u.named) k = true from by rw [h0]; rfl)
          have hn0 : ¬ (0 : Int) < (k : Int) := by omega
          have hd0 : decide ((0 : Int) < (k : Int)) = false := decide_eq_false hn0
          have hnn : ¬ 0 < k := by omega
          have Hx := Lib.hid (GOOD.out HO.out RI.out)
          clear h0
          go_upto_region 6 with fail
          clear hwn a0 a1 a2 a3 hxb
          refine GoG.start [(21, ⟨w.heap.size, 0, none⟩, .slice ao L ac), (21, ⟨w.heap.size, 1, none⟩, .slice (some ⟨b, o, none⟩) n nc), (21, ⟨xb, 0, none⟩, .string s), (21, ⟨xb, 1, none⟩, .slice bo x.bounds.length bc), (21, ⟨xb, 2, none⟩, .int .i64 x.under), (21, ⟨xb, 3, none⟩, .slice mo x.methods.length mc)] (by kernel_rfl) ?_ ?_
          · exact Keeps.cons (by first | exact e0 | assumption) (Keeps.cons (by first | exact e1 | assumption) (Keeps.cons (by first | exact d0 | assumption) (Keeps.cons (by first | exact d1 | assumption) (Keeps.cons (by first | exact d2 | assumption) (Keeps.cons (by first | exact d3 | assumption) (Keeps.nil))))))
          refine GoG.take (i := 0) (v := ?_) [21] rfl (by kernel_rfl) (by kernel_rfl) (by kernel_rfl) (by kernel_rfl) (by kernel_rfl) (by kernel_rfl) (fun _ _ _ h => h) (.inl ⟨by rfl, fun WW hS => ?_⟩) ?_
          rotate_left
          · have g0 : WW.cell? ⟨w.heap.size, 0, none⟩ = some (.slice ao L ac) := hS (21, ⟨w.heap.size, 0, none⟩, .slice ao L ac) (by simp) (by simp)
            have g1 : WW.cell? ⟨w.heap.size, 1, none⟩ = some (.slice (some ⟨b, o, none⟩) n nc) := hS (21, ⟨w.heap.size, 1, none⟩, .slice (some ⟨b, o, none⟩) n nc) (by simp) (by simp)
            clear hS
            go_simp; try (with_reducible rfl)
          try simp only [Act.put, List.getElem_toArray, List.getElem_cons_succ, List.getElem_cons_zero, List.setIfInBounds_toArray, List.set_cons_zero, List.set_cons_succ]
          refine GoG.take (i := 1) (v := ?_) [21] rfl (by kernel_rfl) (by kernel_rfl) (by kernel_rfl) (by kernel_rfl) (by kernel_rfl) (by kernel_rfl) (fun _ _ _ h => h) (.inl ⟨by rfl, fun WW hS => ?_⟩) ?_
          rotate_left
          · have g0 : WW.cell? ⟨xb, 0, none⟩ = some (.string s) := hS (21, ⟨xb, 0, none⟩, .string s) (by simp) (by simp)
            have g1 : WW.cell? ⟨xb, 1, none⟩ = some (.slice bo x.bounds.length bc) := hS (21, ⟨xb, 1, none⟩, .slice bo x.bounds.length bc) (by simp) (by simp)
            have g2 : WW.cell? ⟨xb, 2, none⟩ = some (.int .i64 x.under) := hS (21, ⟨xb, 2, none⟩, .int .i64 x.under) (by simp) (by simp)
            have g3 : WW.cell? ⟨xb, 3, none⟩ = some (.slice mo x.methods.length mc) := hS (21, ⟨xb, 3, none⟩, .slice mo x.methods.length mc) (by simp) (by simp)
            clear hS
            go_simp; try (with_reducible rfl)
          try simp only [Act.put, List.getElem_toArray, List.getElem_cons_succ, List.getElem_cons_zero, List.setIfInBounds_toArray, List.set_cons_zero, List.set_cons_succ]
          refine GoG.one (i := 2) rfl (by kernel_rfl) (fun K hK => ?_)
          go_simp
          refine HNA.out.mono ?_
          rintro e w6 ⟨rfl, b6⟩
          have B6 := Lib.hid (HBN.out.drew.trans (b6.mono HBN.out.drew.size))
          refine hK.out _ _ (Keeps.cons ((b6.cell (p := ⟨w.heap.size, 0, none⟩) (show _ < wn.heap.size from cell_ltB e0)).trans e0) (Keeps.cons ((b6.cell (p := ⟨w.heap.size, 1, none⟩) (show _ < wn.heap.size from cell_ltB e1)).trans e1) (Keeps.cons ((b6.cell (p := ⟨xb, 0, none⟩) (show _ < wn.heap.size from cell_ltB d0)).trans d0) (Keeps.cons ((b6.cell (p := ⟨xb, 1, none⟩) (show _ < wn.heap.size from cell_ltB d1)).trans d1) (Keeps.cons ((b6.cell (p := ⟨xb, 2, none⟩) (show _ < wn.heap.size from cell_ltB d2)).trans d2) (Keeps.cons ((b6.cell (p := ⟨xb, 3, none⟩) (show _ < wn.heap.size from cell_ltB d3)).trans d3) (Keeps.nil))))))) ?_
          clear hK K b6
          try simp only [Act.put, List.getElem_toArray, List.getElem_cons_succ, List.getElem_cons_zero, List.setIfInBounds_toArray, List.set_cons_zero, List.set_cons_succ]
          refine GoG.take (i := 3) (v := ?_) [] rfl (by kernel_rfl) (by kernel_rfl) (by kernel_rfl) (by kernel_rfl) (by kernel_rfl) (by kernel_rfl) (fun _ _ _ h => h) (yields_free (by rfl) (fun w => ?_)) ?_
          rotate_left
          · go_simp; try (with_reducible rfl)
          try simp only [Act.put, List.getElem_toArray, List.getElem_cons_succ, List.getElem_cons_zero, List.setIfInBounds_toArray, List.set_cons_zero, List.set_cons_succ]
          refine GoG.take (i := 4) (v := ?_) [] rfl (by kernel_rfl) (by kernel_rfl) (by kernel_rfl) (by kernel_rfl) (by kernel_rfl) (by kernel_rfl) (fun _ _ _ h => h) (yields_free (by rfl) (fun w => ?_)) ?_
          rotate_left
          · go_simp; try (with_reducible rfl)
          try simp only [Act.put, List.getElem_toArray, List.getElem_cons_succ, List.getElem_cons_zero, List.setIfInBounds_toArray, List.set_cons_zero, List.set_cons_succ]
          refine GoG.take (i := 5) (v := ?_) [] rfl (by kernel_rfl) (by kernel_rfl) (by kernel_rfl) (by kernel_rfl) (by kernel_rfl) (by kernel_rfl) (fun _ _ _ h => h) (yields_free (by rfl) (fun w => ?_)) ?_
          rotate_left
          · go_simp; try (with_reducible rfl)
          try simp only [Act.put, List.getElem_toArray, List.getElem_cons_succ, List.getElem_cons_zero, List.setIfInBounds_toArray, List.set_cons_zero, List.set_cons_succ]
          refine GoG.take (i := 6) (v := ?_) [] rfl (by kernel_rfl) (by kernel_rfl) (by kernel_rfl) (by kernel_rfl) (by kernel_rfl) (by kernel_rfl) (fun _ _ _ h => h) (yields_free (by rfl) (fun w => ?_)) ?_
          rotate_left
          · go_simp; try (with_reducible rfl)
          try simp only [Act.put, List.getElem_toArray, List.getElem_cons_succ, List.getElem_cons_zero, List.setIfInBounds_toArray, List.set_cons_zero, List.set_cons_succ]
          refine GoG.take (i := 7) (v := ?_) [] rfl (by kernel_rfl) (by kernel_rfl) (by kernel_rfl) (by kernel_rfl) (by kernel_rfl) (by kernel_rfl) (fun _ _ _ h => h) (yields_free (by rfl) (fun w => ?_)) ?_
          rotate_left
          · go_simp; try (with_reducible rfl)
          try simp only [Act.put, List.getElem_toArray, List.getElem_cons_succ, List.getElem_cons_zero, List.setIfInBounds_toArray, List.set_cons_zero, List.set_cons_succ]
          refine GoG.take (i := 8) (v := undef) [] rfl (by kernel_rfl) (by kernel_rfl) (by kernel_rfl) (by kernel_rfl) (by kernel_rfl) (by kernel_rfl) (fun _ _ _ h => h) (.inr ⟨by rfl, rfl⟩) ?_
          try simp only [Act.put, List.getElem_toArray, List.getElem_cons_succ, List.getElem_cons_zero, List.setIfInBounds_toArray, List.set_cons_zero, List.set_cons_succ]
          refine GoG.take (i := 9) (v := undef) [] rfl (by kernel_rfl) (by kernel_rfl) (by kernel_rfl) (by kernel_rfl) (by kernel_rfl) (by kernel_rfl) (fun _ _ _ h => h) (.inr ⟨by rfl, rfl⟩) ?_
          try simp only [Act.put, List.getElem_toArray, List.getElem_cons_succ, List.getElem_cons_zero, List.setIfInBounds_toArray, List.set_cons_zero, List.set_cons_succ]
          refine GoG.take (i := 10) (v := undef) [] rfl (by kernel_rfl) (by kernel_rfl) (by kernel_rfl) (by kernel_rfl) (by kernel_rfl) (by kernel_rfl) (fun _ _ _ h => h) (.inr ⟨by rfl, rfl⟩) ?_
          try simp only [Act.put, List.getElem_toArray, List.getElem_cons_succ, List.getElem_cons_zero, List.setIfInBounds_toArray, List.set_cons_zero, List.set_cons_succ]
          refine GoG.take (i := 11) (v := undef) [] rfl (by kernel_rfl) (by kernel_rfl) (by kernel_rfl) (by kernel_rfl) (by kernel_rfl) (by kernel_rfl) (fun _ _ _ h => h) (.inr ⟨by rfl, rfl⟩) ?_
          try simp only [Act.put, List.getElem_toArray, List.getElem_cons_succ, List.getElem_cons_zero, List.setIfInBounds_toArray, List.set_cons_zero, List.set_cons_succ]
          refine GoG.take (i := 12) (v := undef) [] rfl (by kernel_rfl) (by kernel_rfl) (by kernel_rfl) (by kernel_rfl) (by kernel_rfl) (by kernel_rfl) (fun _ _ _ h => h) (.inr ⟨by rfl, rfl⟩) ?_
          try simp only [Act.put, List.getElem_toArray, List.getElem_cons_succ, List.getElem_cons_zero, List.setIfInBounds_toArray, List.set_cons_zero, List.set_cons_succ]
          refine GoG.take (i := 13) (v := undef) [] rfl (by kernel_rfl) (by kernel_rfl) (by kernel_rfl) (by kernel_rfl) (by kernel_rfl) (by kernel_rfl) (fun _ _ _ h => h) (.inr ⟨by rfl, rfl⟩) ?_
          try simp only [Act.put, List.getElem_toArray, List.getElem_cons_succ, List.getElem_cons_zero, List.setIfInBounds_toArray, List.set_cons_zero, List.set_cons_succ]
          refine GoG.take (i := 14) (v := undef) [] rfl (by kernel_rfl) (by kernel_rfl) (by kernel_rfl) (by kernel_rfl) (by kernel_rfl) (by kernel_rfl) (fun _ _ _ h => h) (.inr ⟨by rfl, rfl⟩) ?_
          try simp only [Act.put, List.getElem_toArray, List.getElem_cons_succ, List.getElem_cons_zero, List.setIfInBounds_toArray, List.set_cons_zero, List.set_cons_succ]
          refine GoG.take (i := 15) (v := undef) [] rfl (by kernel_rfl) (by kernel_rfl) (by kernel_rfl) (by kernel_rfl) (by kernel_rfl) (by kernel_rfl) (fun _ _ _ h => h) (.inr ⟨by rfl, rfl⟩) ?_
          try simp only [Act.put, List.getElem_toArray, List.getElem_cons_succ, List.getElem_cons_zero, List.setIfInBounds_toArray, List.set_cons_zero, List.set_cons_succ]
          refine GoG.take (i := 16) (v := undef) [] rfl (by kernel_rfl) (by kernel_rfl) (by kernel_rfl) (by kernel_rfl) (by kernel_rfl) (by kernel_rfl) (fun _ _ _ h => h) (.inr ⟨by rfl, rfl⟩) ?_
          try simp only [Act.put, List.getElem_toArray, List.getElem_cons_succ, List.getElem_cons_zero, List.setIfInBounds_toArray, List.set_cons_zero, List.set_cons_succ]
          refine GoG.take (i := 17) (v := undef) [] rfl (by kernel_rfl) (by kernel_rfl) (by kernel_rfl) (by kernel_rfl) (by kernel_rfl) (by kernel_rfl) (fun _ _ _ h => h) (.inr ⟨by rfl, rfl⟩) ?_
          try simp only [Act.put, List.getElem_toArray, List.getElem_cons_succ, List.getElem_cons_zero, List.setIfInBounds_toArray, List.set_cons_zero, List.set_cons_succ]
          refine GoG.take (i := 18) (v := ?_) [] rfl (by kernel_rfl) (by kernel_rfl) (by kernel_rfl) (by kernel_rfl) (by kernel_rfl) (by kernel_rfl) (fun _ _ _ h => h) (yields_free (by rfl) (fun w => ?_)) ?_
          rotate_left
          · go_simp; try (with_reducible rfl)
          try simp only [Act.put, List.getElem_toArray, List.getElem_cons_succ, List.getElem_cons_zero, List.setIfInBounds_toArray, List.set_cons_zero, List.set_cons_succ]
          refine GoG.take (i := 19) (v := ?_) [] rfl (by kernel_rfl) (by kernel_rfl) (by kernel_rfl) (by kernel_rfl) (by kernel_rfl) (by kernel_rfl) (fun _ _ _ h => h) (yields_free (by rfl) (fun w => ?_)) ?_
          rotate_left
          · go_simp; try (with_reducible rfl)
          try simp only [Act.put, List.getElem_toArray, List.getElem_cons_succ, List.getElem_cons_zero, List.setIfInBounds_toArray, List.set_cons_zero, List.set_cons_succ]
          refine GoG.done (by kernel_rfl) ?_ _
          clear d0 d1 d2 d3 e0 e1
          go_wp2_with fail
          go_roundw
          case rel => exact ⟨k + 1, by omega, by go_num, Hx, B6⟩
          case measure => first | (simp [intOf]; done) | (simp [intOf]; omega)
        · obtain ⟨p, hp⟩ : ∃ p, k = p + 1 := ⟨k - 1, by omega⟩
          have hpu : p < u.named.length := by omega
          have hpn : p < n := by omega
          have hpI : (p : Int) < (n : Int) := by omega
          obtain ⟨_, _, _, _, cp, -⟩ := HCC.out p hpu
          obtain ⟨v, hv⟩ : ∃ v, u.named[p].name = v := ⟨_, rfl⟩
          rw [hv] at cp
          have CPN := Lib.hid (show wn.cell? ⟨b, o + p * 4, none⟩ = some (.string v) from ((show Below wr.heap.size wr wn from by rw [← hwn]; exact (Below.refl _ _).alloc (Nat.le_refl _) _).cell (p := ⟨b, o + p * 4, none⟩) (cell_ltB cp)).trans cp)
          have hpos : (0 : Int) < (k : Int) := by omega
          have hposd : decide ((0 : Int) < (k : Int)) = true := decide_eq_true hpos
          have hposn : 0 < k := by omega
          have hwp : IntKind.i64.wrap (p : Int) = (p : Int) := IntWalk.i64_in _ (by omega)
          have hsub : (k : Int) - 1 = (p : Int) := by omega
          have hsubw : IntKind.i64.wrap ((k : Int) - 1) = (p : Int) := by rw [hsub]; exact IntWalk.i64_in _ (by omega)
          have HRE := Lib.hid (show riseB (namesU u.named) k = lessB v s by rw [riseN_succ hku hp, hv]; congr 1; rw [HX.out, HSN.out])
          clear hp hv cp h0
          cases hls : Op.bytesLess v.toList s.toList
          · have LS := Lib.hid hls
            have HV := Lib.hid (BADR.out (by rw [HRE.out]; exact LS.out))
            go_upto_region 6 with fail
            clear hwn a0 a1 a2 a3 hxb
            refine GoG.start [(21, ⟨w.heap.size, 0, none⟩, .slice ao L ac), (21, ⟨w.heap.size, 1, none⟩, .slice (some ⟨b, o, none⟩) n nc), (21, ⟨xb, 0, none⟩, .string s), (21, ⟨xb, 1, none⟩, .slice bo x.bounds.length bc), (21, ⟨xb, 2, none⟩, .int .i64 x.under), (21, ⟨xb, 3, none⟩, .slice mo x.methods.length mc), (21, ⟨b, o + p * 4, none⟩, .string v)] (by kernel_rfl) ?_ ?_
            · exact Keeps.cons (by first | exact e0 | assumption) (Keeps.cons (by first | exact e1 | assumption) (Keeps.cons (by first | exact d0 | assumption) (Keeps.cons (by first | exact d1 | assumption) (Keeps.cons (by first | exact d2 | assumption) (Keeps.cons (by first | exact d3 | assumption) (Keeps.cons (by first | exact CPN.out | assumption) (Keeps.nil)))))))
            refine GoG.take (i := 0) (v := ?_) [21] rfl (by kernel_rfl) (by kernel_rfl) (by kernel_rfl) (by kernel_rfl) (by kernel_rfl) (by kernel_rfl) (fun _ _ _ h => h) (.inl ⟨by rfl, fun WW hS => ?_⟩) ?_
            rotate_left
            · have g0 : WW.cell? ⟨w.heap.size, 0, none⟩ = some (.slice ao L ac) := hS (21, ⟨w.heap.size, 0, none⟩, .slice ao L ac) (by simp) (by simp)
              have g1 : WW.cell? ⟨w.heap.size, 1, none⟩ = some (.slice (some ⟨b, o, none⟩) n nc) := hS (21, ⟨w.heap.size, 1, none⟩, .slice (some ⟨b, o, none⟩) n nc) (by simp) (by simp)
              clear hS
              go_simp; try (with_reducible rfl)
            try simp only [Act.put, List.getElem_toArray, List.getElem_cons_succ, List.getElem_cons_zero, List.setIfInBounds_toArray, List.set_cons_zero, List.set_cons_succ]
            refine GoG.take (i := 1) (v := ?_) [21] rfl (by kernel_rfl) (by kernel_rfl) (by kernel_rfl) (by kernel_rfl) (by kernel_rfl) (by kernel_rfl) (fun _ _ _ h => h) (.inl ⟨by rfl, fun WW hS => ?_⟩) ?_
            rotate_left
            · have g0 : WW.cell? ⟨xb, 0, none⟩ = some (.string s) := hS (21, ⟨xb, 0, none⟩, .string s) (by simp) (by simp)
              have g1 : WW.cell? ⟨xb, 1, none⟩ = some (.slice bo x.bounds.length bc) := hS (21, ⟨xb, 1, none⟩, .slice bo x.bounds.length bc) (by simp) (by simp)
              have g2 : WW.cell? ⟨xb, 2, none⟩ = some (.int .i64 x.under) := hS (21, ⟨xb, 2, none⟩, .int .i64 x.under) (by simp) (by simp)
              have g3 : WW.cell? ⟨xb, 3, none⟩ = some (.slice mo x.methods.length mc) := hS (21, ⟨xb, 3, none⟩, .slice mo x.methods.length mc) (by simp) (by simp)
              clear hS
              go_simp; try (with_reducible rfl)
            try simp only [Act.put, List.getElem_toArray, List.getElem_cons_succ, List.getElem_cons_zero, List.setIfInBounds_toArray, List.set_cons_zero, List.set_cons_succ]
            refine GoG.one (i := 2) rfl (by kernel_rfl) (fun K hK => ?_)
            go_simp
            refine HNA.out.mono ?_
            rintro e w6 ⟨rfl, b6⟩
            have B6 := Lib.hid (HBN.out.drew.trans (b6.mono HBN.out.drew.size))
            refine hK.out _ _ (Keeps.cons ((b6.cell (p := ⟨w.heap.size, 0, none⟩) (show _ < wn.heap.size from cell_ltB e0)).trans e0) (Keeps.cons ((b6.cell (p := ⟨w.heap.size, 1, none⟩) (show _ < wn.heap.size from cell_ltB e1)).trans e1) (Keeps.cons ((b6.cell (p := ⟨xb, 0, none⟩) (show _ < wn.heap.size from cell_ltB d0)).trans d0) (Keeps.cons ((b6.cell (p := ⟨xb, 1, none⟩) (show _ < wn.heap.size from cell_ltB d1)).trans d1) (Keeps.cons ((b6.cell (p := ⟨xb, 2, none⟩) (show _ < wn.heap.size from cell_ltB d2)).trans d2) (Keeps.cons ((b6.cell (p := ⟨xb, 3, none⟩) (show _ < wn.heap.size from cell_ltB d3)).trans d3) (Keeps.cons ((b6.cell (p := ⟨b, o + p * 4, none⟩) (show _ < wn.heap.size from cell_ltB CPN.out)).trans CPN.out) (Keeps.nil)))))))) ?_
            clear hK K b6
            try simp only [Act.put, List.getElem_toArray, List.getElem_cons_succ, List.getElem_cons_zero, List.setIfInBounds_toArray, List.set_cons_zero, List.set_cons_succ]
            refine GoG.take (i := 3) (v := ?_) [] rfl (by kernel_rfl) (by kernel_rfl) (by kernel_rfl) (by kernel_rfl) (by kernel_rfl) (by kernel_rfl) (fun _ _ _ h => h) (yields_free (by rfl) (fun w => ?_)) ?_
            rotate_left
            · go_simp; try (with_reducible rfl)
            try simp only [Act.put, List.getElem_toArray, List.getElem_cons_succ, List.getElem_cons_zero, List.setIfInBounds_toArray, List.set_cons_zero, List.set_cons_succ]
            refine GoG.take (i := 4) (v := ?_) [] rfl (by kernel_rfl) (by kernel_rfl) (by kernel_rfl) (by kernel_rfl) (by kernel_rfl) (by kernel_rfl) (fun _ _ _ h => h) (yields_free (by rfl) (fun w => ?_)) ?_
            rotate_left
            · go_simp; try (with_reducible rfl)
            try simp only [Act.put, List.getElem_toArray, List.getElem_cons_succ, List.getElem_cons_zero, List.setIfInBounds_toArray, List.set_cons_zero, List.set_cons_succ]
            refine GoG.take (i := 5) (v := ?_) [] rfl (by kernel_rfl) (by kernel_rfl) (by kernel_rfl) (by kernel_rfl) (by kernel_rfl) (by kernel_rfl) (fun _ _ _ h => h) (yields_free (by rfl) (fun w => ?_)) ?_
            rotate_left
            · go_simp; try (with_reducible rfl)
            try simp only [Act.put, List.getElem_toArray, List.getElem_cons_succ, List.getElem_cons_zero, List.setIfInBounds_toArray, List.set_cons_zero, List.set_cons_succ]
            refine GoG.take (i := 6) (v := ?_) [] rfl (by kernel_rfl) (by kernel_rfl) (by kernel_rfl) (by kernel_rfl) (by kernel_rfl) (by kernel_rfl) (fun _ _ _ h => h) (yields_free (by rfl) (fun w => ?_)) ?_
            rotate_left
            · go_simp; try (with_reducible rfl)
            try simp only [Act.put, List.getElem_toArray, List.getElem_cons_succ, List.getElem_cons_zero, List.setIfInBounds_toArray, List.set_cons_zero, List.set_cons_succ]
            refine GoG.take (i := 7) (v := ?_) [] rfl (by kernel_rfl) (by kernel_rfl) (by kernel_rfl) (by kernel_rfl) (by kernel_rfl) (by kernel_rfl) (fun _ _ _ h => h) (yields_free (by rfl) (fun w => ?_)) ?_
            rotate_left
            · go_simp; try (with_reducible rfl)
            try simp only [Act.put, List.getElem_toArray, List.getElem_cons_succ, List.getElem_cons_zero, List.setIfInBounds_toArray, List.set_cons_zero, List.set_cons_succ]
            refine GoG.take (i := 8) (v := ?_) [] rfl (by kernel_rfl) (by kernel_rfl) (by kernel_rfl) (by kernel_rfl) (by kernel_rfl) (by kernel_rfl) (fun _ _ _ h => h) (yields_free (by rfl) (fun w => ?_)) ?_
            rotate_left
            · go_simp; try (with_reducible rfl)
            try simp only [Act.put, List.getElem_toArray, List.getElem_cons_succ, List.getElem_cons_zero, List.setIfInBounds_toArray, List.set_cons_zero, List.set_cons_succ]
            refine GoG.take (i := 9) (v := ?_) [21] rfl (by kernel_rfl) (by kernel_rfl) (by kernel_rfl) (by kernel_rfl) (by kernel_rfl) (by kernel_rfl) (fun _ _ _ h => h) (yields_load 21 ⟨w.heap.size, 1, none⟩ (.slice (some ⟨b, o, none⟩) n nc) (by simp) (by decide) (by rfl) (fun w hw => ?_)) ?_
            rotate_left
            · go_simp; try (with_reducible rfl)
            try simp only [Act.put, List.getElem_toArray, List.getElem_cons_succ, List.getElem_cons_zero, List.setIfInBounds_toArray, List.set_cons_zero, List.set_cons_succ]
            refine GoG.take (i := 10) (v := ?_) [] rfl (by kernel_rfl) (by kernel_rfl) (by kernel_rfl) (by kernel_rfl) (by kernel_rfl) (by kernel_rfl) (fun _ _ _ h => h) (yields_free (by rfl) (fun w => ?_)) ?_
            rotate_left
            · go_simp; try (with_reducible rfl)
            try simp only [Act.put, List.getElem_toArray, List.getElem_cons_succ, List.getElem_cons_zero, List.setIfInBounds_toArray, List.set_cons_zero, List.set_cons_succ]
            refine GoG.take (i := 11) (v := ?_) [] rfl (by kernel_rfl) (by kernel_rfl) (by kernel_rfl) (by kernel_rfl) (by kernel_rfl) (by kernel_rfl) (fun _ _ _ h => h) (yields_free (by rfl) (fun w => ?_)) ?_
            rotate_left
            · go_simp; try (with_reducible rfl)
            try simp only [Act.put, List.getElem_toArray, List.getElem_cons_succ, List.getElem_cons_zero, List.setIfInBounds_toArray, List.set_cons_zero, List.set_cons_succ]
            refine GoG.take (i := 12) (v := ?_) [] rfl (by kernel_rfl) (by kernel_rfl) (by kernel_rfl) (by kernel_rfl) (by kernel_rfl) (by kernel_rfl) (fun _ _ _ h => h) (yields_free (by rfl) (fun w => ?_)) ?_
            rotate_left
            · go_simp; try (with_reducible rfl)
            try simp only [Act.put, List.getElem_toArray, List.getElem_cons_succ, List.getElem_cons_zero, List.setIfInBounds_toArray, List.set_cons_zero, List.set_cons_succ]
            refine GoG.take (i := 13) (v := ?_) [] rfl (by kernel_rfl) (by kernel_rfl) (by kernel_rfl) (by kernel_rfl) (by kernel_rfl) (by kernel_rfl) (fun _ _ _ h => h) (yields_free (by rfl) (fun w => ?_)) ?_
            rotate_left
            · go_simp; try (with_reducible rfl)
            try simp only [Act.put, List.getElem_toArray, List.getElem_cons_succ, List.getElem_cons_zero, List.setIfInBounds_toArray, List.set_cons_zero, List.set_cons_succ]
            refine GoG.take (i := 14) (v := ?_) [21] rfl (by kernel_rfl) (by kernel_rfl) (by kernel_rfl) (by kernel_rfl) (by kernel_rfl) (by kernel_rfl) (fun _ _ _ h => h) (yields_load 21 ⟨b, o + p * 4, none⟩ (.string v) (by simp) (by decide) (by rfl) (fun w hw => ?_)) ?_
            rotate_left
            · go_simp; try (with_reducible rfl)
            try simp only [Act.put, List.getElem_toArray, List.getElem_cons_succ, List.getElem_cons_zero, List.setIfInBounds_toArray, List.set_cons_zero, List.set_cons_succ]
            refine GoG.take (i := 15) (v := ?_) [] rfl (by kernel_rfl) (by kernel_rfl) (by kernel_rfl) (by kernel_rfl) (by kernel_rfl) (by kernel_rfl) (fun _ _ _ h => h) (yields_free (by rfl) (fun w => ?_)) ?_
            rotate_left
            · go_simp; try (with_reducible rfl)
            try simp only [Act.put, List.getElem_toArray, List.getElem_cons_succ, List.getElem_cons_zero, List.setIfInBounds_toArray, List.set_cons_zero, List.set_cons_succ]
            refine GoG.take (i := 16) (v := ?_) [21] rfl (by kernel_rfl) (by kernel_rfl) (by kernel_rfl) (by kernel_rfl) (by kernel_rfl) (by kernel_rfl) (fun _ _ _ h => h) (yields_load 21 ⟨xb, 0, none⟩ (.string s) (by simp) (by decide) (by rfl) (fun w hw => ?_)) ?_
            rotate_left
            · go_simp; try (with_reducible rfl)
            try simp only [Act.put, List.getElem_toArray, List.getElem_cons_succ, List.getElem_cons_zero, List.setIfInBounds_toArray, List.set_cons_zero, List.set_cons_succ]
            refine GoG.take (i := 17) (v := ?_) [] rfl (by kernel_rfl) (by kernel_rfl) (by kernel_rfl) (by kernel_rfl) (by kernel_rfl) (by kernel_rfl) (fun _ _ _ h => h) (yields_free (by rfl) (fun w => ?_)) ?_
            rotate_left
            · go_simp; try (with_reducible rfl)
            try simp only [Act.put, List.getElem_toArray, List.getElem_cons_succ, List.getElem_cons_zero, List.setIfInBounds_toArray, List.set_cons_zero, List.set_cons_succ]
            refine GoG.take (i := 18) (v := ?_) [] rfl (by kernel_rfl) (by kernel_rfl) (by kernel_rfl) (by kernel_rfl) (by kernel_rfl) (by kernel_rfl) (fun _ _ _ h => h) (yields_free (by rfl) (fun w => ?_)) ?_
            rotate_left
            · go_simp; try (with_reducible rfl)
            try simp only [Act.put, List.getElem_toArray, List.getElem_cons_succ, List.getElem_cons_zero, List.setIfInBounds_toArray, List.set_cons_zero, List.set_cons_succ]
            refine GoG.take (i := 19) (v := ?_) [] rfl (by kernel_rfl) (by kernel_rfl) (by kernel_rfl) (by kernel_rfl) (by kernel_rfl) (by kernel_rfl) (fun _ _ _ h => h) (yields_free (by rfl) (fun w => ?_)) ?_
            rotate_left
            · go_simp; try (with_reducible rfl)
            try simp only [Act.put, List.getElem_toArray, List.getElem_cons_succ, List.getElem_cons_zero, List.setIfInBounds_toArray, List.set_cons_zero, List.set_cons_succ]
            refine GoG.done (by kernel_rfl) ?_ _
            clear d0 d1 d2 d3 e0 e1
            go_wp2_with fail
            go_ret
            exact ⟨ret_bool HV.out, B2.out.trans (B6.out.mono B2.out.size)⟩
          · have LS := Lib.hid hls
            have RI := Lib.hid (show riseB (namesU u.named) k = true from by rw [HRE.out]; exact LS.out)
            have Hx := Lib.hid (GOOD.out HO.out RI.out)
            go_upto_region 6 with fail
            clear hwn a0 a1 a2 a3 hxb
            refine GoG.start [(21, ⟨w.heap.size, 0, none⟩, .slice ao L ac), (21, ⟨w.heap.size, 1, none⟩, .slice (some ⟨b, o, none⟩) n nc), (21, ⟨xb, 0, none⟩, .string s), (21, ⟨xb, 1, none⟩, .slice bo x.bounds.length bc), (21, ⟨xb, 2, none⟩, .int .i64 x.under), (21, ⟨xb, 3, none⟩, .slice mo x.methods.length mc), (21, ⟨b, o + p * 4, none⟩, .string v)] (by kernel_rfl) ?_ ?_
            · exact Keeps.cons (by first | exact e0 | assumption) (Keeps.cons (by first | exact e1 | assumption) (Keeps.cons (by first | exact d0 | assumption) (Keeps.cons (by first | exact d1 | assumption) (Keeps.cons (by first | exact d2 | assumption) (Keeps.cons (by first | exact d3 | assumption) (Keeps.cons (by first | exact CPN.out | assumption) (Keeps.nil)))))))
            refine GoG.take (i := 0) (v := ?_) [21] rfl (by kernel_rfl) (by kernel_rfl) (by kernel_rfl) (by kernel_rfl) (by kernel_rfl) (by kernel_rfl) (fun _ _ _ h => h) (.inl ⟨by rfl, fun WW hS => ?_⟩) ?_
            rotate_left
            · have g0 : WW.cell? ⟨w.heap.size, 0, none⟩ = some (.slice ao L ac) := hS (21, ⟨w.heap.size, 0, none⟩, .slice ao L ac) (by simp) (by simp)
              have g1 : WW.cell? ⟨w.heap.size, 1, none⟩ = some (.slice (some ⟨b, o, none⟩) n nc) := hS (21, ⟨w.heap.size, 1, none⟩, .slice (some ⟨b, o, none⟩) n nc) (by simp) (by simp)
              clear hS
              go_simp; try (with_reducible rfl)
            try simp only [Act.put, List.getElem_toArray, List.getElem_cons_succ, List.getElem_cons_zero, List.setIfInBounds_toArray, List.set_cons_zero, List.set_cons_succ]
            refine GoG.take (i := 1) (v := ?_) [21] rfl (by kernel_rfl) (by kernel_rfl) (by kernel_rfl) (by kernel_rfl) (by kernel_rfl) (by kernel_rfl) (fun _ _ _ h => h) (.inl ⟨by rfl, fun WW hS => ?_⟩) ?_
            rotate_left
            · have g0 : WW.cell? ⟨xb, 0, none⟩ = some (.string s) := hS (21, ⟨xb, 0, none⟩, .string s) (by simp) (by simp)
              have g1 : WW.cell? ⟨xb, 1, none⟩ = some (.slice bo x.bounds.length bc) := hS (21, ⟨xb, 1, none⟩, .slice bo x.bounds.length bc) (by simp) (by simp)
              have g2 : WW.cell? ⟨xb, 2, none⟩ = some (.int .i64 x.under) := hS (21, ⟨xb, 2, none⟩, .int .i64 x.under) (by simp) (by simp)
              have g3 : WW.cell? ⟨xb, 3, none⟩ = some (.slice mo x.methods.length mc) := hS (21, ⟨xb, 3, none⟩, .slice mo x.methods.length mc) (by simp) (by simp)
              clear hS
              go_simp; try (with_reducible rfl)
            try simp only [Act.put, List.getElem_toArray, List.getElem_cons_succ, List.getElem_cons_zero, List.setIfInBounds_toArray, List.set_cons_zero, List.set_cons_succ]
            refine GoG.one (i := 2) rfl (by kernel_rfl) (fun K hK => ?_)
            go_simp
            refine HNA.out.mono ?_
            rintro e w6 ⟨rfl, b6⟩
            have B6 := Lib.hid (HBN.out.drew.trans (b6.mono HBN.out.drew.size))
            refine hK.out _ _ (Keeps.cons ((b6.cell (p := ⟨w.heap.size, 0, none⟩) (show _ < wn.heap.size from cell_ltB e0)).trans e0) (Keeps.cons ((b6.cell (p := ⟨w.heap.size, 1, none⟩) (show _ < wn.heap.size from cell_ltB e1)).trans e1) (Keeps.cons ((b6.cell (p := ⟨xb, 0, none⟩) (show _ < wn.heap.size from cell_ltB d0)).trans d0) (Keeps.cons ((b6.cell (p := ⟨xb, 1, none⟩) (show _ < wn.heap.size from cell_ltB d1)).trans d1) (Keeps.cons ((b6.cell (p := ⟨xb, 2, none⟩) (show _ < wn.heap.size from cell_ltB d2)).trans d2) (Keeps.cons ((b6.cell (p := ⟨xb, 3, none⟩) (show _ < wn.heap.size from cell_ltB d3)).trans d3) (Keeps.cons ((b6.cell (p := ⟨b, o + p * 4, none⟩) (show _ < wn.heap.size from cell_ltB CPN.out)).trans CPN.out) (Keeps.nil)))))))) ?_
            clear hK K b6
            try simp only [Act.put, List.getElem_toArray, List.getElem_cons_succ, List.getElem_cons_zero, List.setIfInBounds_toArray, List.set_cons_zero, List.set_cons_succ]
            refine GoG.take (i := 3) (v := ?_) [] rfl (by kernel_rfl) (by kernel_rfl) (by kernel_rfl) (by kernel_rfl) (by kernel_rfl) (by kernel_rfl) (fun _ _ _ h => h) (yields_free (by rfl) (fun w => ?_)) ?_
            rotate_left
            · go_simp; try (with_reducible rfl)
            try simp only [Act.put, List.getElem_toArray, List.getElem_cons_succ, List.getElem_cons_zero, List.setIfInBounds_toArray, List.set_cons_zero, List.set_cons_succ]
            refine GoG.take (i := 4) (v := ?_) [] rfl (by kernel_rfl) (by kernel_rfl) (by kernel_rfl) (by kernel_rfl) (by kernel_rfl) (by kernel_rfl) (fun _ _ _ h => h) (yields_free (by rfl) (fun w => ?_)) ?_
            rotate_left
            · go_simp; try (with_reducible rfl)
            try simp only [Act.put, List.getElem_toArray, List.getElem_cons_succ, List.getElem_cons_zero, List.setIfInBounds_toArray, List.set_cons_zero, List.set_cons_succ]
            refine GoG.take (i := 5) (v := ?_) [] rfl (by kernel_rfl) (by kernel_rfl) (by kernel_rfl) (by kernel_rfl) (by kernel_rfl) (by kernel_rfl) (fun _ _ _ h => h) (yields_free (by rfl) (fun w => ?_)) ?_
            rotate_left
            · go_simp; try (with_reducible rfl)
            try simp only [Act.put, List.getElem_toArray, List.getElem_cons_succ, List.getElem_cons_zero, List.setIfInBounds_toArray, List.set_cons_zero, List.set_cons_succ]
            refine GoG.take (i := 6) (v := ?_) [] rfl (by kernel_rfl) (by kernel_rfl) (by kernel_rfl) (by kernel_rfl) (by kernel_rfl) (by kernel_rfl) (fun _ _ _ h => h) (yields_free (by rfl) (fun w => ?_)) ?_
            rotate_left
            · go_simp; try (with_reducible rfl)
            try simp only [Act.put, List.getElem_toArray, List.getElem_cons_succ, List.getElem_cons_zero, List.setIfInBounds_toArray, List.set_cons_zero, List.set_cons_succ]
            refine GoG.take (i := 7) (v := ?_) [] rfl (by kernel_rfl) (by kernel_rfl) (by kernel_rfl) (by kernel_rfl) (by kernel_rfl) (by kernel_rfl) (fun _ _ _ h => h) (yields_free (by rfl) (fun w => ?_)) ?_
            rotate_left
            · go_simp; try (with_reducible rfl)
            try simp only [Act.put, List.getElem_toArray, List.getElem_cons_succ, List.getElem_cons_zero, List.setIfInBounds_toArray, List.set_cons_zero, List.set_cons_succ]
            refine GoG.take (i := 8) (v := ?_) [] rfl (by kernel_rfl) (by kernel_rfl) (by kernel_rfl) (by kernel_rfl) (by kernel_rfl) (by kernel_rfl) (fun _ _ _ h => h) (yields_free (by rfl) (fun w => ?_)) ?_
            rotate_left
            · go_simp; try (with_reducible rfl)
            try simp only [Act.put, List.getElem_toArray, List.getElem_cons_succ, List.getElem_cons_zero, List.setIfInBounds_toArray, List.set_cons_zero, List.set_cons_succ]
            refine GoG.take (i := 9) (v := ?_) [21] rfl (by kernel_rfl) (by kernel_rfl) (by kernel_rfl) (by kernel_rfl) (by kernel_rfl) (by kernel_rfl) (fun _ _ _ h => h) (yields_load 21 ⟨w.heap.size, 1, none⟩ (.slice (some ⟨b, o, none⟩) n nc) (by simp) (by decide) (by rfl) (fun w hw => ?_)) ?_
            rotate_left
            · go_simp; try (with_reducible rfl)
            try simp only [Act.put, List.getElem_toArray, List.getElem_cons_succ, List.getElem_cons_zero, List.setIfInBounds_toArray, List.set_cons_zero, List.set_cons_succ]
            refine GoG.take (i := 10) (v := ?_) [] rfl (by kernel_rfl) (by kernel_rfl) (by kernel_rfl) (by kernel_rfl) (by kernel_rfl) (by kernel_rfl) (fun _ _ _ h => h) (yields_free (by rfl) (fun w => ?_)) ?_
            rotate_left
            · go_simp; try (with_reducible rfl)
            try simp only [Act.put, List.getElem_toArray, List.getElem_cons_succ, List.getElem_cons_zero, List.setIfInBounds_toArray, List.set_cons_zero, List.set_cons_succ]
            refine GoG.take (i := 11) (v := ?_) [] rfl (by kernel_rfl) (by kernel_rfl) (by kernel_rfl) (by kernel_rfl) (by kernel_rfl) (by kernel_rfl) (fun _ _ _ h => h) (yields_free (by rfl) (fun w => ?_)) ?_
            rotate_left
            · go_simp; try (with_reducible rfl)
            try simp only [Act.put, List.getElem_toArray, List.getElem_cons_succ, List.getElem_cons_zero, List.setIfInBounds_toArray, List.set_cons_zero, List.set_cons_succ]
            refine GoG.take (i := 12) (v := ?_) [] rfl (by kernel_rfl) (by kernel_rfl) (by kernel_rfl) (by kernel_rfl) (by kernel_rfl) (by kernel_rfl) (fun _ _ _ h => h) (yields_free (by rfl) (fun w => ?_)) ?_
            rotate_left
            · go_simp; try (with_reducible rfl)
            try simp only [Act.put, List.getElem_toArray, List.getElem_cons_succ, List.getElem_cons_zero, List.setIfInBounds_toArray, List.set_cons_zero, List.set_cons_succ]
            refine GoG.take (i := 13) (v := ?_) [] rfl (by kernel_rfl) (by kernel_rfl) (by kernel_rfl) (by kernel_rfl) (by kernel_rfl) (by kernel_rfl) (fun _ _ _ h => h) (yields_free (by rfl) (fun w => ?_)) ?_
            rotate_left
            · go_simp; try (with_reducible rfl)
            try simp only [Act.put, List.getElem_toArray, List.getElem_cons_succ, List.getElem_cons_zero, List.setIfInBounds_toArray, List.set_cons_zero, List.set_cons_succ]
            refine GoG.take (i := 14) (v := ?_) [21] rfl (by kernel_rfl) (by kernel_rfl) (by kernel_rfl) (by kernel_rfl) (by kernel_rfl) (by kernel_rfl) (fun _ _ _ h => h) (yields_load 21 ⟨b, o + p * 4, none⟩ (.string v) (by simp) (by decide) (by rfl) (fun w hw => ?_)) ?_
            rotate_left
            · go_simp; try (with_reducible rfl)
            try simp only [Act.put, List.getElem_toArray, List.getElem_cons_succ, List.getElem_cons_zero, List.setIfInBounds_toArray, List.set_cons_zero, List.set_cons_succ]
            refine GoG.take (i := 15) (v := ?_) [] rfl (by kernel_rfl) (by kernel_rfl) (by kernel_rfl) (by kernel_rfl) (by kernel_rfl) (by kernel_rfl) (fun _ _ _ h => h) (yields_free (by rfl) (fun w => ?_)) ?_
            rotate_left
            · go_simp; try (with_reducible rfl)
            try simp only [Act.put, List.getElem_toArray, List.getElem_cons_succ, List.getElem_cons_zero, List.setIfInBounds_toArray, List.set_cons_zero, List.set_cons_succ]
            refine GoG.take (i := 16) (v := ?_) [21] rfl (by kernel_rfl) (by kernel_rfl) (by kernel_rfl) (by kernel_rfl) (by kernel_rfl) (by kernel_rfl) (fun _ _ _ h => h) (yields_load 21 ⟨xb, 0, none⟩ (.string s) (by simp) (by decide) (by rfl) (fun w hw => ?_)) ?_
            rotate_left
            · go_simp; try (with_reducible rfl)
            try simp only [Act.put, List.getElem_toArray, List.getElem_cons_succ, List.getElem_cons_zero, List.setIfInBounds_toArray, List.set_cons_zero, List.set_cons_succ]
            refine GoG.take (i := 17) (v := ?_) [] rfl (by kernel_rfl) (by kernel_rfl) (by kernel_rfl) (by kernel_rfl) (by kernel_rfl) (by kernel_rfl) (fun _ _ _ h => h) (yields_free (by rfl) (fun w => ?_)) ?_
            rotate_left
            · go_simp; try (with_reducible rfl)
            try simp only [Act.put, List.getElem_toArray, List.getElem_cons_succ, List.getElem_cons_zero, List.setIfInBounds_toArray, List.set_cons_zero, List.set_cons_succ]
            refine GoG.take (i := 18) (v := ?_) [] rfl (by kernel_rfl) (by kernel_rfl) (by kernel_rfl) (by kernel_rfl) (by kernel_rfl) (by kernel_rfl) (fun _ _ _ h => h) (yields_free (by rfl) (fun w => ?_)) ?_
            rotate_left
            · go_simp; try (with_reducible rfl)
            try simp only [Act.put, List.getElem_toArray, List.getElem_cons_succ, List.getElem_cons_zero, List.setIfInBounds_toArray, List.set_cons_zero, List.set_cons_succ]
            refine GoG.take (i := 19) (v := ?_) [] rfl (by kernel_rfl) (by kernel_rfl) (by kernel_rfl) (by kernel_rfl) (by kernel_rfl) (by kernel_rfl) (fun _ _ _ h => h) (yields_free (by rfl) (fun w => ?_)) ?_
            rotate_left
            · go_simp; try (with_reducible rfl)
            try simp only [Act.put, List.getElem_toArray, List.getElem_cons_succ, List.getElem_cons_zero, List.setIfInBounds_toArray, List.set_cons_zero, List.set_cons_succ]
            refine GoG.done (by kernel_rfl) ?_ _
            clear d0 d1 d2 d3 e0 e1
            go_wp2_with fail
            go_roundw
            case rel => exact ⟨k + 1, by omega, by go_num, Hx, B6⟩
            case measure => first | (simp [intOf]; done) | (simp [intOf]; omega)
    · obtain rfl : k = n := by omega
      have HRI := Lib.hid (show risesB (namesU u.named) = true from rises_of fun j hj => (Hall.out j (by rw [namesU_len] at hj; exact hj) (by rw [namesU_len] at hj; rw [← HN.out]; exact hj)).2)
      have HONE := Lib.hid (show ∀ m ∈ u.named, oneU u.types m = true from fun m hm => by
        obtain ⟨j, hj, rfl⟩ := List.getElem_of_mem hm
        exact (Hall.out j hj (by rw [← HN.out]; exact hj)).1)
      have HFI0 := fun (t : Ty) wo ko wc kc W (hb : Below w.heap.size w W) (ht : TyC W wo ko t) => reffits_any u ao no ac nc t wo ko wc kc W (HU.out.below hb) ht
      unfold unV tyV at HFI0
      rw [HL.out, HN.out] at HFI0
      have HFI := Lib.hid HFI0
      obtain ⟨c0, c1⟩ := cell2 (K2.out.below HB.out)
      clear HFI0
      go_wp2_with fail
      clear c0 c1
      go_loopw [49] (fun v wr => ∃ q : Nat, q ≤ L ∧ v = .int .i64 q ∧ Hid (∀ j (hj : j < u.types.length), j < q → fitsU u.named u.types[j] = true) ∧ Hid (Below w2.heap.size w2 wr)) (fun v _ => L - (intOf v).toNat)
      case atStart => exact ⟨0, Nat.zero_le _, rfl, Lib.hid (fun j _ hj => absurd hj (Nat.not_lt_zero _)), HB⟩
      case round =>
        obtain ⟨q, hq, rfl, Hfit, HQ⟩ := hrel
        have BQ := Lib.hid (B2.out.trans (HQ.out.mono B2.out.size))
        by_cases hql : q < L
        · have hqI : (q : Int) < (L : Int) := by omega
          have hqx : q < u.types.length := by rw [HL.out]; exact hql
          obtain ⟨b, o, rfl, hb, hc⟩ := (HU.out.types.below BQ.out).cells (by omega)
          obtain ⟨xw, xwc, xk, xkc, a0, a1, a2, a3, a4, -, -, hxc⟩ := hc q hqx
          obtain ⟨x, hx⟩ : ∃ x, u.types[q] = x := ⟨_, rfl⟩
          rw [hx] at a0 a1 a2 a3 a4 hxc
          have HX := Lib.hid hx
          obtain ⟨wn, hwn⟩ : ∃ wn, wr.alloc (.cells #[.int .i64 x.kind, .string x.name, .int .i64 x.n, .slice xw x.words.length xwc, .slice xk x.kids.length xkc] 38) = wn := ⟨_, rfl⟩
          obtain ⟨kx, qx, zx⟩ := box_new hwn
          have HQN := Lib.hid (HQ.out.trans (qx.mono HQ.out.size))
          have BQN := Lib.hid (B2.out.trans (HQN.out.mono B2.out.size))
          obtain ⟨d0, d1, d2, d3, d4⟩ := cell5 kx
          obtain ⟨e0, e1⟩ := cell2 (K2.out.below HQN.out)
          have HC0 := HFI.out x xw xk xwc xkc wn BQN.out (hxc.below qx)
          clear hx hc hb hxc kx qx zx
          cases hf : fitsU u.named x <;> rw [hf] at HC0 <;> have HF := Lib.hid hf <;> have HC := Lib.hid HC0 <;> clear hf HC0
          · have HV := Lib.hid (BAD.out fun g => by
              have := List.all_eq_true.1 (restU_iff.1 g).2.2.2 _ (List.getElem_mem hqx)
              rw [HX.out, HF.out] at this
              cases this)
            go_wp2_with fail
            refine HC.out.mono ?_
            rintro e w6 ⟨rfl, b6⟩
            have B6 := Lib.hid (BQN.out.trans (b6.mono BQN.out.size))
            clear b6 a0 a1 a2 a3 a4 d0 d1 d2 d3 d4 e0 e1 hwn
            go_wp2_with fail
            go_ret
            exact ⟨ret_bool HV.out, B6.out⟩
          · have Hx := Lib.hid (show ∀ j (hj : j < u.types.length), j < q + 1 → fitsU u.named u.types[j] = true from fun j hj h => by
              rcases Nat.lt_or_eq_of_le (Nat.le_of_lt_succ h) with g | g
              · exact Hfit.out j hj g
              · subst g; rw [HX.out]; exact HF.out)
            go_wp2_with fail
            refine HC.out.mono ?_
            rintro e w6 ⟨rfl, b6⟩
            have B6 := Lib.hid (HQN.out.trans (b6.mono HQN.out.size))
            clear b6 a0 a1 a2 a3 a4 d0 d1 d2 d3 d4 e0 e1 hwn
            go_wp2_with fail
            go_roundw
            case rel => exact ⟨q + 1, by omega, by go_num, Hx, B6⟩
            case measure => first | (simp [intOf]; done) | (simp [intOf]; omega)
        · obtain rfl : q = L := by omega
          have HV := Lib.hid (show true = R by
            rw [← HR2.out]
            exact (restU_iff.2 ⟨by rw [HN.out]; omega, HONE.out, HRI.out, List.all_eq_true.2 fun x hx => by
              obtain ⟨j, hj, rfl⟩ := List.getElem_of_mem hx
              exact Hfit.out j hj (by rw [← HL.out]; exact hj)⟩).symm)
          go_wp2_with fail
          go_ret
          exact ⟨ret_bool HV.out, BQ.out⟩
end Go.Proofs.YtkmnfkhchcoamaaGreatDoor
/- The program's Like. -/
namespace Go.Proofs.YtkmnfkhchcoamaaGreatDoor
open Go.RowKit
set_option linter.unusedSimpArgs false
set_option linter.unusedVariables false

def noM : Mt := ⟨⟨#[]⟩, false, 0⟩
def mtB (a b : ByteArray) (p q : Bool) (i j : Int) : Bool := decide (a = b) && (p == q) && (i == j)
theorem mtB_eq {a b : ByteArray} {p q : Bool} {i j : Int} : decide ((⟨a, p, i⟩ : Mt) = ⟨b, q, j⟩) = mtB a b p q i j := by
  unfold mtB
  rw [Bool.eq_iff_iff, decide_eq_true_eq, Bool.and_eq_true, Bool.and_eq_true, decide_eq_true_eq, beq_iff_eq, beq_iff_eq, Mt.mk.injEq]
  exact ⟨fun h => ⟨⟨h.1, h.2.1⟩, h.2.2⟩, fun h => ⟨h.1.1, h.1.2, h.2⟩⟩
theorem eqM (a b : ByteArray) (p q : Bool) (i j : Int) (w : World) : (Op.equalIn 10000 48 (.agg #[.string a, .bool p, .int .i64 i]) (.agg #[.string b, .bool q, .int .i64 j])).run Tryz.prog w = .ok (mtB a b p q i j) w := by
  have hS : Tryz.prog.underlying 48 = some (.struct (Tryz.prog.fieldsOf 48)) := by kernel_rfl
  rw [show (10000 : Nat) = 9999 + 1 from rfl, run_equalIn_struct w 9999 48 _ _ hS (by kernel_rfl)]
  simp only [Program.fieldsOf, Tryz.underlying48]
  have u0 := Tryz.underlying9
  have u1 := Tryz.underlying4
  have u2 := Tryz.underlying3
  have g0 := ty_str_eq a b
  unfold mtB
  go_simp
  by_cases h1 : a = b <;> by_cases h2 : i = j <;> cases p <;> cases q <;> simp [h1, h2]
theorem neqM (a b : ByteArray) (p q : Bool) (i j : Int) (w : World) : (binOp .neq 48 (.agg #[.string a, .bool p, .int .i64 i]) (.agg #[.string b, .bool q, .int .i64 j])).run Tryz.prog w = .ok (.bool (!mtB a b p q i j)) w := by
  have := eqM a b p q i j w
  simp [binOp, Op.equal, Op.maxDepth, this]
set_option maxHeartbeats 4000000 in
theorem eq_meth_any (ao bo : Option Addr) (ca cb : Nat) (xs ys : List Mt) (w : World) (h1 : MRow w ao xs) (h2 : MRow w bo ys) (l1 : xs.length ≤ 1000000) (_l2 : ys.length ≤ 1000000) :
    Calls Tryz.prog 28 #[.slice ao xs.length ca, .slice bo ys.length cb] w fun e w' => e = .returned (.bool (decide (xs = ys))) ∧ Below w.heap.size w w' := by
  obtain ⟨r, hr⟩ : ∃ r, decide (xs = ys) = r := ⟨_, rfl⟩
  rw [hr]
  by_cases hl : xs.length = ys.length
  · by_cases h0 : xs.length = 0
    · have hx : xs = [] := List.eq_nil_of_length_eq_zero h0
      have hy : ys = [] := List.eq_nil_of_length_eq_zero (by omega)
      have Hr := Lib.hid (show true = r by rw [← hr, hx, hy, decide_eq_true rfl])
      rw [show ys.length = 0 by omega, h0]
      clear h1 h2 l1 hl h0 hx hy hr
      go_enter Tryz.func28, Tryz.ntmps28
      go_wp2_with fail
      go_loopw [13] (fun i wr => i = .int .i64 0 ∧ wr = w) (fun _ _ => 0)
      case atStart => exact ⟨rfl, rfl⟩
      case round =>
        obtain ⟨rfl, rfl⟩ := hrel
        go_wp2_with fail
        go_ret
        exact ⟨ret_bool Hr.out, Below.refl _ _⟩
    · obtain ⟨b1, o1, rfl, q1, c1⟩ := h1.cells (by omega)
      obtain ⟨b2, o2, rfl, q2, c2⟩ := h2.cells (by omega)
      have Hc1 := Lib.hid c1
      have Hc2 := Lib.hid c2
      have Hr := Lib.hid hr
      rw [← hl]
      obtain ⟨n, hn⟩ : ∃ n, xs.length = n := ⟨_, rfl⟩
      have Hn := Lib.hid hn
      have Hn2 := Lib.hid (hl.symm.trans hn)
      rw [hn] at l1 h0 ⊢
      clear h1 h2 hl hr c1 c2 hn
      go_enter Tryz.func28, Tryz.ntmps28
      go_wp2_with fail
      go_loopw [13] (fun i wr => ∃ k : Nat, k ≤ n ∧ i = .int .i64 k ∧ Hid (∀ j, j < k → xs.getD j noM = ys.getD j noM) ∧ Hid (Below w.heap.size w wr)) (fun i _ => n - (intOf i).toNat)
      case atStart => exact ⟨0, Nat.zero_le _, rfl, Lib.hid (fun j hj => absurd hj (Nat.not_lt_zero _)), Lib.hid (Below.refl _ _)⟩
      case round =>
        obtain ⟨k, hk, rfl, Hall, HB⟩ := hrel
        have B := HB.out
        by_cases hkn : k < n
        · obtain ⟨d1', e1', f1'⟩ := Hc1.out k (by rw [Hn.out]; exact hkn)
          obtain ⟨d2', e2', f2'⟩ := Hc2.out k (by rw [Hn2.out]; exact hkn)
          rw [← getD_of (d := noM) (show k < xs.length by rw [Hn.out]; exact hkn)] at d1' e1' f1'
          rw [← getD_of (d := noM) (show k < ys.length by rw [Hn2.out]; exact hkn)] at d2' e2' f2'
          have d1 := (B.cell (p := ⟨b1, o1 + k * 3, none⟩) q1).trans d1'
          have e1 := (B.cell (p := ⟨b1, o1 + k * 3 + 1, none⟩) q1).trans e1'
          have f1 := (B.cell (p := ⟨b1, o1 + k * 3 + 2, none⟩) q1).trans f1'
          have d2 := (B.cell (p := ⟨b2, o2 + k * 3, none⟩) q2).trans d2'
          have e2 := (B.cell (p := ⟨b2, o2 + k * 3 + 1, none⟩) q2).trans e2'
          have f2 := (B.cell (p := ⟨b2, o2 + k * 3 + 2, none⟩) q2).trans f2'
          obtain ⟨x, hx⟩ : ∃ x, xs.getD k noM = x := ⟨_, rfl⟩
          obtain ⟨y, hy⟩ : ∃ y, ys.getD k noM = y := ⟨_, rfl⟩
          rw [hx] at d1 e1 f1
          rw [hy] at d2 e2 f2
          have Hx := Lib.hid hx
          have Hy := Lib.hid hy
          clear hx hy d1' e1' f1' d2' e2' f2'
          obtain ⟨xn, xp, xs'⟩ := x
          obtain ⟨yn, yp, ys'⟩ := y
          have d1 : wr.cell? ⟨b1, o1 + k * 3, none⟩ = some (.string xn) := d1
          have e1 : wr.cell? ⟨b1, o1 + k * 3 + 1, none⟩ = some (.bool xp) := e1
          have f1 : wr.cell? ⟨b1, o1 + k * 3 + 2, none⟩ = some (.int .i64 xs') := f1
          have d2 : wr.cell? ⟨b2, o2 + k * 3, none⟩ = some (.string yn) := d2
          have e2 : wr.cell? ⟨b2, o2 + k * 3 + 1, none⟩ = some (.bool yp) := e2
          have f2 : wr.cell? ⟨b2, o2 + k * 3 + 2, none⟩ = some (.int .i64 ys') := f2
          have HNE := fun W => neqM xn yn xp yp xs' ys' W
          rw [← mtB_eq] at HNE
          by_cases hxy : (⟨xn, xp, xs'⟩ : Mt) = ⟨yn, yp, ys'⟩
          · rw [decide_eq_true hxy] at HNE
            injection hxy with q1x q2x q3x
            subst q1x
            subst q2x
            subst q3x
            have Hall2 := Lib.hid (show ∀ j, j < k + 1 → xs.getD j noM = ys.getD j noM from fun j hj => by
              rcases Nat.lt_or_eq_of_le (Nat.le_of_lt_succ hj) with h | h
              · exact Hall.out j h
              · rw [h, Hx.out, Hy.out])
            go_wp2_with fail
            go_quiet (fail)
            go_wp2_with fail
            go_roundw
            case rel => exact ⟨k + 1, by omega, by go_num, Hall2, Lib.hid (below_drewN B _)⟩
            case measure => simp [intOf]; omega
          · have Hn3 := Lib.hid (show false = r by
              rw [← Hr.out, decide_eq_false]
              intro h
              rw [h] at Hx
              exact hxy (Hx.out.symm.trans Hy.out))
            rw [decide_eq_false hxy] at HNE
            go_wp2_with fail
            go_quiet (fail)
            go_wp2_with fail
            go_ret
            exact ⟨ret_bool Hn3.out, below_drewN B _⟩
        · obtain rfl : k = n := by omega
          have Hn3 := Lib.hid (show true = r by
            rw [← Hr.out, decide_eq_true]
            exact list_ext (d := noM) (by rw [Hn.out, Hn2.out]) (fun j hj => Hall.out j (by rw [← Hn.out]; exact hj)))
          go_wp2_with fail
          go_ret
          exact ⟨ret_bool Hn3.out, B⟩
  · have Hr := Lib.hid (show false = r by rw [← hr, decide_eq_false]; intro h; exact hl (by rw [h]))
    have hq : ((xs.length : Int) == (ys.length : Int)) = false := by rw [beq_eq_false_iff_ne]; omega
    have hq2 : ((xs.length : Int) != (ys.length : Int)) = true := by rw [bne, hq]; rfl
    generalize xs.length = n at *
    generalize ys.length = m at *
    clear h1 h2 hr
    go_enter Tryz.func28, Tryz.ntmps28
    go_wp2_with fail
    go_ret
    exact ⟨ret_bool Hr.out, Below.refl _ _⟩
set_option maxHeartbeats 8000000 in
set_option maxRecDepth 100000 in
theorem plike1_any (x y : Ty) (xw xk yw yk : Option Addr) (xwc xkc ywc ykc : Nat) (w : World) (hx : TyC w xw xk x) (hy : TyC w yw yk y) :
    Calls Tryz.prog 24 #[tyV x xw xwc xk xkc, tyV y yw ywc yk ykc] w fun e w' => e = .returned (.bool (decide (x = y))) ∧ Below w.heap.size w w' := by
  obtain ⟨R, hR⟩ : ∃ R, decide (x = y) = R := ⟨_, rfl⟩
  rw [hR]
  have HR := Lib.hid hR
  obtain ⟨w1, h1⟩ : ∃ w1, w.alloc (.cells #[.int .i64 x.kind, .string x.name, .int .i64 x.n, .slice xw x.words.length xwc, .slice xk x.kids.length xkc] 38) = w1 := ⟨_, rfl⟩
  obtain ⟨k1, q1, z1⟩ := box_new h1
  obtain ⟨w2, h2⟩ : ∃ w2, w1.alloc (.cells #[.int .i64 y.kind, .string y.name, .int .i64 y.n, .slice yw y.words.length ywc, .slice yk y.kids.length ykc] 38) = w2 := ⟨_, rfl⟩
  obtain ⟨k2, q2, z2⟩ := box_new h2
  have B2 := Lib.hid (q1.trans (q2.mono q1.size))
  have K1 := Lib.hid (k1.below q2)
  have K2 := Lib.hid k2
  have HX := Lib.hid hx
  have HY := Lib.hid hy
  have HW0 := fun W (hb : Below w.heap.size w W) => eq_string_any xw yw xwc ywc x.words y.words W (hx.words.below hb) (hy.words.below hb) (by have := hx.ok.wl; omega) (by have := hy.ok.wl; omega)
  have HK0 := fun W (hb : Below w.heap.size w W) => eq_int_any xk yk xkc ykc x.kids y.kids W (hx.kids.below hb) (hy.kids.below hb) (by have := hx.ok.kl; omega) (by have := hy.ok.kl; omega)
  obtain ⟨a0, a1, a2, a3, a4⟩ := cell5 (k1.below q2)
  obtain ⟨b0, b1, b2, b3, b4⟩ := cell5 k2
  have RD := Lib.hid (show decide (x.kind = y.kind ∧ x.name = y.name ∧ x.n = y.n ∧ x.words = y.words ∧ x.kids = y.kids) = R by
    rw [← HR.out]
    obtain ⟨c1, c2, c3, c4, c5⟩ := x
    obtain ⟨d1, d2, d3, d4, d5⟩ := y
    rw [decide_eq_decide, Ty.mk.injEq])
  unfold tyV
  clear hR k1 q1 k2 q2 z1 z2 hx hy
  go_enter Tryz.func24, Tryz.ntmps24
  by_cases hk : x.kind = y.kind
  case neg =>
    have hq : (x.kind == y.kind) = false := by rw [beq_eq_false_iff_ne]; exact hk
    have HV := Lib.hid (show false = R by rw [← RD.out, decide_eq_false (fun g => hk g.1)])
    clear hk
    go_wp2_with fail
    go_ret
    exact ⟨ret_bool HV.out, B2.out⟩
  have hq1 : (x.kind == y.kind) = true := by rw [beq_iff_eq]; exact hk
  by_cases hn : x.name = y.name
  case neg =>
    have hq2 : (x.name.toList == y.name.toList) = false := (ty_str_eq _ _).trans (decide_eq_false hn)
    have HV := Lib.hid (show false = R by rw [← RD.out, decide_eq_false (fun g => hn g.2.1)])
    clear hk hn
    go_wp2_with fail
    go_ret
    exact ⟨ret_bool HV.out, B2.out⟩
  have hq2 : (x.name.toList == y.name.toList) = true := (ty_str_eq _ _).trans (decide_eq_true hn)
  by_cases hm : x.n = y.n
  case neg =>
    have hq3 : (x.n == y.n) = false := by rw [beq_eq_false_iff_ne]; exact hm
    have HV := Lib.hid (show false = R by rw [← RD.out, decide_eq_false (fun g => hm g.2.2.1)])
    clear hk hn hm
    go_wp2_with fail
    go_ret
    exact ⟨ret_bool HV.out, B2.out⟩
  have hq3 : (x.n == y.n) = true := by rw [beq_iff_eq]; exact hm
  have RD2 := Lib.hid (show decide (x.words = y.words ∧ x.kids = y.kids) = R by
    rw [← RD.out, decide_eq_decide]
    exact ⟨fun g => ⟨hk, hn, hm, g.1, g.2⟩, fun g => g.2.2.2⟩)
  clear hk hn hm
  cases hw : decide (x.words = y.words) <;> rw [hw] at HW0 <;> have HW := Lib.hid HW0
  · have HV := Lib.hid (show false = R by rw [← RD2.out, decide_eq_false (fun g => of_decide_eq_false hw g.1)])
    clear hw HW0 HK0
    go_wp2_with fail
    refine (HW.out _ B2.out).mono ?_
    rintro e w3 ⟨rfl, b⟩
    have B3 := Lib.hid (B2.out.trans (b.mono B2.out.size))
    clear b h1 h2 a0 a1 a2 a3 a4 b0 b1 b2 b3 b4
    go_wp2_with fail
    go_ret
    exact ⟨ret_bool HV.out, B3.out⟩
  · have HV := Lib.hid (show decide (x.kids = y.kids) = R by rw [← RD2.out, decide_eq_decide]; exact ⟨fun g => ⟨of_decide_eq_true hw, g⟩, fun g => g.2⟩)
    obtain ⟨f, hf⟩ : ∃ f, decide (x.kids = y.kids) = f := ⟨_, rfl⟩
    rw [hf] at HK0 HV
    have HK := Lib.hid HK0
    clear hw HW0 HK0 hf
    go_wp2_with fail
    refine (HW.out _ B2.out).mono ?_
    rintro e w3 ⟨rfl, b⟩
    have B3 := Lib.hid (B2.out.trans (b.mono B2.out.size))
    clear h1 h2 a0 a1 a2 a3 a4 b0 b1 b2 b3 b4
    obtain ⟨a0, a1, a2, a3, a4⟩ := cell5 (K1.out.below b)
    obtain ⟨b0, b1, b2, b3, b4⟩ := cell5 (K2.out.below b)
    clear b
    go_wp2_with fail
    refine (HK.out _ B3.out).mono ?_
    rintro e w4 ⟨rfl, b⟩
    have B4 := Lib.hid (B3.out.trans (b.mono B3.out.size))
    clear b a0 a1 a2 a3 a4 b0 b1 b2 b3 b4
    go_wp2_with fail
    go_ret
    exact ⟨ret_bool HV.out, B4.out⟩
set_option maxHeartbeats 8000000 in
set_option maxRecDepth 100000 in
theorem plike2_any (x y : Nm) (xb xm yb ym : Option Addr) (xbc xmc ybc ymc : Nat) (w : World) (hx : NmC w xb xm x) (hy : NmC w yb ym y) :
    Calls Tryz.prog 27 #[nmV x xb xbc xm xmc, nmV y yb ybc ym ymc] w fun e w' => e = .returned (.bool (decide (x = y))) ∧ Below w.heap.size w w' := by
  obtain ⟨R, hR⟩ : ∃ R, decide (x = y) = R := ⟨_, rfl⟩
  rw [hR]
  have HR := Lib.hid hR
  obtain ⟨w1, h1⟩ : ∃ w1, w.alloc (.cells #[.string x.name, .slice xb x.bounds.length xbc, .int .i64 x.under, .slice xm x.methods.length xmc] 51) = w1 := ⟨_, rfl⟩
  obtain ⟨k1, q1, z1⟩ := box_new h1
  obtain ⟨w2, h2⟩ : ∃ w2, w1.alloc (.cells #[.string y.name, .slice yb y.bounds.length ybc, .int .i64 y.under, .slice ym y.methods.length ymc] 51) = w2 := ⟨_, rfl⟩
  obtain ⟨k2, q2, z2⟩ := box_new h2
  have B2 := Lib.hid (q1.trans (q2.mono q1.size))
  have K1 := Lib.hid (k1.below q2)
  have K2 := Lib.hid k2
  have HW0 := fun W (hb : Below w.heap.size w W) => eq_int_any xb yb xbc ybc x.bounds y.bounds W (hx.bounds.below hb) (hy.bounds.below hb) (by have := hx.ok.bl; omega) (by have := hy.ok.bl; omega)
  have HK0 := fun W (hb : Below w.heap.size w W) => eq_meth_any xm ym xmc ymc x.methods y.methods W (hx.methods.below hb) (hy.methods.below hb) (by have := hx.ok.ml; omega) (by have := hy.ok.ml; omega)
  obtain ⟨a0, a1, a2, a3⟩ := cell4 (k1.below q2)
  obtain ⟨b0, b1, b2, b3⟩ := cell4 k2
  have RD := Lib.hid (show decide (x.name = y.name ∧ x.under = y.under ∧ x.bounds = y.bounds ∧ x.methods = y.methods) = R by
    rw [← HR.out]
    obtain ⟨c1, c2, c3, c4⟩ := x
    obtain ⟨d1, d2, d3, d4⟩ := y
    rw [decide_eq_decide, Nm.mk.injEq]
    exact ⟨fun g => ⟨g.1, g.2.2.1, g.2.1, g.2.2.2⟩, fun g => ⟨g.1, g.2.2.1, g.2.1, g.2.2.2⟩⟩)
  unfold nmV
  clear hR k1 q1 k2 q2 z1 z2 hx hy
  go_enter Tryz.func27, Tryz.ntmps27
  by_cases hn : x.name = y.name
  case neg =>
    have hq2 : (x.name.toList == y.name.toList) = false := (ty_str_eq _ _).trans (decide_eq_false hn)
    have HV := Lib.hid (show false = R by rw [← RD.out, decide_eq_false (fun g => hn g.1)])
    clear hn
    go_wp2_with fail
    go_ret
    exact ⟨ret_bool HV.out, B2.out⟩
  have hq2 : (x.name.toList == y.name.toList) = true := (ty_str_eq _ _).trans (decide_eq_true hn)
  by_cases hm : x.under = y.under
  case neg =>
    have hq3 : (x.under == y.under) = false := by rw [beq_eq_false_iff_ne]; exact hm
    have HV := Lib.hid (show false = R by rw [← RD.out, decide_eq_false (fun g => hm g.2.1)])
    clear hn hm
    go_wp2_with fail
    go_ret
    exact ⟨ret_bool HV.out, B2.out⟩
  have hq3 : (x.under == y.under) = true := by rw [beq_iff_eq]; exact hm
  have RD2 := Lib.hid (show decide (x.bounds = y.bounds ∧ x.methods = y.methods) = R by
    rw [← RD.out, decide_eq_decide]
    exact ⟨fun g => ⟨hn, hm, g.1, g.2⟩, fun g => g.2.2⟩)
  clear hn hm
  cases hw : decide (x.bounds = y.bounds) <;> rw [hw] at HW0 <;> have HW := Lib.hid HW0
  · have HV := Lib.hid (show false = R by rw [← RD2.out, decide_eq_false (fun g => of_decide_eq_false hw g.1)])
    clear hw HW0 HK0
    go_wp2_with fail
    refine (HW.out _ B2.out).mono ?_
    rintro e w3 ⟨rfl, b⟩
    have B3 := Lib.hid (B2.out.trans (b.mono B2.out.size))
    clear b h1 h2 a0 a1 a2 a3 b0 b1 b2 b3
    go_wp2_with fail
    go_ret
    exact ⟨ret_bool HV.out, B3.out⟩
  · have HV := Lib.hid (show decide (x.methods = y.methods) = R by rw [← RD2.out, decide_eq_decide]; exact ⟨fun g => ⟨of_decide_eq_true hw, g⟩, fun g => g.2⟩)
    obtain ⟨f, hf⟩ : ∃ f, decide (x.methods = y.methods) = f := ⟨_, rfl⟩
    rw [hf] at HK0 HV
    have HK := Lib.hid HK0
    clear hw HW0 HK0 hf
    go_wp2_with fail
    refine (HW.out _ B2.out).mono ?_
    rintro e w3 ⟨rfl, b⟩
    have B3 := Lib.hid (B2.out.trans (b.mono B2.out.size))
    clear h1 h2 a0 a1 a2 a3 b0 b1 b2 b3
    obtain ⟨a0, a1, a2, a3⟩ := cell4 (K1.out.below b)
    obtain ⟨b0, b1, b2, b3⟩ := cell4 (K2.out.below b)
    clear b
    go_wp2_with fail
    refine (HK.out _ B3.out).mono ?_
    rintro e w4 ⟨rfl, b⟩
    have B4 := Lib.hid (B3.out.trans (b.mono B3.out.size))
    clear b a0 a1 a2 a3 b0 b1 b2 b3
    go_wp2_with fail
    go_ret
    exact ⟨ret_bool HV.out, B4.out⟩
set_option maxHeartbeats 8000000 in
set_option maxRecDepth 100000 in
theorem eqfT_any (xs ys : List Ty) (ao bo : Option Addr) (ac bc : Nat) (w : World) (hx : ARow w ao xs) (hy : ARow w bo ys) (lx : xs.length ≤ 1000) (ly : ys.length ≤ 1000) :
    Calls Tryz.prog 29 #[.slice ao xs.length ac, .slice bo ys.length bc, .func (.func 24) #[] #[]] w fun e w' => e = .returned (.bool (decide (xs = ys))) ∧ Below w.heap.size w w' := by
  obtain ⟨r, hr⟩ : ∃ r, decide (xs = ys) = r := ⟨_, rfl⟩
  rw [hr]
  have HR := Lib.hid hr
  clear hr
  obtain ⟨n, hn⟩ : ∃ n, xs.length = n := ⟨_, rfl⟩
  obtain ⟨m, hm⟩ : ∃ m, ys.length = m := ⟨_, rfl⟩
  have HN := Lib.hid hn
  have HM := Lib.hid hm
  have HX := Lib.hid hx
  have HY := Lib.hid hy
  rw [hn] at lx ⊢
  rw [hm] at ly ⊢
  clear hn hm hx hy
  by_cases hnm : n = m
  case neg =>
    have Hn := Lib.hid (show false = r by
      rw [← HR.out]; symm; rw [decide_eq_false_iff_not]; intro e
      exact hnm (by rw [← HN.out, ← HM.out, e]))
    have hq : ((n : Int) == (m : Int)) = false := by rw [beq_eq_false_iff_ne]; omega
    have hq2 : ((n : Int) != (m : Int)) = true := by rw [bne, hq]; rfl
    go_enter Tryz.func29, Tryz.ntmps29
    go_wp2_with fail
    go_ret
    exact ⟨ret_bool Hn.out, Below.refl _ _⟩
  subst hnm
  go_enter Tryz.func29, Tryz.ntmps29
  go_wp2_with fail
  go_loopw [17] (fun i wr => ∃ k : Nat, k ≤ n ∧ i = .int .i64 k ∧ Hid (∀ j (h1 : j < xs.length) (h2 : j < ys.length), j < k → xs[j] = ys[j]) ∧ Hid (Below w.heap.size w wr)) (fun i _ => n - (intOf i).toNat)
  case atStart => exact ⟨0, Nat.zero_le _, rfl, Lib.hid (fun j _ _ hj => absurd hj (Nat.not_lt_zero _)), Lib.hid (Below.refl _ _)⟩
  case round =>
    obtain ⟨k, hk, rfl, Hall, HB⟩ := hrel
    by_cases hkl : k < n
    · have hkI : (k : Int) < (n : Int) := by omega
      have hkx : k < xs.length := by rw [HN.out]; exact hkl
      have hky : k < ys.length := by rw [HM.out]; exact hkl
      obtain ⟨ab, aof, rfl, hab, hac⟩ := (HX.out.below HB.out).cells (by omega)
      obtain ⟨bb, bof, rfl, hbb, hbc⟩ := (HY.out.below HB.out).cells (by omega)
      have hat := hac k hkx
      have hbt := hbc k hky
      obtain ⟨x, hx⟩ : ∃ x, xs[k] = x := ⟨_, rfl⟩
      obtain ⟨y, hy⟩ : ∃ y, ys[k] = y := ⟨_, rfl⟩
      rw [hx] at hat
      rw [hy] at hbt
      have HXY := Lib.hid (And.intro hx hy)
      obtain ⟨xw, xwc, xk, xkc, a0, a1, a2, a3, a4, -, -, hxc⟩ := hat
      obtain ⟨yw, ywc, yk, ykc, b0', b1', b2', b3', b4', -, -, hyc⟩ := hbt
      obtain ⟨w1, h1⟩ : ∃ w1, wr.alloc (.cells #[.int .i64 x.kind, .string x.name, .int .i64 x.n, .slice xw x.words.length xwc, .slice xk x.kids.length xkc] 38) = w1 := ⟨_, rfl⟩
      obtain ⟨k1, q1, z1⟩ := box_new h1
      obtain ⟨w2, h2⟩ : ∃ w2, w1.alloc (.cells #[.int .i64 y.kind, .string y.name, .int .i64 y.n, .slice yw y.words.length ywc, .slice yk y.kids.length ykc] 38) = w2 := ⟨_, rfl⟩
      obtain ⟨k2, q2', z2⟩ := box_new h2
      have q2 := q1.trans (q2'.mono q1.size)
      have b0 := (q1.cell (p := ⟨bb, bof + k * 5, none⟩) hbb).trans b0'
      have b1 := (q1.cell (p := ⟨bb, bof + k * 5 + 1, none⟩) hbb).trans b1'
      have b2 := (q1.cell (p := ⟨bb, bof + k * 5 + 2, none⟩) hbb).trans b2'
      have b3 := (q1.cell (p := ⟨bb, bof + k * 5 + 3, none⟩) hbb).trans b3'
      have b4 := (q1.cell (p := ⟨bb, bof + k * 5 + 4, none⟩) hbb).trans b4'
      clear b0' b1' b2' b3' b4'
      have BN := Lib.hid (HB.out.trans (q2.mono HB.out.size))
      obtain ⟨c0, c1, c2, c3, c4⟩ := cell5 (k1.below q2')
      obtain ⟨d0, d1, d2, d3, d4⟩ := cell5 k2
      have HL0 := plike1_any x y xw xk yw yk xwc xkc ywc ykc w2 (hxc.below q2) (hyc.below q2)
      unfold tyV at HL0
      clear hx hy hac hbc hab hbb hxc hyc k1 k2 q1 q2 q2' z1 z2
      by_cases he : x = y
      · rw [decide_eq_true he] at HL0
        have HL := Lib.hid HL0
        have Hx := Lib.hid (show ∀ j (h1 : j < xs.length) (h2 : j < ys.length), j < k + 1 → xs[j] = ys[j] from fun j h1 h2 hj => by
          rcases Nat.lt_or_eq_of_le (Nat.le_of_lt_succ hj) with h3 | h3
          · exact Hall.out j h1 h2 h3
          · subst h3; rw [HXY.out.1, HXY.out.2]; exact he)
        clear he HL0
        go_wp2_with fail
        refine HL.out.mono ?_
        rintro e w' ⟨rfl, b⟩
        have B2 := Lib.hid (BN.out.trans (b.mono BN.out.size))
        clear b h1 h2 a0 a1 a2 a3 a4 b0 b1 b2 b3 b4 c0 c1 c2 c3 c4 d0 d1 d2 d3 d4
        go_wp2_with fail
        go_roundw
        case rel => exact ⟨k + 1, by omega, by go_num, Hx, B2⟩
        case measure => first | (simp [intOf]; done) | (simp [intOf]; omega)
      · rw [decide_eq_false he] at HL0
        have HL := Lib.hid HL0
        have Hn := Lib.hid (show false = r by
          rw [← HR.out]; symm; rw [decide_eq_false_iff_not]; intro e
          subst e
          exact he (HXY.out.1.symm.trans HXY.out.2))
        clear he HL0
        go_wp2_with fail
        refine HL.out.mono ?_
        rintro e w' ⟨rfl, b⟩
        have B2 := Lib.hid (BN.out.trans (b.mono BN.out.size))
        clear b h1 h2 a0 a1 a2 a3 a4 b0 b1 b2 b3 b4 c0 c1 c2 c3 c4 d0 d1 d2 d3 d4
        go_wp2_with fail
        go_ret
        exact ⟨ret_bool Hn.out, B2.out⟩
    · obtain rfl : k = n := by omega
      have Hn := Lib.hid (show true = r by
        rw [← HR.out]; symm; rw [decide_eq_true_iff]
        exact List.ext_getElem (HN.out.trans HM.out.symm) (fun j h1 h2 => Hall.out j h1 h2 (by rw [← HN.out]; exact h1)))
      go_wp2_with fail
      go_ret
      exact ⟨ret_bool Hn.out, HB.out⟩
set_option maxHeartbeats 8000000 in
set_option maxRecDepth 100000 in
theorem eqfN_any (xs ys : List Nm) (ao bo : Option Addr) (ac bc : Nat) (w : World) (hx : URow w ao xs) (hy : URow w bo ys) (lx : xs.length ≤ 1000) (ly : ys.length ≤ 1000) :
    Calls Tryz.prog 30 #[.slice ao xs.length ac, .slice bo ys.length bc, .func (.func 27) #[] #[]] w fun e w' => e = .returned (.bool (decide (xs = ys))) ∧ Below w.heap.size w w' := by
  obtain ⟨r, hr⟩ : ∃ r, decide (xs = ys) = r := ⟨_, rfl⟩
  rw [hr]
  have HR := Lib.hid hr
  clear hr
  obtain ⟨n, hn⟩ : ∃ n, xs.length = n := ⟨_, rfl⟩
  obtain ⟨m, hm⟩ : ∃ m, ys.length = m := ⟨_, rfl⟩
  have HN := Lib.hid hn
  have HM := Lib.hid hm
  have HX := Lib.hid hx
  have HY := Lib.hid hy
  rw [hn] at lx ⊢
  rw [hm] at ly ⊢
  clear hn hm hx hy
  by_cases hnm : n = m
  case neg =>
    have Hn := Lib.hid (show false = r by
      rw [← HR.out]; symm; rw [decide_eq_false_iff_not]; intro e
      exact hnm (by rw [← HN.out, ← HM.out, e]))
    have hq : ((n : Int) == (m : Int)) = false := by rw [beq_eq_false_iff_ne]; omega
    have hq2 : ((n : Int) != (m : Int)) = true := by rw [bne, hq]; rfl
    go_enter Tryz.func30, Tryz.ntmps30
    go_wp2_with fail
    go_ret
    exact ⟨ret_bool Hn.out, Below.refl _ _⟩
  subst hnm
  go_enter Tryz.func30, Tryz.ntmps30
  go_wp2_with fail
  go_loopw [17] (fun i wr => ∃ k : Nat, k ≤ n ∧ i = .int .i64 k ∧ Hid (∀ j (h1 : j < xs.length) (h2 : j < ys.length), j < k → xs[j] = ys[j]) ∧ Hid (Below w.heap.size w wr)) (fun i _ => n - (intOf i).toNat)
  case atStart => exact ⟨0, Nat.zero_le _, rfl, Lib.hid (fun j _ _ hj => absurd hj (Nat.not_lt_zero _)), Lib.hid (Below.refl _ _)⟩
  case round =>
    obtain ⟨k, hk, rfl, Hall, HB⟩ := hrel
    by_cases hkl : k < n
    · have hkI : (k : Int) < (n : Int) := by omega
      have hkx : k < xs.length := by rw [HN.out]; exact hkl
      have hky : k < ys.length := by rw [HM.out]; exact hkl
      obtain ⟨ab, aof, rfl, hab, hac⟩ := (HX.out.below HB.out).cells (by omega)
      obtain ⟨bb, bof, rfl, hbb, hbc⟩ := (HY.out.below HB.out).cells (by omega)
      have hat := hac k hkx
      have hbt := hbc k hky
      obtain ⟨x, hx⟩ : ∃ x, xs[k] = x := ⟨_, rfl⟩
      obtain ⟨y, hy⟩ : ∃ y, ys[k] = y := ⟨_, rfl⟩
      rw [hx] at hat
      rw [hy] at hbt
      have HXY := Lib.hid (And.intro hx hy)
      obtain ⟨xb, xbc, xm, xmc, a0, a1, a2, a3, -, -, hxc⟩ := hat
      obtain ⟨yb, ybc, ym, ymc, b0', b1', b2', b3', -, -, hyc⟩ := hbt
      obtain ⟨w1, h1⟩ : ∃ w1, wr.alloc (.cells #[.string x.name, .slice xb x.bounds.length xbc, .int .i64 x.under, .slice xm x.methods.length xmc] 51) = w1 := ⟨_, rfl⟩
      obtain ⟨k1, q1, z1⟩ := box_new h1
      obtain ⟨w2, h2⟩ : ∃ w2, w1.alloc (.cells #[.string y.name, .slice yb y.bounds.length ybc, .int .i64 y.under, .slice ym y.methods.length ymc] 51) = w2 := ⟨_, rfl⟩
      obtain ⟨k2, q2', z2⟩ := box_new h2
      have q2 := q1.trans (q2'.mono q1.size)
      have b0 := (q1.cell (p := ⟨bb, bof + k * 4, none⟩) hbb).trans b0'
      have b1 := (q1.cell (p := ⟨bb, bof + k * 4 + 1, none⟩) hbb).trans b1'
      have b2 := (q1.cell (p := ⟨bb, bof + k * 4 + 2, none⟩) hbb).trans b2'
      have b3 := (q1.cell (p := ⟨bb, bof + k * 4 + 3, none⟩) hbb).trans b3'
      clear b0' b1' b2' b3'
      have BN := Lib.hid (HB.out.trans (q2.mono HB.out.size))
      obtain ⟨c0, c1, c2, c3⟩ := cell4 (k1.below q2')
      obtain ⟨d0, d1, d2, d3⟩ := cell4 k2
      have HL0 := plike2_any x y xb xm yb ym xbc xmc ybc ymc w2 (hxc.below q2) (hyc.below q2)
      unfold nmV at HL0
      clear hx hy hac hbc hab hbb hxc hyc k1 k2 q1 q2 q2' z1 z2
      by_cases he : x = y
      · rw [decide_eq_true he] at HL0
        have HL := Lib.hid HL0
        have Hx := Lib.hid (show ∀ j (h1 : j < xs.length) (h2 : j < ys.length), j < k + 1 → xs[j] = ys[j] from fun j h1 h2 hj => by
          rcases Nat.lt_or_eq_of_le (Nat.le_of_lt_succ hj) with h3 | h3
          · exact Hall.out j h1 h2 h3
          · subst h3; rw [HXY.out.1, HXY.out.2]; exact he)
        clear he HL0
        go_wp2_with fail
        refine HL.out.mono ?_
        rintro e w' ⟨rfl, b⟩
        have B2 := Lib.hid (BN.out.trans (b.mono BN.out.size))
        clear b h1 h2 a0 a1 a2 a3 b0 b1 b2 b3 c0 c1 c2 c3 d0 d1 d2 d3
        go_wp2_with fail
        go_roundw
        case rel => exact ⟨k + 1, by omega, by go_num, Hx, B2⟩
        case measure => first | (simp [intOf]; done) | (simp [intOf]; omega)
      · rw [decide_eq_false he] at HL0
        have HL := Lib.hid HL0
        have Hn := Lib.hid (show false = r by
          rw [← HR.out]; symm; rw [decide_eq_false_iff_not]; intro e
          subst e
          exact he (HXY.out.1.symm.trans HXY.out.2))
        clear he HL0
        go_wp2_with fail
        refine HL.out.mono ?_
        rintro e w' ⟨rfl, b⟩
        have B2 := Lib.hid (BN.out.trans (b.mono BN.out.size))
        clear b h1 h2 a0 a1 a2 a3 b0 b1 b2 b3 c0 c1 c2 c3 d0 d1 d2 d3
        go_wp2_with fail
        go_ret
        exact ⟨ret_bool Hn.out, B2.out⟩
    · obtain rfl : k = n := by omega
      have Hn := Lib.hid (show true = r by
        rw [← HR.out]; symm; rw [decide_eq_true_iff]
        exact List.ext_getElem (HN.out.trans HM.out.symm) (fun j h1 h2 => Hall.out j h1 h2 (by rw [← HN.out]; exact h1)))
      go_wp2_with fail
      go_ret
      exact ⟨ret_bool Hn.out, HB.out⟩
set_option maxHeartbeats 4000000 in
set_option maxRecDepth 100000 in
theorem plike_any (u v : Un) (ao no bo mo : Option Addr) (ac nc bc mc : Nat) (w : World) (hU : UnC w ao no ac nc u) (hV : UnC w bo mo bc mc v) :
    Calls Tryz.prog 9 #[unV u ao ac no nc, unV v bo bc mo mc] w fun e w' => e = .returned (.bool (decide (u = v))) ∧ Below w.heap.size w w' := by
  obtain ⟨w1, h1⟩ : ∃ w1, w.alloc (.cells #[.slice ao u.types.length ac, .slice no u.named.length nc] 25) = w1 := ⟨_, rfl⟩
  obtain ⟨k1, q1, z1⟩ := box_new h1
  obtain ⟨w2, h2⟩ : ∃ w2, w1.alloc (.cells #[.slice bo v.types.length bc, .slice mo v.named.length mc] 25) = w2 := ⟨_, rfl⟩
  obtain ⟨k2, q2, z2⟩ := box_new h2
  have B2 := Lib.hid (q1.trans (q2.mono q1.size))
  have K1 := Lib.hid (k1.below q2)
  have K2 := Lib.hid k2
  have HT0 := eqfT_any u.types v.types ao bo ac bc w2 (hU.types.below B2.out) (hV.types.below B2.out) hU.tl hV.tl
  have HN0 := fun W (hb : Below w.heap.size w W) => eqfN_any u.named v.named no mo nc mc W (hU.named.below hb) (hV.named.below hb) hU.nl hV.nl
  obtain ⟨c0, c1⟩ := cell2 (k1.below q2)
  obtain ⟨d0, d1⟩ := cell2 k2
  have hdec : decide (u = v) = (decide (u.types = v.types) && decide (u.named = v.named)) := by
    obtain ⟨a, b⟩ := u
    obtain ⟨c, d⟩ := v
    rw [Bool.eq_iff_iff, decide_eq_true_eq, Bool.and_eq_true, decide_eq_true_eq, decide_eq_true_eq, Un.mk.injEq]
  rw [hdec]
  unfold unV
  clear hdec k1 k2 q1 q2 z1 z2 hU hV
  go_enter Tryz.func9, Tryz.ntmps9
  cases hw : decide (u.types = v.types) <;> rw [hw] at HT0 <;> have HT := Lib.hid HT0 <;> clear hw HT0
  · rw [Bool.false_and]
    go_wp2_with fail
    refine HT.out.mono ?_
    rintro e w3 ⟨rfl, b⟩
    have B3 := Lib.hid (B2.out.trans (b.mono B2.out.size))
    clear b h1 h2 c0 c1 d0 d1
    go_wp2_with fail
    go_ret
    exact ⟨rfl, B3.out⟩
  · obtain ⟨f, hf⟩ : ∃ f, decide (u.named = v.named) = f := ⟨_, rfl⟩
    rw [hf] at HN0 ⊢
    have HN := Lib.hid HN0
    clear hf HN0
    rw [Bool.true_and]
    go_wp2_with fail
    refine HT.out.mono ?_
    rintro e w3 ⟨rfl, b⟩
    have B3 := Lib.hid (B2.out.trans (b.mono B2.out.size))
    clear h1 h2 c0 c1 d0 d1
    obtain ⟨c0, c1⟩ := cell2 (K1.out.below b)
    obtain ⟨d0, d1⟩ := cell2 (K2.out.below b)
    clear b
    go_wp2_with fail
    refine (HN.out _ B3.out).mono ?_
    rintro e w4 ⟨rfl, b⟩
    have B4 := Lib.hid (B3.out.trans (b.mono B3.out.size))
    clear b c0 c1 d0 d1
    go_wp2_with fail
    go_ret
    exact ⟨rfl, B4.out⟩
end Go.Proofs.YtkmnfkhchcoamaaGreatDoor
/- The reference's Methods, Like. -/
namespace Go.Proofs.YtkmnfkhchcoamaaGreatDoor
open Go.RowKit
set_option linter.unusedSimpArgs false
set_option linter.unusedVariables false

set_option maxHeartbeats 8000000 in
set_option maxRecDepth 100000 in
theorem refmeth_any (xs ys : List Mt) (ao bo : Option Addr) (ac bc : Nat) (w : World) (hx : MRow w ao xs) (hy : MRow w bo ys) (lx : xs.length ≤ 1000) (ly : ys.length ≤ 1000) :
    Calls Tryz.prog 31 #[.slice ao xs.length ac, .slice bo ys.length bc] w fun e w' => e = .returned (.bool (decide (xs = ys))) ∧ Below w.heap.size w w' := by
  obtain ⟨r, hr⟩ : ∃ r, decide (xs = ys) = r := ⟨_, rfl⟩
  rw [hr]
  have HR := Lib.hid hr
  clear hr
  obtain ⟨n, hn⟩ : ∃ n, xs.length = n := ⟨_, rfl⟩
  obtain ⟨m, hm⟩ : ∃ m, ys.length = m := ⟨_, rfl⟩
  have HN := Lib.hid hn
  have HM := Lib.hid hm
  have HX := Lib.hid hx
  have HY := Lib.hid hy
  rw [hn] at lx ⊢
  rw [hm] at ly ⊢
  clear hn hm hx hy
  by_cases hnm : n = m
  case neg =>
    have Hn := Lib.hid (show false = r by
      rw [← HR.out]; symm; rw [decide_eq_false_iff_not]; intro e
      exact hnm (by rw [← HN.out, ← HM.out, e]))
    have hq : ((n : Int) == (m : Int)) = false := by rw [beq_eq_false_iff_ne]; omega
    have hq2 : ((n : Int) != (m : Int)) = true := by rw [bne, hq]; rfl
    go_enter Tryz.func31, Tryz.ntmps31
    go_wp2_with fail
    go_ret
    exact ⟨ret_bool Hn.out, Below.refl _ _⟩
  subst hnm
  go_enter Tryz.func31, Tryz.ntmps31
  go_wp2_with fail
  go_loopw [13] (fun i wr => ∃ k : Nat, k ≤ n ∧ i = .int .i64 k ∧ Hid (∀ j (h1 : j < xs.length) (h2 : j < ys.length), j < k → xs[j] = ys[j]) ∧ Hid (Below w.heap.size w wr)) (fun i _ => n - (intOf i).toNat)
  case atStart => exact ⟨0, Nat.zero_le _, rfl, Lib.hid (fun j _ _ hj => absurd hj (Nat.not_lt_zero _)), Lib.hid (Below.refl _ _)⟩
  case round =>
    obtain ⟨k, hk, rfl, Hall, HB⟩ := hrel
    by_cases hkl : k < n
    · have hkI : (k : Int) < (n : Int) := by omega
      have hkx : k < xs.length := by rw [HN.out]; exact hkl
      have hky : k < ys.length := by rw [HM.out]; exact hkl
      obtain ⟨ab, aof, rfl, hab, hac⟩ := (HX.out.below HB.out).cells (by omega)
      obtain ⟨bb, bof, rfl, hbb, hbc⟩ := (HY.out.below HB.out).cells (by omega)
      obtain ⟨a0, a1, a2⟩ := hac k hkx
      obtain ⟨b0, b1, b2⟩ := hbc k hky
      obtain ⟨x, hx⟩ : ∃ x, xs[k] = x := ⟨_, rfl⟩
      obtain ⟨y, hy⟩ : ∃ y, ys[k] = y := ⟨_, rfl⟩
      rw [hx] at a0 a1 a2
      rw [hy] at b0 b1 b2
      have HXY := Lib.hid (And.intro hx hy)
      have BADR := Lib.hid (show x ≠ y → false = r from fun h => by
        rw [← HR.out]; symm; rw [decide_eq_false_iff_not]; intro e
        subst e
        exact h (HXY.out.1.symm.trans HXY.out.2))
      have GOOD := Lib.hid (show x = y → ∀ j (h1 : j < xs.length) (h2 : j < ys.length), j < k + 1 → xs[j] = ys[j] from fun he j h1 h2 hj => by
        rcases Nat.lt_or_eq_of_le (Nat.le_of_lt_succ hj) with h3 | h3
        · exact Hall.out j h1 h2 h3
        · subst h3; rw [HXY.out.1, HXY.out.2]; exact he)
      obtain ⟨xn, xp, xs'⟩ := x
      obtain ⟨yn, yp, ys'⟩ := y
      replace a0 : wr.cell? ⟨ab, aof + k * 3, none⟩ = some (.string xn) := a0
      replace a1 : wr.cell? ⟨ab, aof + k * 3 + 1, none⟩ = some (.bool xp) := a1
      replace a2 : wr.cell? ⟨ab, aof + k * 3 + 2, none⟩ = some (.int .i64 xs') := a2
      replace b0 : wr.cell? ⟨bb, bof + k * 3, none⟩ = some (.string yn) := b0
      replace b1 : wr.cell? ⟨bb, bof + k * 3 + 1, none⟩ = some (.bool yp) := b1
      replace b2 : wr.cell? ⟨bb, bof + k * 3 + 2, none⟩ = some (.int .i64 ys') := b2
      clear hx hy hac hbc hab hbb
      by_cases en : xn = yn
      case neg =>
        have Hn := Lib.hid (BADR.out (fun g => en (by injection g)))
        have hq : (xn.toList == yn.toList) = false := (ty_str_eq _ _).trans (decide_eq_false en)
        have hq2 : (xn.toList != yn.toList) = true := by rw [bne, hq]; rfl
        clear en
        go_wp2_with fail
        go_quiet (fail)
        go_wp2_with fail
        go_ret
        exact ⟨ret_bool Hn.out, below_drewN HB.out _⟩
      subst en
      by_cases ep : xp = yp
      case neg =>
        have Hn := Lib.hid (BADR.out (fun g => ep (by injection g)))
        cases xp <;> cases yp
        · exact absurd rfl ep
        · clear ep
          go_wp2_with fail
          go_quiet (fail)
          go_wp2_with fail
          go_ret
          exact ⟨ret_bool Hn.out, below_drewN HB.out _⟩
        · clear ep
          go_wp2_with fail
          go_quiet (fail)
          go_wp2_with fail
          go_ret
          exact ⟨ret_bool Hn.out, below_drewN HB.out _⟩
        · exact absurd rfl ep
      subst ep
      by_cases es : xs' = ys'
      case neg =>
        have Hn := Lib.hid (BADR.out (fun g => es (by injection g)))
        have hq : (xs' == ys') = false := by rw [beq_eq_false_iff_ne]; exact es
        have hq2 : (xs' != ys') = true := by rw [bne, hq]; rfl
        clear es
        cases xp
        · skip
          go_wp2_with fail
          go_quiet (fail)
          go_wp2_with fail
          go_ret
          exact ⟨ret_bool Hn.out, below_drewN HB.out _⟩
        · skip
          go_wp2_with fail
          go_quiet (fail)
          go_wp2_with fail
          go_ret
          exact ⟨ret_bool Hn.out, below_drewN HB.out _⟩
      subst es
      have Hx := Lib.hid (GOOD.out rfl)
      cases xp
      · skip
        go_wp2_with fail
        go_quiet (fail)
        go_wp2_with fail
        go_roundw
        case rel => exact ⟨k + 1, by omega, by go_num, Hx, Lib.hid (below_drewN HB.out _)⟩
        case measure => first | (simp [intOf]; done) | (simp [intOf]; omega)
      · skip
        go_wp2_with fail
        go_quiet (fail)
        go_wp2_with fail
        go_roundw
        case rel => exact ⟨k + 1, by omega, by go_num, Hx, Lib.hid (below_drewN HB.out _)⟩
        case measure => first | (simp [intOf]; done) | (simp [intOf]; omega)
    · obtain rfl : k = n := by omega
      have Hn := Lib.hid (show true = r by
        rw [← HR.out]; symm; rw [decide_eq_true_iff]
        exact List.ext_getElem (HN.out.trans HM.out.symm) (fun j h1 h2 => Hall.out j h1 h2 (by rw [← HN.out]; exact h1)))
      go_wp2_with fail
      go_ret
      exact ⟨ret_bool Hn.out, HB.out⟩
set_option maxHeartbeats 16000000 in
set_option maxRecDepth 100000 in
theorem reflike_uany (u v : Un) (ao no bo mo : Option Addr) (ac nc bc mc : Nat) (w : World) (hU : UnC w ao no ac nc u) (hV : UnC w bo mo bc mc v) :
    Calls Tryz.prog 10 #[unV u ao ac no nc, unV v bo bc mo mc] w fun e w' => e = .returned (.bool (decide (u = v))) ∧ Below w.heap.size w w' := by
  obtain ⟨R, hR⟩ : ∃ R, decide (u = v) = R := ⟨_, rfl⟩
  rw [hR]
  have HR := Lib.hid hR
  have HU := Lib.hid hU
  have HV := Lib.hid hV
  have hnl := hU.nl
  have hml := hV.nl
  obtain ⟨w1, h1⟩ : ∃ w1, w.alloc (.cells #[.slice ao u.types.length ac, .slice no u.named.length nc] 25) = w1 := ⟨_, rfl⟩
  obtain ⟨k1, q1, z1⟩ := box_new h1
  obtain ⟨w2, h2⟩ : ∃ w2, w1.alloc (.cells #[.slice bo v.types.length bc, .slice mo v.named.length mc] 25) = w2 := ⟨_, rfl⟩
  obtain ⟨k2, q2, z2⟩ := box_new h2
  have B2 := Lib.hid (q1.trans (q2.mono q1.size))
  have HT0 := arenas_any u.types v.types ao bo ac bc w2 (hU.types.below B2.out) (hV.types.below B2.out) hU.tl hV.tl
  obtain ⟨n, hn⟩ : ∃ n, u.named.length = n := ⟨_, rfl⟩
  obtain ⟨m, hm⟩ : ∃ m, v.named.length = m := ⟨_, rfl⟩
  have HN := Lib.hid hn
  have HM := Lib.hid hm
  unfold unV
  rw [hn] at h1 k1 hnl ⊢
  rw [hm] at h2 k2 hml ⊢
  have K1 := Lib.hid (k1.below q2)
  have K2 := Lib.hid k2
  obtain ⟨c0, c1⟩ := cell2 (k1.below q2)
  obtain ⟨d0, d1⟩ := cell2 k2
  have BADR := Lib.hid (show (u = v → False) → false = R from fun h => by rw [← HR.out, decide_eq_false h])
  clear k1 k2 q1 q2 z1 z2 hU hV hR hn hm
  go_enter Tryz.func10, Tryz.ntmps10
  cases hw : decide (u.types = v.types) <;> rw [hw] at HT0 <;> have HT := Lib.hid HT0 <;> have HTE := Lib.hid hw <;> clear hw HT0
  · have Hn := Lib.hid (BADR.out fun g => of_decide_eq_false HTE.out (by rw [g]))
    go_wp2_with fail
    refine HT.out.mono ?_
    rintro e w3 ⟨rfl, b⟩
    have B3 := Lib.hid (B2.out.trans (b.mono B2.out.size))
    clear b h1 h2 c0 c1 d0 d1
    go_wp2_with fail
    go_ret
    exact ⟨ret_bool Hn.out, B3.out⟩
  by_cases hnm : n = m
  case neg =>
    have Hn := Lib.hid (BADR.out fun g => hnm (by rw [← HN.out, ← HM.out, g]))
    have hq : ((n : Int) == (m : Int)) = false := by rw [beq_eq_false_iff_ne]; omega
    have hq2 : ((n : Int) != (m : Int)) = true := by rw [bne, hq]; rfl
    go_wp2_with fail
    refine HT.out.mono ?_
    rintro e w3 ⟨rfl, b⟩
    have B3 := Lib.hid (B2.out.trans (b.mono B2.out.size))
    clear h1 h2 c0 c1 d0 d1
    obtain ⟨c0, c1⟩ := cell2 (K1.out.below b)
    obtain ⟨d0, d1⟩ := cell2 (K2.out.below b)
    clear b
    go_wp2_with fail
    go_ret
    exact ⟨ret_bool Hn.out, B3.out⟩
  subst hnm
  go_wp2_with fail
  refine HT.out.mono ?_
  rintro e w3 ⟨rfl, b⟩
  have B3 := Lib.hid (B2.out.trans (b.mono B2.out.size))
  clear h1 h2 c0 c1 d0 d1
  have K13 := Lib.hid (K1.out.below b)
  have K23 := Lib.hid (K2.out.below b)
  obtain ⟨c0, c1⟩ := cell2 K13.out
  obtain ⟨d0, d1⟩ := cell2 K23.out
  clear b HT K1 K2
  go_wp2_with fail
  clear c0 c1 d0 d1
  go_loopw [27] (fun i wr => ∃ k : Nat, k ≤ n ∧ i = .int .i64 k ∧ Hid (∀ j (h1 : j < u.named.length) (h2 : j < v.named.length), j < k → u.named[j] = v.named[j]) ∧ Hid (Below w3.heap.size w3 wr)) (fun i _ => n - (intOf i).toNat)
  case atStart => exact ⟨0, Nat.zero_le _, rfl, Lib.hid (fun j _ _ hj => absurd hj (Nat.not_lt_zero _)), Lib.hid (Below.refl _ _)⟩
  case round =>
    obtain ⟨k, hk, rfl, Hall, HB⟩ := hrel
    have BW := Lib.hid (B3.out.trans (HB.out.mono B3.out.size))
    obtain ⟨c0, c1⟩ := cell2 (K13.out.below HB.out)
    obtain ⟨d0, d1'⟩ := cell2 (K23.out.below HB.out)
    by_cases hkl : k < n
    · have hkI : (k : Int) < (n : Int) := by omega
      have hkx : k < u.named.length := by rw [HN.out]; exact hkl
      have hky : k < v.named.length := by rw [HM.out]; exact hkl
      obtain ⟨ab, aof, rfl, hab, hac⟩ := (HU.out.named.below BW.out).cells (by omega)
      obtain ⟨bb, bof, rfl, hbb, hbc⟩ := (HV.out.named.below BW.out).cells (by omega)
      have hat := hac k hkx
      have hbt := hbc k hky
      obtain ⟨x, hx⟩ : ∃ x, u.named[k] = x := ⟨_, rfl⟩
      obtain ⟨y, hy⟩ : ∃ y, v.named[k] = y := ⟨_, rfl⟩
      rw [hx] at hat
      rw [hy] at hbt
      have HXY := Lib.hid (And.intro hx hy)
      have BADX := Lib.hid (show x ≠ y → false = R from fun h => BADR.out fun e => by
        subst e
        exact h (HXY.out.1.symm.trans HXY.out.2))
      have GOOD := Lib.hid (show x = y → ∀ j (h1 : j < u.named.length) (h2 : j < v.named.length), j < k + 1 → u.named[j] = v.named[j] from fun he j h1 h2 hj => by
        rcases Nat.lt_or_eq_of_le (Nat.le_of_lt_succ hj) with h3 | h3
        · exact Hall.out j h1 h2 h3
        · subst h3; rw [HXY.out.1, HXY.out.2]; exact he)
      obtain ⟨xb, xbc, xm, xmc, a0, a1, a2, a3, hxb, -, hxc⟩ := hat
      obtain ⟨yb, ybc, ym, ymc, b0', b1', b2', b3', hyb, -, hyc⟩ := hbt
      obtain ⟨w4, h1⟩ : ∃ w4, wr.alloc (.cells #[.string x.name, .slice xb x.bounds.length xbc, .int .i64 x.under, .slice xm x.methods.length xmc] 51) = w4 := ⟨_, rfl⟩
      obtain ⟨k1, q1, z1⟩ := box_new h1
      obtain ⟨w5, h2⟩ : ∃ w5, w4.alloc (.cells #[.string y.name, .slice yb y.bounds.length ybc, .int .i64 y.under, .slice ym y.methods.length ymc] 51) = w5 := ⟨_, rfl⟩
      obtain ⟨k2, q2', z2⟩ := box_new h2
      have q2 := q1.trans (q2'.mono q1.size)
      have b0 := (q1.cell (p := ⟨bb, bof + k * 4, none⟩) hbb).trans b0'
      have b1 := (q1.cell (p := ⟨bb, bof + k * 4 + 1, none⟩) hbb).trans b1'
      have b2 := (q1.cell (p := ⟨bb, bof + k * 4 + 2, none⟩) hbb).trans b2'
      have b3 := (q1.cell (p := ⟨bb, bof + k * 4 + 3, none⟩) hbb).trans b3'
      have d1 := (q1.cell (p := ⟨w1.heap.size, 1, none⟩) (cell_ltB d1')).trans d1'
      have B5 := Lib.hid (HB.out.trans (q2.mono HB.out.size))
      have B5w := Lib.hid (B3.out.trans (B5.out.mono B3.out.size))
      have KX := Lib.hid (k1.below q2')
      have KY := Lib.hid k2
      have HXC := Lib.hid (hxc.below q2)
      have HYC := Lib.hid (hyc.below q2)
      obtain ⟨x0, x1, x2, x3⟩ := cell4 (k1.below q2')
      obtain ⟨y0, y1, y2, y3⟩ := cell4 k2
      have HME0 := refmeth_any x.methods y.methods xm ym xmc ymc w5 HXC.out.methods HYC.out.methods (by have := HXC.out.ok.ml; omega) (by have := HYC.out.ok.ml; omega)
      have hyl := HYC.out.ok.bl
      have hxl := HXC.out.ok.bl
      clear hx hy hac hbc hab hbb hxc hyc k1 k2 q1 q2 q2' z1 z2 b0' b1' b2' b3' d1'
      obtain ⟨p, hp⟩ : ∃ p, x.bounds.length = p := ⟨_, rfl⟩
      obtain ⟨q, hq⟩ : ∃ q, y.bounds.length = q := ⟨_, rfl⟩
      have HP := Lib.hid hp
      have HQ := Lib.hid hq
      rw [hp] at a1 h1 x1 hxl KX hxb
      rw [hq] at b1 h2 y1 hyl KY hyb
      clear hp hq
      by_cases en : x.name = y.name
      case neg =>
        have Hn := Lib.hid (BADX.out (fun g => en (by rw [g])))
        have hq : (x.name.toList == y.name.toList) = false := (ty_str_eq _ _).trans (decide_eq_false en)
        have hq2 : (x.name.toList != y.name.toList) = true := by rw [bne, hq]; rfl
        clear en
        go_wp2_with fail
        go_ret
        exact ⟨ret_bool Hn.out, B5w.out⟩
      have hn1 : (x.name.toList == y.name.toList) = true := (ty_str_eq _ _).trans (decide_eq_true en)
      have hn2 : (x.name.toList != y.name.toList) = false := by rw [bne, hn1]; rfl
      by_cases eu : x.under = y.under
      case neg =>
        have Hn := Lib.hid (BADX.out (fun g => eu (by rw [g])))
        have hq : (x.under == y.under) = false := by rw [beq_eq_false_iff_ne]; exact eu
        have hq2 : (x.under != y.under) = true := by rw [bne, hq]; rfl
        clear en eu
        go_wp2_with fail
        go_ret
        exact ⟨ret_bool Hn.out, B5w.out⟩
      have hu1 : (x.under == y.under) = true := by rw [beq_iff_eq]; exact eu
      have hu2 : (x.under != y.under) = false := by rw [bne, hu1]; rfl
      by_cases eb : p = q
      case neg =>
        have Hn := Lib.hid (BADX.out (fun g => eb (by rw [← HP.out, ← HQ.out, g])))
        have hq : ((p : Int) == (q : Int)) = false := by rw [beq_eq_false_iff_ne]; omega
        have hq2 : ((p : Int) != (q : Int)) = true := by rw [bne, hq]; rfl
        clear en eu
        go_wp2_with fail
        go_ret
        exact ⟨ret_bool Hn.out, B5w.out⟩
      subst eb
      have EQ := Lib.hid (And.intro en eu)
      clear en eu
      cases hme : decide (x.methods = y.methods) <;> rw [hme] at HME0 <;> have HME := Lib.hid HME0 <;> have HMQ := Lib.hid hme <;> clear hme HME0
      · have Hn := Lib.hid (BADX.out (fun g => of_decide_eq_false HMQ.out (by rw [g])))
        go_wp2_with fail
        refine HME.out.mono ?_
        rintro e w6 ⟨rfl, b⟩
        have B6 := Lib.hid (B5w.out.trans (b.mono B5w.out.size))
        clear b h1 h2 a0 a1 a2 a3 b0 b1 b2 b3 x0 x1 x2 x3 y0 y1 y2 y3 c0 c1 d0 d1
        go_wp2_with fail
        go_ret
        exact ⟨ret_bool Hn.out, B6.out⟩
      have REST := Lib.hid (show x.bounds = y.bounds → x = y from fun g => by
        have h3 := of_decide_eq_true HMQ.out
        have h12 := EQ.out
        obtain ⟨c1, c2, c3, c4⟩ := x
        obtain ⟨d1, d2, d3, d4⟩ := y
        rw [Nm.mk.injEq]
        exact ⟨h12.1, g, h12.2, h3⟩)
      go_wp2_with fail
      refine HME.out.mono ?_
      rintro e w6 ⟨rfl, b⟩
      have B6 := Lib.hid (B5.out.trans (b.mono B5.out.size))
      have KX6 := Lib.hid (KX.out.below b)
      have KY6 := Lib.hid (KY.out.below b)
      have HXB := Lib.hid (HXC.out.bounds.below b)
      have HYB := Lib.hid (HYC.out.bounds.below b)
      clear b h1 h2 a0 a1 a2 a3 b0 b1 b2 b3 x0 x1 x2 x3 y0 y1 y2 y3 c0 c1 d0 d1 HME
      obtain ⟨x0, x1, x2, x3⟩ := cell4 KX6.out
      obtain ⟨y0, y1, y2, y3⟩ := cell4 KY6.out
      go_wp2_with fail
      clear x0 x1 x2 x3 y0 y1 y2 y3
      go_loopw [72] (fun i wq => ∃ g : Nat, g ≤ p ∧ i = .int .i64 g ∧ Hid (∀ j, j < g → x.bounds.getD j 0 = y.bounds.getD j 0) ∧ Hid (Below w6.heap.size w6 wq)) (fun i _ => p - (intOf i).toNat)
      case atStart => exact ⟨0, Nat.zero_le _, rfl, Lib.hid (fun j hj => absurd hj (Nat.not_lt_zero _)), Lib.hid (Below.refl _ _)⟩
      case round =>
        obtain ⟨g, hg, rfl, Hsm, HQ6⟩ := hrel
        have BQ := Lib.hid (B6.out.trans (HQ6.out.mono B6.out.size))
        by_cases hgl : g < p
        · have hgI : (g : Int) < (p : Int) := by omega
          obtain ⟨x0, x1, x2, x3⟩ := cell4 (KX6.out.below HQ6.out)
          obtain ⟨y0, y1, y2, y3⟩ := cell4 (KY6.out.below HQ6.out)
          obtain ⟨ib, io, rfl, hib, hic⟩ := (HXB.out.below HQ6.out).cells (by rw [HP.out]; omega)
          obtain ⟨jb, jo, rfl, hjb, hjc⟩ := (HYB.out.below HQ6.out).cells (by rw [HQ.out]; omega)
          have e1 := hic g (by rw [HP.out]; exact hgl)
          have e2 := hjc g (by rw [HQ.out]; exact hgl)
          obtain ⟨s1, hs1⟩ : ∃ s, x.bounds.getD g 0 = s := ⟨_, rfl⟩
          obtain ⟨s2, hs2⟩ : ∃ s, y.bounds.getD g 0 = s := ⟨_, rfl⟩
          rw [hs1] at e1
          rw [hs2] at e2
          have HS1 := Lib.hid hs1
          have HS2 := Lib.hid hs2
          clear hic hjc hib hjb hs1 hs2
          by_cases ee : s1 = s2
          · have hq : (s1 == s2) = true := by rw [beq_iff_eq]; exact ee
            have hq2 : (s1 != s2) = false := by rw [bne, hq]; rfl
            have Hx := Lib.hid (show ∀ j, j < g + 1 → x.bounds.getD j 0 = y.bounds.getD j 0 from fun j hj => by
              rcases Nat.lt_or_eq_of_le (Nat.le_of_lt_succ hj) with h3 | h3
              · exact Hsm.out j h3
              · rw [h3, HS1.out, HS2.out]; exact ee)
            clear ee
            go_wp2_with fail
            go_quiet (fail)
            go_wp2_with fail
            go_roundw
            case rel => exact ⟨g + 1, by omega, by go_num, Hx, Lib.hid (below_drewN HQ6.out _)⟩
            case measure => first | (simp [intOf]; done) | (simp [intOf]; omega)
          · have hq : (s1 == s2) = false := by rw [beq_eq_false_iff_ne]; exact ee
            have hq2 : (s1 != s2) = true := by rw [bne, hq]; rfl
            have Hn := Lib.hid (BADX.out (fun gg => ee (by rw [← HS1.out, ← HS2.out, gg])))
            clear ee
            go_wp2_with fail
            go_quiet (fail)
            go_wp2_with fail
            go_ret
            exact ⟨ret_bool Hn.out, B3.out.trans ((below_drewN BQ.out _).mono B3.out.size)⟩
        · obtain rfl : g = p := by omega
          have Hx := Lib.hid (GOOD.out (REST.out (list_ext (d := 0) (by rw [HP.out, HQ.out]) (fun j hj => Hsm.out j (by rw [← HP.out]; exact hj)))))
          go_wp2_with fail
          go_roundw
          case rel => exact ⟨k + 1, by omega, by go_num, Hx, BQ⟩
          case measure => first | (simp [intOf]; done) | (simp [intOf]; omega)
    · obtain rfl : k = n := by omega
      have Hn := Lib.hid (show true = R by
        rw [← HR.out]; symm; rw [decide_eq_true_iff]
        have h1 := of_decide_eq_true HTE.out
        have h2 : u.named = v.named := List.ext_getElem (HN.out.trans HM.out.symm) (fun j h1 h2 => Hall.out j h1 h2 (by rw [← HN.out]; exact h1))
        obtain ⟨a, b⟩ := u
        obtain ⟨c, d⟩ := v
        rw [Un.mk.injEq]
        exact ⟨h1, h2⟩)
      go_wp2_with fail
      go_ret
      exact ⟨ret_bool Hn.out, BW.out⟩
end Go.Proofs.YtkmnfkhchcoamaaGreatDoor

