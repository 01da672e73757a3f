import Derived.Test.YtkmnfkhchcoamaaGreatDoorUnV
import Derived.Test.YtkmnfkhchcoamaaGreatDoorSubL
/- The law's own alive. -/
namespace Go.Proofs.YtkmnfkhchcoamaaGreatDoor
open Go.RowKit
set_option linter.unusedSimpArgs false
set_option linter.unusedVariables false

def pT : ByteArray := ⟨#[112, 46, 84]⟩
def tpN : Ty := ⟨8, pT, 0, [], [2]⟩
def lu : List Ty := basics ++ [tp0, tp1, tpN]
def lv : List Ty := lu ++ [tp2]
def nmT : Nm := ⟨pT, [20], 23, []⟩
def un0 : Un := ⟨lu, [nmT]⟩
theorem ok_tpN : TyOk tpN := ⟨by decide, by decide, by decide, fun s hs => absurd hs (by simp [tpN]), by decide, fun k hk => by simp [tpN] at hk; subst hk; decide⟩
theorem ok_nmT : NmOk nmT := ⟨by decide, by decide, by decide, by decide, fun b hb => by simp [nmT] at hb; subst hb; decide, fun m hm => absurd hm (by simp [nmT])⟩
theorem under_un0 : underU un0 24 = (⟨lv, [nmT]⟩, 25, 0) := by decide +kernel
theorem right_lv : rightT lv = true := by decide +kernel
theorem need_lv : ∀ j, j ≤ 25 → needD (fun j => lv.getD j noT) 25 26 j = true → j = 2 ∨ j = 25 := by decide +kernel
theorem out_lv : outF (fun j => lv.getD j noT) 25 = (⟨#[91, 93, 105, 110, 116]⟩, 0) := by decide +kernel
theorem text_lv (j : Nat) (hj : j < lv.length) (h : j ≤ 25) (hn : needD (fun j => lv.getD j noT) 25 26 j = true) : TextC lv[j] := by
  rcases need_lv j h hn with rfl | rfl
  · exact text_zero ⟨#[105, 110, 116]⟩ 0 [] [] rfl
  · exact text_slice ⟨#[]⟩ 0 [] [2] rfl
theorem aliveU_row {w W w5 : World} {ao : Option Addr} {cap kb nb : Nat} {v5 : Value} (ho : W.ownsRow w.heap.size 38 5 (.slice ao 22 cap) 22 (tzC startZ)) (hk : BlockAt W kb #[.int .i64 22] 3) (hk2 : BlockAt W nb #[.int .i64 2] 3)
    (hown : w5.ownsRow w.heap.size 38 5 v5 (22 + 3) (tzC startZ ++ tzC [⟨tp0, none, 0, none, 0⟩, ⟨tp1, none, 0, some ⟨kb, 0, none⟩, 1⟩, ⟨tpN, none, 0, some ⟨nb, 0, none⟩, 1⟩])) (hg : W.grownBy w5 (Value.slice ao 22 cap).ownBlock) (hb : Below w.heap.size w W) (hne : (Value.slice ao 22 cap).ownBlock ≠ some kb) (hne2 : (Value.slice ao 22 cap).ownBlock ≠ some nb) :
    (∃ ao5 cap5, v5 = .slice ao5 25 cap5 ∧ ARow w5 ao5 lu ∧ 25 ≤ cap5) ∧ Below w.heap.size w w5 := by
  have hk5 := fresh_grown hk hne hg
  have hn5 := fresh_grown hk2 hne2 hg
  have b5 := be_grown0 ho hb hg
  have hz : OwnZ w5 w.heap.size v5 (startZ ++ [⟨tp0, none, 0, none, 0⟩, ⟨tp1, none, 0, some ⟨kb, 0, none⟩, 1⟩, ⟨tpN, none, 0, some ⟨nb, 0, none⟩, 1⟩]) := by
    unfold OwnZ
    rw [tzC_app]
    exact hown
  obtain ⟨ao5, cap5, e, ha, hc⟩ := own_arow hz (fun z hz => by
    rcases List.mem_append.1 hz with h | h
    · exact startZ_in _ z h
    · rcases List.mem_cons.1 h with h | h
      · rw [h]; exact ⟨by decide, by decide, .inl rfl, .inl rfl, ok_tp0⟩
      · rcases List.mem_cons.1 h with h | h
        · rw [h]
          exact ⟨by (show (0 : Nat) ≤ 0; decide), by (show (1 : Nat) ≤ 1; decide), .inl rfl, .inr ⟨kb, 0, rfl, hk5.lt, fun i hi => by
            have hi : i < 1 := hi
            obtain rfl : i = 0 := by omega
            exact hk5.cell 0⟩, ok_tp1⟩
        · rw [List.mem_singleton.1 h]
          exact ⟨by (show (0 : Nat) ≤ 0; decide), by (show (1 : Nat) ≤ 1; decide), .inl rfl, .inr ⟨nb, 0, rfl, hn5.lt, fun i hi => by
            have hi : i < 1 := hi
            obtain rfl : i = 0 := by omega
            exact hn5.cell 0⟩, ok_tpN⟩)
  exact ⟨⟨ao5, cap5, e, ha, hc⟩, b5⟩
theorem un0_in {w w' : World} {ao : Option Addr} {cap ib nb : Nat} (ha : ARow w ao lu) (hc : 25 ≤ cap) (hi : BlockAt w ib #[.int .i64 20] 3) (hn : BlockAt w nb #[.string pT, .slice (some ⟨ib, 0, none⟩) 1 1, .int .i64 23, .slice none 0 0] 51) : UnC w ao (some ⟨nb, 0, none⟩) cap 1 un0 := by
  refine ⟨ha, .inr ⟨nb, 0, rfl, hn.lt, fun i hi2 => ?_⟩, by decide, by decide, hc, by decide⟩
  have hi2 : i < 1 := hi2
  obtain rfl : i = 0 := by omega
  obtain ⟨c0, c1, c2, c3⟩ := cell4 hn
  refine ⟨some ⟨ib, 0, none⟩, 1, none, 0, c0, c1, c2, c3, Nat.le_refl 1, Nat.le_refl 0, .inr ⟨ib, 0, rfl, hi.lt, fun j hj => ?_⟩, .inl rfl, ok_nmT⟩
  have hj : j < 1 := hj
  obtain rfl : j = 0 := by omega
  exact hi.cell 0
set_option maxHeartbeats 8000000 in
set_option maxRecDepth 100000 in
theorem aliveU_any (w : World) (hE : Env w) :
    Calls Tryz.prog 11 #[] w fun e w' => e = .returned (.bool true) ∧ Below w.heap.size w w' := by
  obtain ⟨i0, hi, hz0, hz1, hz2⟩ := info_parts info_ty
  have HST := Lib.hid (fun W => start_own W)
  have HE := Lib.hid hE
  clear hE
  go_enter Tryz.func11, Tryz.ntmps11
  go_wp2_with fail
  refine (HST.out _).mono ?_
  rintro e w1 ⟨⟨ao0, cap0, rfl, ho⟩, bs⟩
  have HO := Lib.hid (show w1.ownsRow w.heap.size 38 5 (.slice ao0 22 cap0) 22 (tzC startZ) from ho)
  have HNO := Lib.hid (own_not ho (b := w1.heap.size) (.inr (Nat.le_refl _)))
  have HNO2 := Lib.hid (own_not ho (b := w1.heap.size + 1) (.inr (Nat.le_add_right _ _)))
  have BS := Lib.hid bs
  have HSZ := Lib.hid (show w.heap.size ≤ w1.heap.size from bs.size)
  clear ho bs
  go_wp2_with (at_builtin; refine wpList_append_own_at _ rfl _ _ 22 rfl w.heap.size 38 i0 (.agg #[.int .i64 0, .string ⟨#[]⟩, .int .i64 0, .slice none 0 0, .slice none 0 0]) 5 80 Tryz.underlying22 hi hz0 hz1 hz2 rfl (by decide) _ 22 (tzC startZ) rfl (((HO.out.alloc _).alloc _).alloc _) ⟨w1.heap.size + 2, 0, none⟩ 3 3 (tzC [⟨tp0, none, 0, none, 0⟩, ⟨tp1, none, 0, some ⟨w1.heap.size, 0, none⟩, 1⟩, ⟨tpN, none, 0, some ⟨w1.heap.size + 1, 0, none⟩, 1⟩]) rfl ?c1 ?c2 ?c3 ?c4 ?c5 ?c6 ?_)
  case c1 => rfl
  case c2 => exact cell_block (xs := #[.int .i64 9, .string ⟨#[]⟩, .int .i64 0, .slice none 0 0, .slice none 0 0, .int .i64 2, .string ⟨#[]⟩, .int .i64 0, .slice none 0 0, .slice (some ⟨w1.heap.size, 0, none⟩) 1 1, .int .i64 8, .string pT, .int .i64 0, .slice none 0 0, .slice (some ⟨w1.heap.size + 1, 0, none⟩) 1 1]) (T := 38) (by simpa [pT, Nat.add_assoc] using BlockAt.new ((w1.alloc (.cells #[.int .i64 22] 3)).alloc (.cells #[.int .i64 2] 3)) #[.int .i64 9, .string ⟨#[]⟩, .int .i64 0, .slice none 0 0, .slice none 0 0, .int .i64 2, .string ⟨#[]⟩, .int .i64 0, .slice none 0 0, .slice (some ⟨w1.heap.size, 0, none⟩) 1 1, .int .i64 8, .string pT, .int .i64 0, .slice none 0 0, .slice (some ⟨w1.heap.size + 1, 0, none⟩) 1 1] 38) rfl
  case c3 => exact tzC_one _
  case c4 => unfold maxLen; omega
  case c5 => omega
  case c6 => have := HSZ.out; simp; omega
  intro v5 wc hown hgrow _ hblk
  have N1 := Lib.hid (show BlockAt ((w1.alloc (.cells #[.int .i64 22] 3)).alloc (.cells #[.int .i64 2] 3)) (w1.heap.size + 1) #[.int .i64 2] 3 from by simpa using BlockAt.new (w1.alloc (.cells #[.int .i64 22] 3)) #[.int .i64 2] 3)
  have HR := Lib.hid (aliveU_row (((HO.out.alloc _).alloc _).alloc _) (((BlockAt.new w1 #[.int .i64 22] 3).below ((Below.refl _ _).alloc (Nat.le_refl _) _)).below ((Below.refl _ _).alloc (Nat.le_refl _) _)) (N1.out.below ((Below.refl _ _).alloc (Nat.le_refl _) _)) hown hgrow (((BS.out.alloc HSZ.out _).alloc (by have := HSZ.out; simp; omega) _).alloc (by have := HSZ.out; simp; omega) _) HNO.out HNO2.out)
  clear hown hgrow hblk HO HNO HNO2 N1
  obtain ⟨⟨ao, cap, e5, ha5, hc5⟩, b5⟩ := HR.out
  subst e5
  have HA := Lib.hid ha5
  have HC := Lib.hid hc5
  have HB := Lib.hid b5
  clear HR ha5 hc5 b5
  obtain ⟨w2, h2⟩ : ∃ w2, wc.alloc (.cells #[.int .i64 20] 3) = w2 := ⟨_, rfl⟩
  obtain ⟨k2, q2, z2⟩ := box_new h2
  obtain ⟨w3, h3⟩ : ∃ w3, w2.alloc (.cells #[.string pT, .slice (some ⟨wc.heap.size, 0, none⟩) 1 1, .int .i64 23, .slice none 0 0] 51) = w3 := ⟨_, rfl⟩
  obtain ⟨k3, q3, z3⟩ := box_new h3
  have B3 := Lib.hid (HB.out.trans ((q2.trans (q3.mono q2.size)).mono HB.out.size))
  have HUN := Lib.hid (un0_in (w' := w3) ((HA.out.below q2).below q3) HC.out (k2.below q3) k3)
  have HUD0 := under_any (fun _ => True) un0 ao (some ⟨w2.heap.size, 0, none⟩) cap 1 24 w3 (fun _ _ => trivial) (UnS.fresh HUN.out (fun _ _ => trivial)) (HE.out.below B3.out)
  rw [under_un0] at HUD0
  have HUD : Calls Tryz.prog 16 #[.agg #[.slice ao 25 cap, .slice (some ⟨w2.heap.size, 0, none⟩) 1 1], .int .i64 24] w3 (UnR (fun _ => True) w3 (⟨lv, [nmT]⟩, 25, 0)) := HUD0
  have HUD1 := Lib.hid HUD
  unfold pT at h3
  clear HUD HUD0 k2 k3 q2 q3 z2 z3
  go_wp2_with fail
  refine HUD1.out.mono ?_
  rintro e w4 ⟨uo, no, uc, nc, rfl, hu, b4⟩
  have B4 := Lib.hid (B3.out.trans (b4.mono B3.out.size))
  have HU4 := Lib.hid hu.out
  unfold unV
  rw [show (⟨lv, [nmT]⟩ : Un).types.length = 26 from rfl, show (⟨lv, [nmT]⟩ : Un).named.length = 1 from rfl]
  obtain ⟨w5, h5⟩ : ∃ w5, w4.alloc (.cells #[.slice uo 26 uc, .slice no 1 nc] 25) = w5 := ⟨_, rfl⟩
  obtain ⟨k5, q5, z5⟩ := box_new h5
  have B5 := Lib.hid (B4.out.trans (q5.mono B4.out.size))
  have HTX0 := text_in lv uo uc 25 w5 (HU4.out.types.below q5) right_lv HU4.out.tc (HE.out.below B5.out) (by decide) (fun j hj h hn => text_lv j hj h hn)
  have HTX : Calls Tryz.prog 33 #[.slice uo 26 uc, .int .i64 25] w5 (TextR (fun j => lv.getD j noT) 25 w5) := HTX0
  have HTX := Lib.hid HTX
  obtain ⟨c0, c1⟩ := cell2 k5
  clear hu b4 h2 h3 HTX0 k5 q5 z5
  go_wp2_with fail
  refine HTX.out.mono ?_
  unfold TextR
  rw [out_lv]
  rintro e w6 ⟨rfl, b6⟩
  have B6 := Lib.hid (B5.out.trans (b6.mono B5.out.size))
  clear b6 c0 c1 h5
  go_wp2_with fail
  go_ret
  exact ⟨by first | rfl | (simp; done), B6.out⟩
end Go.Proofs.YtkmnfkhchcoamaaGreatDoor

