import Derived.Test.YtkmnfkhchcoamaaGreatDoorSubA
import Derived.Test.YtkmnfkhchcoamaaGreatDoorSubB
/- The reference's Asks, parts and mark. -/
namespace Go.Proofs.YtkmnfkhchcoamaaGreatDoor
open Go.RowKit
/-- A function's first values. -/
def valsI (A : Nat → Int) (k : Nat) : List Int := (List.range k).map A
theorem valsI_len (A : Nat → Int) (k : Nat) : (valsI A k).length = k := by simp [valsI]
theorem valsI_get {A : Nat → Int} {k m : Nat} (h : m < k) : (valsI A k).getD m 0 = A m := by
  rw [getD_of (by rw [valsI_len]; exact h)]
  simp [valsI]
theorem valsI_snoc (A : Nat → Int) (k : Nat) : valsI A (k + 1) = valsI A k ++ [A k] := by
  unfold valsI
  rw [List.range_succ, List.map_append]
  rfl
theorem asks_snoc {f : Nat → Ty} (k : Nat) : valsI (askD f (k + 1)) (k + 1) = valsI (askD f k) k ++ [askF (askD f k) (ask0 (f k)) (f k).kids] := by
  rw [valsI_snoc, askD_self (Nat.lt_succ_self k)]
  congr 1
  unfold valsI
  apply List.map_congr_left
  intro m hm
  rw [List.mem_range] at hm
  exact askD_stay hm (Nat.le_succ k)
/-- What is there behind an append of one integer. -/
theorem push_int1 {W wr w1 : World} {v v' : Value} {zs : List Int} {z : Int} (ho : OwnK wr W.heap.size v zs) (hB : Below W.heap.size W wr) (h1 : w1.ownsRow W.heap.size 3 1 v' (zs.length + 1) (intC zs ++ [.int .i64 z])) (hg : (wr.alloc (.cells #[.int .i64 z] 3)).grownBy w1 v.ownBlock) :
    OwnK w1 W.heap.size v' (zs ++ [z]) ∧ Below W.heap.size W w1 := by
  have ba : Below wr.heap.size wr (wr.alloc (.cells #[.int .i64 z] 3)) := (Below.refl _ _).alloc (Nat.le_refl _) _
  have hb2 := hB.trans (ba.mono hB.size)
  refine ⟨by unfold OwnK intC; rw [List.length_append, List.map_append]; exact h1, hb2.grown hg hb2.size (fun k hk => ?_)⟩
  exact (World.ownsRow.lt (row_kept ho ba) k hk).1
set_option maxHeartbeats 16000000 in
set_option maxRecDepth 100000 in
theorem refasks_any (l : List Ty) (ao : Option Addr) (ac i : Nat) (w : World) (hl : ARow w ao l) (hr : rightT l = true) (hac : l.length ≤ ac) (hi : i < l.length) :
    Calls Tryz.prog 66 #[.slice ao l.length ac, .int .i64 i] w fun e w' => ∃ bo bc, e = .returned (.slice bo (i + 1) bc) ∧ IRow w' bo (valsI (askD (funT l) (i + 1)) (i + 1)) ∧ i + 1 ≤ bc ∧ Below w.heap.size w w' := by
  obtain ⟨k0, hki, hk0, hk1, hk2⟩ := info_parts (t := 3) info_intZ
  have hlen := (right_step hr).1
  have HPO := Lib.hid (right_param hr)
  obtain ⟨f, hf⟩ : ∃ f : Nat → Ty, funT l = f := ⟨_, rfl⟩
  rw [hf] at HPO ⊢
  have HF := Lib.hid (show ∀ j (hj : j < l.length), f j = l[j] from fun j hj => by rw [← hf]; exact getD_of hj)
  have HK := Lib.hid (show ∀ j (hj : j < l.length), ∀ k ∈ (f j).kids, 0 ≤ k ∧ k < (j : Int) from fun j hj => by rw [HF.out j hj]; exact right_kids hr hj)
  obtain ⟨n, hn⟩ : ∃ n, l.length = n := ⟨_, rfl⟩
  have HN := Lib.hid hn
  have HA := Lib.hid hl
  rw [hn] at hlen hac hi ⊢
  have hin : i + 1 ≤ n := hi
  clear hl hr hf hn
  go_enter Tryz.func66, Tryz.ntmps66
  go_wp2_with fail
  have O0 := Lib.hid (show OwnK (w.alloc (.cells #[] 3)) w.heap.size (.slice (some ⟨w.heap.size, 0, none⟩) 0 0) [] from World.ownsRow_made w #[] 0 (Nat.le_refl _) (by unfold maxLen; omega) rfl)
  obtain ⟨w1, h1⟩ : ∃ w1, w.alloc (.cells #[] 3) = w1 := ⟨_, rfl⟩
  rw [h1] at O0 ⊢
  have B1 := Lib.hid (show Below w.heap.size w w1 by rw [← h1]; exact (Below.refl _ _).alloc (Nat.le_refl _) _)
  clear h1
  go_loopw [5, 17] (fun v5 v wr => ∃ k : Nat, k ≤ i + 1 ∧ v = .int .i64 k ∧ Hid (OwnK wr w.heap.size v5 (valsI (askD f k) k)) ∧ Hid (Below w.heap.size w wr)) (fun _ v _ => i + 1 - (intOf v).toNat)
  case atStart => exact ⟨0, Nat.zero_le _, rfl, O0, B1⟩
  case round =>
    obtain ⟨k, hk, rfl, HO, HB⟩ := hrel
    by_cases hkl : k < i + 1
    · have hkx : k < l.length := by rw [HN.out]; omega
      have hkI : (k : Int) < (i : Int) + 1 := by omega
      obtain ⟨ab, aof, rfl, hab, hcl⟩ := HA.out.cells (by omega)
      have hat := hcl k hkx
      rw [← HF.out k hkx] at hat
      have HKP := Lib.hid (HK.out k hkx)
      have HP9 := Lib.hid (HPO.out k)
      have HA0 := Lib.hid (fun ks => askF_in HPO.out k k ks)
      have HAA := Lib.hid (fun m => askD_in HPO.out k m)
      have HN0 := Lib.hid (asks_snoc (f := f) k)
      obtain ⟨x, hx⟩ : ∃ x, f k = x := ⟨_, rfl⟩
      rw [hx] at hat HKP HP9 HA0 HN0
      obtain ⟨xw, xwc, xk, xkc, a0', a1', a2', a3', a4', hwc, hkc, hxc⟩ := hat
      have a0 := (HB.out.cell hab).trans a0'
      have a1 := (HB.out.cell hab).trans a1'
      have a2 := (HB.out.cell hab).trans a2'
      have a3 := (HB.out.cell hab).trans a3'
      have a4 := (HB.out.cell hab).trans a4'
      obtain ⟨A, hA⟩ : ∃ A, askD f k = A := ⟨_, rfl⟩
      rw [hA] at HO HA0 HN0 HAA
      obtain ⟨oo, oc, rfl, hor, hoc⟩ := ownK_row HO.out
      have hvl := valsI_len A k
      clear hx hcl hab hA a0' a1' a2' a3' a4'
      obtain ⟨wn, hwn⟩ : ∃ wn, wr.alloc (.cells #[.int .i64 x.kind, .string x.name, .int .i64 x.n, .slice xw x.words.length xwc, .slice xk x.kids.length xkc] 38) = wn := ⟨_, rfl⟩
      obtain ⟨kx, qx, zx⟩ := box_new hwn
      obtain ⟨c0, c1, c2, c3, c4⟩ := cell5 kx
      have BN := Lib.hid (HB.out.trans (qx.mono HB.out.size))
      have HOR := Lib.hid (hor.below qx)
      have HON := Lib.hid (show OwnK wn w.heap.size (.slice oo (valsI A k).length oc) (valsI A k) from row_kept HO.out qx)
      have HKR := Lib.hid hxc.kids
      have hml := hxc.ok.kl
      have BZ := Lib.hid BN.out.size
      rw [hvl] at hoc HON ⊢
      clear kx qx zx hwc hkc hxc hor
      obtain ⟨m, hm⟩ : ∃ m, x.kids.length = m := ⟨_, rfl⟩
      have HM := Lib.hid hm
      rw [hm] at hml hwn c4 a4
      clear hm
      by_cases h9 : x.kind = 9
      · have hq : (x.kind == 9) = true := by rw [beq_iff_eq]; exact h9
        obtain ⟨g1, g2⟩ := HP9.out h9
        have HS0 := Lib.hid (show ask0 x = x.n + 1 by unfold ask0; rw [if_pos h9])
        have HV0 : Value.int .i64 (x.n + 1) = .int .i64 (askF A (ask0 x) (x.kids.take 0)) := by rw [HS0.out]; rfl
        have HV := Lib.hid HV0
        clear h9 HV0
        go_wp2_with fail
        clear a0 a1 a2 a3 a4 hwn c0 c1 c2 c3 c4
        go_loop [8, 30] (fun v8 v => ∃ q : Nat, q ≤ m ∧ v = .int .i64 q ∧ v8 = .int .i64 (askF A (ask0 x) (x.kids.take q))) (fun _ v => m - (intOf v).toNat)
        case atStart => exact ⟨0, Nat.zero_le _, rfl, HV.out⟩
        case round =>
          obtain ⟨q, hq, rfl, rfl⟩ := hrel
          by_cases hql : q < m
          · have hqx : q < x.kids.length := by rw [HM.out]; exact hql
            obtain ⟨kb, kof, rfl, hkb, hkcell⟩ := HKR.out.cells (by omega)
            have ck := (BN.out.cell (p := ⟨kb, kof + q, none⟩) hkb).trans (hkcell q hqx)
            obtain ⟨g1, g2⟩ := HKP.out _ (getD_mem hqx)
            obtain ⟨z, hz⟩ : ∃ z : Nat, x.kids.getD q 0 = (z : Int) := ⟨(x.kids.getD q 0).toNat, by omega⟩
            have hsn := askF_snoc (A := A) (n := ask0 x) hqx
            rw [hz] at ck g2 hsn
            rw [Int.toNat_natCast] at hsn
            have hzk : z < k := by omega
            have hzI : (z : Int) < (k : Int) := by omega
            obtain ⟨ob, oof, rfl, hob, hocell⟩ := HOR.out.cells (by rw [valsI_len]; omega)
            have co := hocell z (by rw [valsI_len]; exact hzk)
            rw [valsI_get hzk] at co
            obtain ⟨x1, hx1⟩ := HA0.out (x.kids.take q)
            obtain ⟨y1, hy1⟩ := HAA.out z
            obtain ⟨x0, hx0⟩ : ∃ v, askF A (ask0 x) (x.kids.take q) = v := ⟨_, rfl⟩
            obtain ⟨y0, hy0⟩ : ∃ v, A z = v := ⟨_, rfl⟩
            rw [hx0] at x1 hx1 hsn ⊢
            rw [hy0] at co y1 hy1 hsn
            have HSN := Lib.hid hsn
            clear hsn hz hx0 hy0 hkcell hkb hocell hob g1
            by_cases hgt : x0 < y0
            · have hd : decide (x0 < y0) = true := decide_eq_true hgt
              have HMX := Lib.hid (show max x0 y0 = y0 by omega)
              clear hgt
              go_wp2_with fail
              go_round
              case rel => exact ⟨q + 1, by omega, by go_num, by first | (rw [HSN.out, HMX.out]; done) | (rw [HSN.out, HMX.out]; rfl)⟩
              case measure => first | (simp [intOf]; done) | (simp [intOf]; omega)
            · have hd : decide (x0 < y0) = false := decide_eq_false hgt
              have HMX := Lib.hid (show max x0 y0 = x0 by omega)
              clear hgt
              go_wp2_with fail
              go_round
              case rel => exact ⟨q + 1, by omega, by go_num, by first | (rw [HSN.out, HMX.out]; done) | (rw [HSN.out, HMX.out]; rfl)⟩
              case measure => first | (simp [intOf]; done) | (simp [intOf]; omega)
          · have HQM := Lib.hid (show x.kids.take q = x.kids from List.take_of_length_le (by rw [HM.out]; omega))
            rw [HQM.out]
            obtain ⟨y0, hy0⟩ : ∃ v, askF A (ask0 x) x.kids = v := ⟨_, rfl⟩
            rw [hy0] at HN0 ⊢
            clear hy0
            have HOO := Lib.hid (show wn.ownsRow w.heap.size 3 1 (.slice oo k oc) k (intC (valsI A k)) from by have h := HON.out; unfold OwnK at h; rw [valsI_len] at h; exact h)
            go_wp2_with (at_builtin; refine wpList_append_own_at _ rfl _ _ 36 rfl w.heap.size 3 k0 (.int .i64 0) 1 8 Tryz.underlying36 hki hk0 hk1 hk2 rfl (by decide) _ k (intC (valsI A k)) rfl (HOO.out.alloc _) ⟨wn.heap.size, 0, none⟩ 1 1 [.int .i64 y0] rfl ?c1 ?c2 ?c3 ?c4 ?c5 ?c6 ?_)
            case c3 => rfl
            case c4 => unfold maxLen; omega
            case c5 => omega
            case c6 => have := BZ.out; simp; omega
            intro v' w3 hown3 hgrow _ hblk
            have HP := Lib.hid (push_int1 (z := y0) HON.out BN.out (by rw [valsI_len]; exact hown3) hgrow)
            clear hown3 hgrow hblk
            go_wp2_with fail
            go_roundw
            case rel => exact ⟨k + 1, by omega, by go_num, Lib.hid (by rw [HN0.out]; exact HP.out.1), Lib.hid HP.out.2⟩
            case measure => first | (simp [intOf]; done) | (simp [intOf]; omega)
      · have hq : (x.kind == 9) = false := by rw [beq_eq_false_iff_ne]; exact h9
        have HS0 := Lib.hid (show ask0 x = 0 by unfold ask0; rw [if_neg h9])
        have HV0 : Value.int .i64 0 = .int .i64 (askF A (ask0 x) (x.kids.take 0)) := by rw [HS0.out]; rfl
        have HV := Lib.hid HV0
        clear h9 HV0
        go_wp2_with fail
        clear a0 a1 a2 a3 a4 hwn c0 c1 c2 c3 c4
        go_loop [8, 30] (fun v8 v => ∃ q : Nat, q ≤ m ∧ v = .int .i64 q ∧ v8 = .int .i64 (askF A (ask0 x) (x.kids.take q))) (fun _ v => m - (intOf v).toNat)
        case atStart => exact ⟨0, Nat.zero_le _, rfl, HV.out⟩
        case round =>
          obtain ⟨q, hq, rfl, rfl⟩ := hrel
          by_cases hql : q < m
          · have hqx : q < x.kids.length := by rw [HM.out]; exact hql
            obtain ⟨kb, kof, rfl, hkb, hkcell⟩ := HKR.out.cells (by omega)
            have ck := (BN.out.cell (p := ⟨kb, kof + q, none⟩) hkb).trans (hkcell q hqx)
            obtain ⟨g1, g2⟩ := HKP.out _ (getD_mem hqx)
            obtain ⟨z, hz⟩ : ∃ z : Nat, x.kids.getD q 0 = (z : Int) := ⟨(x.kids.getD q 0).toNat, by omega⟩
            have hsn := askF_snoc (A := A) (n := ask0 x) hqx
            rw [hz] at ck g2 hsn
            rw [Int.toNat_natCast] at hsn
            have hzk : z < k := by omega
            have hzI : (z : Int) < (k : Int) := by omega
            obtain ⟨ob, oof, rfl, hob, hocell⟩ := HOR.out.cells (by rw [valsI_len]; omega)
            have co := hocell z (by rw [valsI_len]; exact hzk)
            rw [valsI_get hzk] at co
            obtain ⟨x1, hx1⟩ := HA0.out (x.kids.take q)
            obtain ⟨y1, hy1⟩ := HAA.out z
            obtain ⟨x0, hx0⟩ : ∃ v, askF A (ask0 x) (x.kids.take q) = v := ⟨_, rfl⟩
            obtain ⟨y0, hy0⟩ : ∃ v, A z = v := ⟨_, rfl⟩
            rw [hx0] at x1 hx1 hsn ⊢
            rw [hy0] at co y1 hy1 hsn
            have HSN := Lib.hid hsn
            clear hsn hz hx0 hy0 hkcell hkb hocell hob g1
            by_cases hgt : x0 < y0
            · have hd : decide (x0 < y0) = true := decide_eq_true hgt
              have HMX := Lib.hid (show max x0 y0 = y0 by omega)
              clear hgt
              go_wp2_with fail
              go_round
              case rel => exact ⟨q + 1, by omega, by go_num, by first | (rw [HSN.out, HMX.out]; done) | (rw [HSN.out, HMX.out]; rfl)⟩
              case measure => first | (simp [intOf]; done) | (simp [intOf]; omega)
            · have hd : decide (x0 < y0) = false := decide_eq_false hgt
              have HMX := Lib.hid (show max x0 y0 = x0 by omega)
              clear hgt
              go_wp2_with fail
              go_round
              case rel => exact ⟨q + 1, by omega, by go_num, by first | (rw [HSN.out, HMX.out]; done) | (rw [HSN.out, HMX.out]; rfl)⟩
              case measure => first | (simp [intOf]; done) | (simp [intOf]; omega)
          · have HQM := Lib.hid (show x.kids.take q = x.kids from List.take_of_length_le (by rw [HM.out]; omega))
            rw [HQM.out]
            obtain ⟨y0, hy0⟩ : ∃ v, askF A (ask0 x) x.kids = v := ⟨_, rfl⟩
            rw [hy0] at HN0 ⊢
            clear hy0
            have HOO := Lib.hid (show wn.ownsRow w.heap.size 3 1 (.slice oo k oc) k (intC (valsI A k)) from by have h := HON.out; unfold OwnK at h; rw [valsI_len] at h; exact h)
            go_wp2_with (at_builtin; refine wpList_append_own_at _ rfl _ _ 36 rfl w.heap.size 3 k0 (.int .i64 0) 1 8 Tryz.underlying36 hki hk0 hk1 hk2 rfl (by decide) _ k (intC (valsI A k)) rfl (HOO.out.alloc _) ⟨wn.heap.size, 0, none⟩ 1 1 [.int .i64 y0] rfl ?b1 ?b2 ?b3 ?b4 ?b5 ?b6 ?_)
            case b3 => rfl
            case b4 => unfold maxLen; omega
            case b5 => omega
            case b6 => have := BZ.out; simp; omega
            intro v' w3 hown3 hgrow _ hblk
            have HP := Lib.hid (push_int1 (z := y0) HON.out BN.out (by rw [valsI_len]; exact hown3) hgrow)
            clear hown3 hgrow hblk
            go_wp2_with fail
            go_roundw
            case rel => exact ⟨k + 1, by omega, by go_num, Lib.hid (by rw [HN0.out]; exact HP.out.1), Lib.hid HP.out.2⟩
            case measure => first | (simp [intOf]; done) | (simp [intOf]; omega)
    · obtain rfl : k = i + 1 := by omega
      obtain ⟨oo, oc, rfl, hor, hoc⟩ := ownK_row HO.out
      rw [valsI_len] at hoc ⊢
      have HR := Lib.hid (And.intro hor hoc)
      clear hor hoc
      go_wp2_with fail
      go_ret
      exact ⟨oo, oc, rfl, HR.out.1, HR.out.2, HB.out⟩
end Go.Proofs.YtkmnfkhchcoamaaGreatDoor

