import Derived.Test.YtleiaghegokjkaaGreatDoorSubA
import Derived.Test.YtleiaghegokjkaaGreatDoorSubB
import Derived.Laws.OwnMore
import Derived.Test.YtleiaghegokjkaaGreatDoorSubTidy
import Derived.Test.YtleiaghegokjkaaGreatDoorTypRefAdd
import Derived.Test.YtleiaghegokjkaaGreatDoorSubG
/- The reference's Asks, parts and mark. -/
namespace Go.Proofs.YtleiaghegokjkaaGreatDoor
open Go.RowKit
set_option linter.unusedSimpArgs false
set_option linter.unusedVariables false

theorem refmark_any (u : ByteArray) (w : World) : Calls Tryz.prog 40 #[.string u] w fun e w' => e = .returned (.bool (markB u)) ∧ w = w' := by
  cases hm1 : (u.toList == [61])
  · cases hm2 : (u.toList == [126])
    · have h : markB u = false := by unfold markB; rw [hm1, hm2]; rfl
      rw [h]
      clear h
      go_enter Tryz.func40, Tryz.ntmps40
      go_wp2_with fail
      go_ret
      exact ⟨rfl, rfl⟩
    · have h : markB u = true := by unfold markB; rw [hm1, hm2]; rfl
      rw [h]
      clear h
      go_enter Tryz.func40, Tryz.ntmps40
      go_wp2_with fail
      go_ret
      exact ⟨rfl, rfl⟩
  · have h : markB u = true := by unfold markB; rw [hm1]; rfl
    rw [h]
    clear h
    go_enter Tryz.func40, Tryz.ntmps40
    go_wp2_with fail
    go_ret
    exact ⟨rfl, rfl⟩
/-- A function's first values. -/
def valsI (A : Nat → Int) (k : Nat) : List Int := (List.range k).map A
theorem valsI_len (A : Nat → Int) (k : Nat) : (valsI A k).length = k := by simp [valsI]
theorem valsI_get {A : Nat → Int} {k m : Nat} (h : m < k) : (valsI A k).getD m 0 = A m := by
  rw [getD_of (by rw [valsI_len]; exact h)]
  simp [valsI]
theorem valsI_snoc (A : Nat → Int) (k : Nat) : valsI A (k + 1) = valsI A k ++ [A k] := by
  unfold valsI
  rw [List.range_succ, List.map_append]
  rfl
theorem asks_snoc {f : Nat → Ty} (k : Nat) : valsI (askD f (k + 1)) (k + 1) = valsI (askD f k) k ++ [askF (askD f k) (ask0 (f k)) (f k).kids] := by
  rw [valsI_snoc, askD_self (Nat.lt_succ_self k)]
  congr 1
  unfold valsI
  apply List.map_congr_left
  intro m hm
  rw [List.mem_range] at hm
  exact askD_stay hm (Nat.le_succ k)
/-- What is there behind an append of one integer. -/
theorem push_int1 {W wr w1 : World} {v v' : Value} {zs : List Int} {z : Int} (ho : OwnK wr W.heap.size v zs) (hB : Below W.heap.size W wr) (h1 : w1.ownsRow W.heap.size 3 1 v' (zs.length + 1) (intC zs ++ [.int .i64 z])) (hg : (wr.alloc (.cells #[.int .i64 z] 3)).grownBy w1 v.ownBlock) :
    OwnK w1 W.heap.size v' (zs ++ [z]) ∧ Below W.heap.size W w1 := by
  have ba : Below wr.heap.size wr (wr.alloc (.cells #[.int .i64 z] 3)) := (Below.refl _ _).alloc (Nat.le_refl _) _
  have hb2 := hB.trans (ba.mono hB.size)
  refine ⟨by unfold OwnK intC; rw [List.length_append, List.map_append]; exact h1, hb2.grown hg hb2.size (fun k hk => ?_)⟩
  exact (World.ownsRow.lt (row_kept ho ba) k hk).1
set_option maxHeartbeats 16000000 in
set_option maxRecDepth 100000 in
theorem refasks_any (l : List Ty) (ao : Option Addr) (ac i : Nat) (w : World) (hl : ARow w ao l) (hr : rightT l = true) (hac : l.length ≤ ac) (hi : i < l.length) :
    Calls Tryz.prog 11 #[.slice ao l.length ac, .int .i64 i] w fun e w' => ∃ bo bc, e = .returned (.slice bo (i + 1) bc) ∧ IRow w' bo (valsI (askD (funT l) (i + 1)) (i + 1)) ∧ i + 1 ≤ bc ∧ Below w.heap.size w w' := by
  obtain ⟨k0, hki, hk0, hk1, hk2⟩ := info_parts (t := 3) info_intZ
  have hlen := (right_step hr).1
  have HPO := Lib.hid (right_param hr)
  obtain ⟨f, hf⟩ : ∃ f : Nat → Ty, funT l = f := ⟨_, rfl⟩
  rw [hf] at HPO ⊢
  have HF := Lib.hid (show ∀ j (hj : j < l.length), f j = l[j] from fun j hj => by rw [← hf]; exact getD_of hj)
  have HK := Lib.hid (show ∀ j (hj : j < l.length), ∀ k ∈ (f j).kids, 0 ≤ k ∧ k < (j : Int) from fun j hj => by rw [HF.out j hj]; exact right_kids hr hj)
  obtain ⟨n, hn⟩ : ∃ n, l.length = n := ⟨_, rfl⟩
  have HN := Lib.hid hn
  have HA := Lib.hid hl
  rw [hn] at hlen hac hi ⊢
  have hin : i + 1 ≤ n := hi
  clear hl hr hf hn
  go_enter Tryz.func11, Tryz.ntmps11
  go_wp2_with fail
  have O0 := Lib.hid (show OwnK (w.alloc (.cells #[] 3)) w.heap.size (.slice (some ⟨w.heap.size, 0, none⟩) 0 0) [] from World.ownsRow_made w #[] 0 (Nat.le_refl _) (by unfold maxLen; omega) rfl)
  obtain ⟨w1, h1⟩ : ∃ w1, w.alloc (.cells #[] 3) = w1 := ⟨_, rfl⟩
  rw [h1] at O0 ⊢
  have B1 := Lib.hid (show Below w.heap.size w w1 by rw [← h1]; exact (Below.refl _ _).alloc (Nat.le_refl _) _)
  clear h1
  go_loopw [5, 17] (fun v5 v wr => ∃ k : Nat, k ≤ i + 1 ∧ v = .int .i64 k ∧ Hid (OwnK wr w.heap.size v5 (valsI (askD f k) k)) ∧ Hid (Below w.heap.size w wr)) (fun _ v _ => i + 1 - (intOf v).toNat)
  case atStart => exact ⟨0, Nat.zero_le _, rfl, O0, B1⟩
  case round =>
    obtain ⟨k, hk, rfl, HO, HB⟩ := hrel
    by_cases hkl : k < i + 1
    · have hkx : k < l.length := by rw [HN.out]; omega
      have hkI : (k : Int) < (i : Int) + 1 := by omega
      obtain ⟨ab, aof, rfl, hab, hcl⟩ := HA.out.cells (by omega)
      have hat := hcl k hkx
      rw [← HF.out k hkx] at hat
      have HKP := Lib.hid (HK.out k hkx)
      have HP9 := Lib.hid (HPO.out k)
      have HA0 := Lib.hid (fun ks => askF_in HPO.out k k ks)
      have HAA := Lib.hid (fun m => askD_in HPO.out k m)
      have HN0 := Lib.hid (asks_snoc (f := f) k)
      obtain ⟨x, hx⟩ : ∃ x, f k = x := ⟨_, rfl⟩
      rw [hx] at hat HKP HP9 HA0 HN0
      obtain ⟨xw, xwc, xk, xkc, a0', a1', a2', a3', a4', hwc, hkc, hxc⟩ := hat
      have a0 := (HB.out.cell hab).trans a0'
      have a1 := (HB.out.cell hab).trans a1'
      have a2 := (HB.out.cell hab).trans a2'
      have a3 := (HB.out.cell hab).trans a3'
      have a4 := (HB.out.cell hab).trans a4'
      obtain ⟨A, hA⟩ : ∃ A, askD f k = A := ⟨_, rfl⟩
      rw [hA] at HO HA0 HN0 HAA
      obtain ⟨oo, oc, rfl, hor, hoc⟩ := ownK_row HO.out
      have hvl := valsI_len A k
      clear hx hcl hab hA a0' a1' a2' a3' a4'
      obtain ⟨wn, hwn⟩ : ∃ wn, wr.alloc (.cells #[.int .i64 x.kind, .string x.name, .int .i64 x.n, .slice xw x.words.length xwc, .slice xk x.kids.length xkc] 41) = wn := ⟨_, rfl⟩
      obtain ⟨kx, qx, zx⟩ := box_new hwn
      obtain ⟨c0, c1, c2, c3, c4⟩ := cell5 kx
      have BN := Lib.hid (HB.out.trans (qx.mono HB.out.size))
      have HOR := Lib.hid (hor.below qx)
      have HON := Lib.hid (show OwnK wn w.heap.size (.slice oo (valsI A k).length oc) (valsI A k) from row_kept HO.out qx)
      have HKR := Lib.hid hxc.kids
      have hml := hxc.ok.kl
      have BZ := Lib.hid BN.out.size
      rw [hvl] at hoc HON ⊢
      clear kx qx zx hwc hkc hxc hor
      obtain ⟨m, hm⟩ : ∃ m, x.kids.length = m := ⟨_, rfl⟩
      have HM := Lib.hid hm
      rw [hm] at hml hwn c4 a4
      clear hm
      by_cases h9 : x.kind = 9
      · have hq : (x.kind == 9) = true := by rw [beq_iff_eq]; exact h9
        obtain ⟨g1, g2⟩ := HP9.out h9
        have HS0 := Lib.hid (show ask0 x = x.n + 1 by unfold ask0; rw [if_pos h9])
        have HV0 : Value.int .i64 (x.n + 1) = .int .i64 (askF A (ask0 x) (x.kids.take 0)) := by rw [HS0.out]; rfl
        have HV := Lib.hid HV0
        clear h9 HV0
        go_wp2_with fail
        clear a0 a1 a2 a3 a4 hwn c0 c1 c2 c3 c4
        go_loop [8, 30] (fun v8 v => ∃ q : Nat, q ≤ m ∧ v = .int .i64 q ∧ v8 = .int .i64 (askF A (ask0 x) (x.kids.take q))) (fun _ v => m - (intOf v).toNat)
        case atStart => exact ⟨0, Nat.zero_le _, rfl, HV.out⟩
        case round =>
          obtain ⟨q, hq, rfl, rfl⟩ := hrel
          by_cases hql : q < m
          · have hqx : q < x.kids.length := by rw [HM.out]; exact hql
            obtain ⟨kb, kof, rfl, hkb, hkcell⟩ := HKR.out.cells (by omega)
            have ck := (BN.out.cell (p := ⟨kb, kof + q, none⟩) hkb).trans (hkcell q hqx)
            obtain ⟨g1, g2⟩ := HKP.out _ (getD_mem hqx)
            obtain ⟨z, hz⟩ : ∃ z : Nat, x.kids.getD q 0 = (z : Int) := ⟨(x.kids.getD q 0).toNat, by omega⟩
            have hsn := askF_snoc (A := A) (n := ask0 x) hqx
            rw [hz] at ck g2 hsn
            rw [Int.toNat_natCast] at hsn
            have hzk : z < k := by omega
            have hzI : (z : Int) < (k : Int) := by omega
            obtain ⟨ob, oof, rfl, hob, hocell⟩ := HOR.out.cells (by rw [valsI_len]; omega)
            have co := hocell z (by rw [valsI_len]; exact hzk)
            rw [valsI_get hzk] at co
            obtain ⟨x1, hx1⟩ := HA0.out (x.kids.take q)
            obtain ⟨y1, hy1⟩ := HAA.out z
            obtain ⟨x0, hx0⟩ : ∃ v, askF A (ask0 x) (x.kids.take q) = v := ⟨_, rfl⟩
            obtain ⟨y0, hy0⟩ : ∃ v, A z = v := ⟨_, rfl⟩
            rw [hx0] at x1 hx1 hsn ⊢
            rw [hy0] at co y1 hy1 hsn
            have HSN := Lib.hid hsn
            clear hsn hz hx0 hy0 hkcell hkb hocell hob g1
            by_cases hgt : x0 < y0
            · have hd : decide (x0 < y0) = true := decide_eq_true hgt
              have HMX := Lib.hid (show max x0 y0 = y0 by omega)
              clear hgt
              go_wp2_with fail
              go_round
              case rel => exact ⟨q + 1, by omega, by go_num, by first | (rw [HSN.out, HMX.out]; done) | (rw [HSN.out, HMX.out]; rfl)⟩
              case measure => first | (simp [intOf]; done) | (simp [intOf]; omega)
            · have hd : decide (x0 < y0) = false := decide_eq_false hgt
              have HMX := Lib.hid (show max x0 y0 = x0 by omega)
              clear hgt
              go_wp2_with fail
              go_round
              case rel => exact ⟨q + 1, by omega, by go_num, by first | (rw [HSN.out, HMX.out]; done) | (rw [HSN.out, HMX.out]; rfl)⟩
              case measure => first | (simp [intOf]; done) | (simp [intOf]; omega)
          · have HQM := Lib.hid (show x.kids.take q = x.kids from List.take_of_length_le (by rw [HM.out]; omega))
            rw [HQM.out]
            obtain ⟨y0, hy0⟩ : ∃ v, askF A (ask0 x) x.kids = v := ⟨_, rfl⟩
            rw [hy0] at HN0 ⊢
            clear hy0
            have HOO := Lib.hid (show wn.ownsRow w.heap.size 3 1 (.slice oo k oc) k (intC (valsI A k)) from by have h := HON.out; unfold OwnK at h; rw [valsI_len] at h; exact h)
            go_wp2_with (at_builtin; refine wpList_append_own_at _ rfl _ _ 23 rfl w.heap.size 3 k0 (.int .i64 0) 1 8 Tryz.underlying23 hki hk0 hk1 hk2 rfl (by decide) _ k (intC (valsI A k)) rfl (HOO.out.alloc _) ⟨wn.heap.size, 0, none⟩ 1 1 [.int .i64 y0] rfl ?c1 ?c2 ?c3 ?c4 ?c5 ?c6 ?_)
            case c3 => rfl
            case c4 => unfold maxLen; omega
            case c5 => omega
            case c6 => have := BZ.out; simp; omega
            intro v' w3 hown3 hgrow _ hblk
            have HP := Lib.hid (push_int1 (z := y0) HON.out BN.out (by rw [valsI_len]; exact hown3) hgrow)
            clear hown3 hgrow hblk
            go_wp2_with fail
            go_roundw
            case rel => exact ⟨k + 1, by omega, by go_num, Lib.hid (by rw [HN0.out]; exact HP.out.1), Lib.hid HP.out.2⟩
            case measure => first | (simp [intOf]; done) | (simp [intOf]; omega)
      · have hq : (x.kind == 9) = false := by rw [beq_eq_false_iff_ne]; exact h9
        have HS0 := Lib.hid (show ask0 x = 0 by unfold ask0; rw [if_neg h9])
        have HV0 : Value.int .i64 0 = .int .i64 (askF A (ask0 x) (x.kids.take 0)) := by rw [HS0.out]; rfl
        have HV := Lib.hid HV0
        clear h9 HV0
        go_wp2_with fail
        clear a0 a1 a2 a3 a4 hwn c0 c1 c2 c3 c4
        go_loop [8, 30] (fun v8 v => ∃ q : Nat, q ≤ m ∧ v = .int .i64 q ∧ v8 = .int .i64 (askF A (ask0 x) (x.kids.take q))) (fun _ v => m - (intOf v).toNat)
        case atStart => exact ⟨0, Nat.zero_le _, rfl, HV.out⟩
        case round =>
          obtain ⟨q, hq, rfl, rfl⟩ := hrel
          by_cases hql : q < m
          · have hqx : q < x.kids.length := by rw [HM.out]; exact hql
            obtain ⟨kb, kof, rfl, hkb, hkcell⟩ := HKR.out.cells (by omega)
            have ck := (BN.out.cell (p := ⟨kb, kof + q, none⟩) hkb).trans (hkcell q hqx)
            obtain ⟨g1, g2⟩ := HKP.out _ (getD_mem hqx)
            obtain ⟨z, hz⟩ : ∃ z : Nat, x.kids.getD q 0 = (z : Int) := ⟨(x.kids.getD q 0).toNat, by omega⟩
            have hsn := askF_snoc (A := A) (n := ask0 x) hqx
            rw [hz] at ck g2 hsn
            rw [Int.toNat_natCast] at hsn
            have hzk : z < k := by omega
            have hzI : (z : Int) < (k : Int) := by omega
            obtain ⟨ob, oof, rfl, hob, hocell⟩ := HOR.out.cells (by rw [valsI_len]; omega)
            have co := hocell z (by rw [valsI_len]; exact hzk)
            rw [valsI_get hzk] at co
            obtain ⟨x1, hx1⟩ := HA0.out (x.kids.take q)
            obtain ⟨y1, hy1⟩ := HAA.out z
            obtain ⟨x0, hx0⟩ : ∃ v, askF A (ask0 x) (x.kids.take q) = v := ⟨_, rfl⟩
            obtain ⟨y0, hy0⟩ : ∃ v, A z = v := ⟨_, rfl⟩
            rw [hx0] at x1 hx1 hsn ⊢
            rw [hy0] at co y1 hy1 hsn
            have HSN := Lib.hid hsn
            clear hsn hz hx0 hy0 hkcell hkb hocell hob g1
            by_cases hgt : x0 < y0
            · have hd : decide (x0 < y0) = true := decide_eq_true hgt
              have HMX := Lib.hid (show max x0 y0 = y0 by omega)
              clear hgt
              go_wp2_with fail
              go_round
              case rel => exact ⟨q + 1, by omega, by go_num, by first | (rw [HSN.out, HMX.out]; done) | (rw [HSN.out, HMX.out]; rfl)⟩
              case measure => first | (simp [intOf]; done) | (simp [intOf]; omega)
            · have hd : decide (x0 < y0) = false := decide_eq_false hgt
              have HMX := Lib.hid (show max x0 y0 = x0 by omega)
              clear hgt
              go_wp2_with fail
              go_round
              case rel => exact ⟨q + 1, by omega, by go_num, by first | (rw [HSN.out, HMX.out]; done) | (rw [HSN.out, HMX.out]; rfl)⟩
              case measure => first | (simp [intOf]; done) | (simp [intOf]; omega)
          · have HQM := Lib.hid (show x.kids.take q = x.kids from List.take_of_length_le (by rw [HM.out]; omega))
            rw [HQM.out]
            obtain ⟨y0, hy0⟩ : ∃ v, askF A (ask0 x) x.kids = v := ⟨_, rfl⟩
            rw [hy0] at HN0 ⊢
            clear hy0
            have HOO := Lib.hid (show wn.ownsRow w.heap.size 3 1 (.slice oo k oc) k (intC (valsI A k)) from by have h := HON.out; unfold OwnK at h; rw [valsI_len] at h; exact h)
            go_wp2_with (at_builtin; refine wpList_append_own_at _ rfl _ _ 23 rfl w.heap.size 3 k0 (.int .i64 0) 1 8 Tryz.underlying23 hki hk0 hk1 hk2 rfl (by decide) _ k (intC (valsI A k)) rfl (HOO.out.alloc _) ⟨wn.heap.size, 0, none⟩ 1 1 [.int .i64 y0] rfl ?b1 ?b2 ?b3 ?b4 ?b5 ?b6 ?_)
            case b3 => rfl
            case b4 => unfold maxLen; omega
            case b5 => omega
            case b6 => have := BZ.out; simp; omega
            intro v' w3 hown3 hgrow _ hblk
            have HP := Lib.hid (push_int1 (z := y0) HON.out BN.out (by rw [valsI_len]; exact hown3) hgrow)
            clear hown3 hgrow hblk
            go_wp2_with fail
            go_roundw
            case rel => exact ⟨k + 1, by omega, by go_num, Lib.hid (by rw [HN0.out]; exact HP.out.1), Lib.hid HP.out.2⟩
            case measure => first | (simp [intOf]; done) | (simp [intOf]; omega)
    · obtain rfl : k = i + 1 := by omega
      obtain ⟨oo, oc, rfl, hor, hoc⟩ := ownK_row HO.out
      rw [valsI_len] at hoc ⊢
      have HR := Lib.hid (And.intro hor hoc)
      clear hor hoc
      go_wp2_with fail
      go_ret
      exact ⟨oo, oc, rfl, HR.out.1, HR.out.2, HB.out⟩
end Go.Proofs.YtleiaghegokjkaaGreatDoor
/- The reference's parts. -/
namespace Go.Proofs.YtleiaghegokjkaaGreatDoor
open Go.RowKit
set_option linter.unusedSimpArgs false
set_option linter.unusedVariables false

def OwnBL (w : World) (base : Nat) (v : Value) (L : Nat) (f : Nat → Bool) : Prop := w.ownsRow base 4 1 v L (rowB L f).toList
theorem rowB_snoc (k : Nat) (f : Nat → Bool) : (rowB (k + 1) f).toList = (rowB k f).toList ++ [.bool (f k)] := by
  unfold rowB
  rw [List.range_succ, List.map_append]
  simp
theorem push_bool1 {W wr w1 : World} {v v' : Value} {k : Nat} (ho : OwnBL wr W.heap.size v k fun _ => false) (hB : Below W.heap.size W wr) (h1 : w1.ownsRow W.heap.size 4 1 v' (k + 1) ((rowB k fun _ => false).toList ++ [.bool false])) (hg : (wr.alloc (.cells #[.bool false] 4)).grownBy w1 v.ownBlock) :
    OwnBL w1 W.heap.size v' (k + 1) (fun _ => false) ∧ Below W.heap.size W w1 := by
  have ba : Below wr.heap.size wr (wr.alloc (.cells #[.bool false] 4)) := (Below.refl _ _).alloc (Nat.le_refl _) _
  have hb2 := hB.trans (ba.mono hB.size)
  refine ⟨by unfold OwnBL; rw [rowB_snoc]; exact h1, hb2.grown hg hb2.size (fun k hk => ?_)⟩
  exact (World.ownsRow.lt (row_kept ho ba) k hk).1
theorem OwnBL.form {w : World} {base L : Nat} {v : Value} {f : Nat → Bool} (h : OwnBL w base v L f) (h0 : 0 < L) : ∃ g cap, v = .slice (some ⟨g, 0, none⟩) L cap ∧ base ≤ g ∧ L ≤ cap := by
  obtain ⟨h1, h2⟩ := h
  rcases h2 with ⟨rfl, h2⟩ | ⟨g, cap, cur, rfl, hg, hcur, hc, rest⟩
  · omega
  · exact ⟨g, cap, rfl, hg, hc⟩
theorem OwnBL.cell {w : World} {base L g cap : Nat} {f : Nat → Bool} (h : OwnBL w base (.slice (some ⟨g, 0, none⟩) L cap) L f) {j : Nat} (hj : j < L) : w.cell? ⟨g, j, none⟩ = some (.bool (f j)) := by
  have h' : w.ownsRow base 4 1 (.slice (some ⟨g, 0, none⟩) L cap) L (rowB L f).toList := h
  rw [h'.cellAt j (by omega), Array.getElem?_toList, rowB_get hj]
theorem OwnBL.free {w : World} {base L g cap : Nat} {f : Nat → Bool} (h : OwnBL w base (.slice (some ⟨g, 0, none⟩) L cap) L f) (j : Nat) : w.frozen? ⟨g, j, none⟩ = false := by
  have h' : w.ownsRow base 4 1 (.slice (some ⟨g, 0, none⟩) L cap) L (rowB L f).toList := h
  exact h'.frozenAt j
theorem OwnBL.set {w : World} {base L g cap : Nat} {f : Nat → Bool} (h : OwnBL w base (.slice (some ⟨g, 0, none⟩) L cap) L f) (j : Nat) (d : Bool) : OwnBL (w.setCell ⟨g, j, none⟩ (.bool d)) base (.slice (some ⟨g, 0, none⟩) L cap) L (fun m => if m = j then d else f m) := by
  have h' : w.ownsRow base 4 1 (.slice (some ⟨g, 0, none⟩) L cap) L (rowB L f).toList := h
  have := (h'.stored j (.bool d)).1
  unfold OwnBL
  rw [← rowB_set, Array.toList_setIfInBounds]
  exact this
theorem kmark_off {nd : Nat → Bool} {j : Nat} {ks : List Int} (h : nd j = false) : kmark nd j ks = nd := by
  funext m
  unfold kmark
  rw [h]
  simp
set_option maxHeartbeats 16000000 in
set_option maxRecDepth 100000 in
theorem refparts_any (l : List Ty) (ao : Option Addr) (ac i : Nat) (w : World) (hl : ARow w ao l) (hr : rightT l = true) (hac : l.length ≤ ac) (hi : i < l.length) :
    Calls Tryz.prog 24 #[.slice ao l.length ac, .int .i64 i] w fun e w' => ∃ g cap, e = .returned (.slice (some ⟨g, 0, none⟩) (i + 1) cap) ∧ i + 1 ≤ cap ∧ g < w'.heap.size ∧ (∀ m, m < i + 1 → w'.cell? ⟨g, m, none⟩ = some (.bool (needD (funT l) i (i + 1) m))) ∧ Below w.heap.size w w' := by
  obtain ⟨k0, hki, hk0, hk1, hk2⟩ := info_parts info_boolT
  have hlen := (right_step hr).1
  obtain ⟨f, hf⟩ : ∃ f : Nat → Ty, funT l = f := ⟨_, rfl⟩
  rw [hf]
  have HF := Lib.hid (show ∀ j (hj : j < l.length), f j = l[j] from fun j hj => by rw [← hf]; exact getD_of hj)
  have HK := Lib.hid (show ∀ j (hj : j < l.length), ∀ k ∈ (f j).kids, 0 ≤ k ∧ k < (j : Int) from fun j hj => by rw [HF.out j hj]; exact right_kids hr hj)
  obtain ⟨n, hn⟩ : ∃ n, l.length = n := ⟨_, rfl⟩
  have HN := Lib.hid hn
  have HA := Lib.hid hl
  rw [hn] at hlen hac hi ⊢
  have hin : i + 1 ≤ n := hi
  clear hl hr hf hn
  go_enter Tryz.func24, Tryz.ntmps24
  go_wp2_with fail
  have O0 := Lib.hid (show OwnBL (w.alloc (.cells #[] 4)) w.heap.size (.slice (some ⟨w.heap.size, 0, none⟩) 0 0) 0 (fun _ => false) from World.ownsRow_made w #[] 0 (Nat.le_refl _) (by unfold maxLen; omega) rfl)
  obtain ⟨w1, h1⟩ : ∃ w1, w.alloc (.cells #[] 4) = w1 := ⟨_, rfl⟩
  rw [h1] at O0 ⊢
  have B1 := Lib.hid (show Below w.heap.size w w1 by rw [← h1]; exact (Below.refl _ _).alloc (Nat.le_refl _) _)
  clear h1
  go_loopw [5, 15] (fun v5 v wr => ∃ k : Nat, k ≤ i + 1 ∧ v = .int .i64 k ∧ Hid (OwnBL wr w.heap.size v5 k fun _ => false) ∧ Hid (Below w.heap.size w wr)) (fun _ v _ => i + 1 - (intOf v).toNat)
  case atStart => exact ⟨0, Nat.zero_le _, rfl, O0, B1⟩
  case round =>
    obtain ⟨k, hk, rfl, HO, HB⟩ := hrel
    by_cases hkl : k < i + 1
    · have hkI : (k : Int) < (i : Int) + 1 := by omega
      have HOO := Lib.hid (show wr.ownsRow w.heap.size 4 1 _ k (rowB k fun _ => false).toList from HO.out)
      have BZ := Lib.hid HB.out.size
      go_wp2_with (at_builtin; refine wpList_append_own_at _ rfl _ _ 45 rfl w.heap.size 4 k0 (.bool false) 1 1 Tryz.underlying45 hki hk0 hk1 hk2 rfl (by decide) _ k (rowB k fun _ => false).toList rfl (HOO.out.alloc _) ⟨wr.heap.size, 0, none⟩ 1 1 [.bool false] rfl ?c1 ?c2 ?c3 ?c4 ?c5 ?c6 ?_)
      case c1 => rfl
      case c2 => exact cell_news _ _ _
      case c3 => exact fun v hv => by rw [List.mem_singleton.1 hv]; rfl
      case c4 => unfold maxLen; omega
      case c5 => omega
      case c6 => have := BZ.out; simp; omega
      intro v' w3 hown3 hgrow _ hblk
      have HP := Lib.hid (push_bool1 HO.out HB.out hown3 hgrow)
      clear hown3 hgrow hblk
      go_wp2_with fail
      go_roundw
      case rel => exact ⟨k + 1, by omega, by go_num, Lib.hid HP.out.1, Lib.hid HP.out.2⟩
      case measure => first | (simp [intOf]; done) | (simp [intOf]; omega)
    · obtain rfl : k = i + 1 := by omega
      obtain ⟨g, cap, rfl, hg, hcap⟩ := HO.out.form (by omega)
      have HG := Lib.hid hg
      have KA := Lib.hid (show OwnBL (wr.setCell ⟨g, i, none⟩ (.bool true)) w.heap.size (.slice (some ⟨g, 0, none⟩) (i + 1) cap) (i + 1) (needD f i 0) from HO.out.set i true)
      have BA := Lib.hid (set_below (v := .bool true) (k := i) HB.out hg)
      have ci := HO.out.cell (j := i) (by omega)
      have fi := HO.out.free i
      have hiI : (i : Int) < (i : Int) + 1 := by omega
      obtain ⟨w3, h3⟩ : ∃ w3, wr.setCell ⟨g, i, none⟩ (.bool true) = w3 := ⟨_, rfl⟩
      rw [h3] at KA BA
      clear hg
      go_wp2_with fail
      clear ci fi h3
      go_loopw [6] (fun v wr => ∃ c j : Nat, c + j = i + 1 ∧ v = .int .i64 ((j : Int) - 1) ∧ Hid (OwnBL wr w.heap.size (.slice (some ⟨g, 0, none⟩) (i + 1) cap) (i + 1) (needD f i c)) ∧ Hid (Below w.heap.size w wr)) (fun v _ => (intOf v + 1).toNat)
      case atStart => exact ⟨0, i + 1, by omega, by (rw [show ((i + 1 : Nat) : Int) - 1 = (i : Int) by omega]), KA, BA⟩
      case round =>
        obtain ⟨c, j, hcj, rfl, KB, HB⟩ := hrel
        by_cases hj0 : j = 0
        · have hneg : (j : Int) - 1 < 0 := by omega
          obtain rfl : c = i + 1 := by omega
          clear hj0
          go_wp2_with fail
          go_ret
          exact ⟨g, cap, rfl, hcap, row_lt KB.out g rfl, fun m hm => KB.out.cell hm, HB.out⟩
        · obtain ⟨p, rfl⟩ : ∃ p, j = p + 1 := ⟨j - 1, by omega⟩
          have hpi : p ≤ i := by omega
          have hpI : (p : Int) < (i : Int) + 1 := by omega
          have HP := Lib.hid (show i - c = p by omega)
          have hpx : p < l.length := by rw [HN.out]; omega
          obtain ⟨ab, aof, rfl, hab, hcl⟩ := HA.out.cells (by omega)
          have hat := hcl p hpx
          rw [← HF.out p hpx] at hat
          have HKP := Lib.hid (HK.out p hpx)
          obtain ⟨x, hx⟩ : ∃ x, f p = x := ⟨_, rfl⟩
          rw [hx] at hat HKP
          have HX := Lib.hid hx
          obtain ⟨xw, xwc, xk, xkc, a0, a1, a2, a3, a4, hwc, hkc, hxc⟩ := hat
          have HXC := Lib.hid hxc
          have a4 : wr.cell? ⟨ab, aof + p * 5 + 4, none⟩ = some (.slice xk x.kids.length xkc) := by rw [HB.out.cell (p := ⟨ab, aof + p * 5 + 4, none⟩) hab]; exact a4
          obtain ⟨m, hm⟩ : ∃ m, x.kids.length = m := ⟨_, rfl⟩
          have HM := Lib.hid hm
          have hml := hxc.ok.kl
          rw [hm] at a4 hml
          have hsub : ((p + 1 : Nat) : Int) - 1 = (p : Int) := by omega
          rw [hsub]
          have cp := KB.out.cell (j := p) (by omega)
          obtain ⟨b, hb⟩ : ∃ b, needD f i c p = b := ⟨_, rfl⟩
          rw [hb] at cp
          have HBE := Lib.hid hb
          obtain ⟨wo2, hwo2⟩ : ∃ wo2, wo2 = wr := ⟨_, rfl⟩
          subst hwo2
          clear hx hcl hab hwc hkc hxc hm hsub a0 a1 a2 a3 hb
          cases b
          · have KN := Lib.hid (show OwnBL wo2 w.heap.size (.slice (some ⟨g, 0, none⟩) (i + 1) cap) (i + 1) (needD f i (c + 1)) from by
              show OwnBL wo2 w.heap.size _ (i + 1) (kmark (needD f i c) (i - c) (f (i - c)).kids)
              rw [HP.out, kmark_off HBE.out]
              exact KB.out)
            go_wp2_with fail
            go_roundw
            case rel => exact ⟨c + 1, p, by omega, by first | rfl | go_num, KN, HB⟩
            case measure => first | (simp [intOf]; done) | (simp [intOf]; omega)
          · go_wp2_with fail
            clear a4 cp
            go_loopw [39] (fun v wr => ∃ q : Nat, q ≤ m ∧ v = .int .i64 q ∧ Hid (OwnBL wr w.heap.size (.slice (some ⟨g, 0, none⟩) (i + 1) cap) (i + 1) (kmark (needD f i c) p (x.kids.take q))) ∧ Hid (Below w.heap.size w wr)) (fun v _ => m - (intOf v).toNat)
            case atStart => exact ⟨0, Nat.zero_le _, rfl, by (rw [List.take_zero, kmark_nil]; exact KB), HB⟩
            case round =>
              obtain ⟨q, hq, rfl, KQ, HQ⟩ := hrel
              by_cases hql : q < m
              · have hqx : q < x.kids.length := by rw [HM.out]; exact hql
                obtain ⟨kb, kof, rfl, hkb, hkcell⟩ := HXC.out.kids.cells (by omega)
                have ck := hkcell q hqx
                obtain ⟨g1, g2⟩ := HKP.out _ (getD_mem hqx)
                obtain ⟨z, hz⟩ : ∃ z : Nat, x.kids.getD q 0 = (z : Int) := ⟨(x.kids.getD q 0).toNat, by omega⟩
                rw [hz] at ck g2
                have hzp : z < p := by omega
                have hzI : (z : Int) < (i : Int) + 1 := by omega
                have HST := Lib.hid (kmark_step (nd := needD f i c) (j := p) hqx hz (by omega))
                have HKM := Lib.hid (show kmark (needD f i c) p (x.kids.take q) p = true from (kmark_self _ _ _).trans HBE.out)
                have cz := KQ.out.cell (j := z) (by omega)
                have fz := KQ.out.free z
                have ck2 : wr.cell? ⟨kb, kof + q, none⟩ = some (.int .i64 (z : Int)) := by rw [HQ.out.cell (p := ⟨kb, kof + q, none⟩) hkb]; exact ck
                have KQ7 := Lib.hid (show OwnBL (wr.setCell ⟨g, z, none⟩ (.bool true)) w.heap.size (.slice (some ⟨g, 0, none⟩) (i + 1) cap) (i + 1) (kmark (needD f i c) p (x.kids.take (q + 1))) from by
                  rw [← HST.out, HKM.out, Bool.or_true]
                  exact KQ.out.set z true)
                have B7 := Lib.hid (set_below (v := .bool true) (k := z) HQ.out HG.out)
                obtain ⟨bz, hbz⟩ : ∃ b, kmark (needD f i c) p (x.kids.take q) z = b := ⟨_, rfl⟩
                rw [hbz] at cz
                clear hz ck hkcell hkb g1 hbz
                go_wp2_with fail
                go_roundw
                case rel => exact ⟨q + 1, by omega, by go_num, KQ7, B7⟩
                case measure => first | (simp [intOf]; done) | (simp [intOf]; omega)
              · have HQM := Lib.hid (show x.kids.take q = x.kids from List.take_of_length_le (by rw [HM.out]; omega))
                rw [HQM.out] at KQ
                have KN := Lib.hid (show OwnBL wr w.heap.size (.slice (some ⟨g, 0, none⟩) (i + 1) cap) (i + 1) (needD f i (c + 1)) from by
                  show OwnBL wr w.heap.size _ (i + 1) (kmark (needD f i c) (i - c) (f (i - c)).kids)
                  rw [HP.out, HX.out]
                  exact KQ.out)
                go_wp2_with fail
                go_roundw
                case rel => exact ⟨c + 1, p, by omega, by first | rfl | go_num, KN, HQ⟩
                case measure => first | (simp [intOf]; done) | (simp [intOf]; omega)
end Go.Proofs.YtleiaghegokjkaaGreatDoor
/- The reference's odd and Terms. -/
namespace Go.Proofs.YtleiaghegokjkaaGreatDoor
open Go.RowKit
set_option linter.unusedSimpArgs false
set_option linter.unusedVariables false

set_option maxHeartbeats 8000000 in
set_option maxRecDepth 100000 in
theorem refodd_any (l : List Ty) (lo : Option Addr) (lc : Nat) (t : Ty) (wo ko : Option Addr) (wc kc : Nat) (w : World) (hl : ARow w lo l) (ht : TyC w wo ko t) (hlen : t.words.length = t.kids.length) (hkb : ∀ k ∈ t.kids, 0 ≤ k ∧ k < (l.length : Int)) (ll : l.length ≤ 1000) :
    Calls Tryz.prog 25 #[.slice lo l.length lc, tyV t wo wc ko kc] w fun e w' => e = .returned (.bool (oddT l t)) ∧ Below w.heap.size w w' := by
  unfold tyV
  have HMK := Lib.hid (fun u W => refmark_any u W)
  have hml := ht.ok.kl
  obtain ⟨R, hR⟩ : ∃ R, oddT l t = R := ⟨_, rfl⟩
  rw [hR]
  have HR := Lib.hid hR
  obtain ⟨m, hm⟩ : ∃ m, t.kids.length = m := ⟨_, rfl⟩
  have HM := Lib.hid hm
  have HMW := Lib.hid (hlen.trans hm)
  obtain ⟨n, hn⟩ : ∃ n, l.length = n := ⟨_, rfl⟩
  have HN := Lib.hid hn
  rw [hlen, hm, hn]
  rw [hm] at hml
  rw [hn] at ll
  obtain ⟨w1, h1⟩ : ∃ w1, w.alloc (.cells #[.int .i64 t.kind, .string t.name, .int .i64 t.n, .slice wo m wc, .slice ko m kc] 41) = w1 := ⟨_, rfl⟩
  obtain ⟨k1, q1, z1⟩ := box_new h1
  have HT := Lib.hid (ht.below q1)
  have HA := Lib.hid (hl.below q1)
  have HKB := Lib.hid hkb
  have BW := Lib.hid q1
  obtain ⟨c0, c1, c2, c3, c4⟩ := cell5 k1
  clear hl ht hlen hkb hm hn k1 q1 z1 hR
  go_enter Tryz.func25, Tryz.ntmps25
  go_wp2_with fail
  go_loop [11] (fun v => ∃ q : Nat, q ≤ m ∧ v = .int .i64 q ∧ Hid (∀ p ∈ (t.words.zip t.kids).take q, (markB p.1 && badT l p.2) = false)) (fun v => m - (intOf v).toNat)
  case atStart => exact ⟨0, Nat.zero_le _, rfl, Lib.hid (fun p hp => by simp at hp)⟩
  case round =>
    obtain ⟨q, hq, rfl, HALL⟩ := hrel
    by_cases hql : q < m
    · have hqw : q < t.words.length := by rw [HMW.out]; exact hql
      have hqk : q < t.kids.length := by rw [HM.out]; exact hql
      obtain ⟨wb, wof, rfl, hwb, hwcell⟩ := HT.out.words.cells (by omega)
      obtain ⟨kb, kof, rfl, hkb, hkcell⟩ := HT.out.kids.cells (by omega)
      have cu := hwcell q hqw
      have cz := hkcell q hqk
      have hzr := HKB.out _ (getD_mem hqk)
      have HTZ := Lib.hid (take_zip (q := q) HMW.out HM.out hql)
      have HIN := Lib.hid (show (t.words.getD q ⟨#[]⟩, t.kids.getD q 0) ∈ t.words.zip t.kids from by
        have h : q < (t.words.zip t.kids).length := by rw [List.length_zip]; omega
        have e := List.getElem_mem h
        rwa [List.getElem_zip, ← getD_of (d := ⟨#[]⟩) hqw, ← getD_of (d := (0 : Int)) hqk] at e)
      obtain ⟨u, hu⟩ : ∃ u, t.words.getD q ⟨#[]⟩ = u := ⟨_, rfl⟩
      obtain ⟨z, hz⟩ : ∃ z : Nat, t.kids.getD q 0 = (z : Int) := ⟨(t.kids.getD q 0).toNat, by omega⟩
      rw [hu] at cu HTZ HIN
      rw [hz] at cz HTZ hzr HIN
      have hzl : z < l.length := by omega
      rw [HN.out] at hzr
      have hzI : (z : Int) < (n : Int) := by omega
      obtain ⟨lb, lof, rfl, hlb, hlcell⟩ := HA.out.cells (by omega)
      have hat := hlcell z hzl
      have HKA0 : kindAt l (z : Int) = l[z].kind := by
        unfold kindAt
        rw [Int.toNat_natCast, List.getElem?_eq_getElem hzl]
        rfl
      obtain ⟨y, hy⟩ : ∃ y, l[z] = y := ⟨_, rfl⟩
      rw [hy] at hat HKA0
      obtain ⟨_, _, _, _, cK, -, -, -, -, -, -, -⟩ := hat
      obtain ⟨kp, hkp⟩ : ∃ kp, y.kind = kp := ⟨_, rfl⟩
      rw [hkp] at cK HKA0
      have HKA := Lib.hid HKA0
      have HBAD := Lib.hid (show badT l (z : Int) = (unB (z : Int) || (decide (kp = 7) || decide (kp = 9))) by
        unfold badT unB
        rw [HKA.out]
        by_cases h1 : kp = 7 <;> by_cases h2 : kp = 9 <;> by_cases h3 : 14 ≤ (z : Int) ∧ (z : Int) ≤ 19 <;> simp [h1, h2, h3])
      have HYES := Lib.hid (fun (h1 : markB u = true) (h2 : badT l (z : Int) = true) => show R = true from by
        rw [← HR.out]
        unfold oddT
        rw [List.any_eq_true]
        exact ⟨_, HIN.out, by rw [h1, h2]; rfl⟩)
      have HNO := Lib.hid (fun (h : (markB u && badT l (z : Int)) = false) => show ∀ p ∈ (t.words.zip t.kids).take (q + 1), (markB p.1 && badT l p.2) = false from fun p hp => by
        rw [HTZ.out] at hp
        rcases List.mem_append.1 hp with hp | hp
        · exact HALL.out p hp
        · rw [List.mem_singleton.1 hp]; exact h)
      obtain ⟨mk, hmk⟩ : ∃ b, markB u = b := ⟨_, rfl⟩
      have HMKU0 := HMK.out u w1
      rw [hmk] at HMKU0 HYES HNO
      have HMKU := Lib.hid HMKU0
      clear hu hz hwcell hkcell hlcell hy hkp HKA0 hmk HMKU0
      go_wp2_with fail
      refine HMKU.out.mono ?_
      rintro e w' ⟨rfl, rfl⟩
      cases mk
      · have HN2 := Lib.hid (HNO.out rfl)
        clear HYES HNO HBAD
        go_wp2_with fail
        go_round
        case rel => exact ⟨q + 1, by omega, by go_num, HN2⟩
        case measure => first | (simp [intOf]; done) | (simp [intOf]; omega)
      · by_cases h7 : kp = 7
        · have hq7 : (kp == 7) = true := by rw [beq_iff_eq]; exact h7
          have HY := Lib.hid (HYES.out rfl (by rw [HBAD.out, decide_eq_true h7]; simp))
          clear h7 HYES HNO HBAD
          go_wp2_with fail
          go_ret
          exact ⟨by first | (rw [HY.out]; done) | (rw [HY.out]; rfl), BW.out⟩
        · have hq7 : (kp == 7) = false := by rw [beq_eq_false_iff_ne]; exact h7
          by_cases h9 : kp = 9
          · have hq9 : (kp == 9) = true := by rw [beq_iff_eq]; exact h9
            have HY := Lib.hid (HYES.out rfl (by rw [HBAD.out, decide_eq_true h9]; simp))
            clear h7 h9 HYES HNO HBAD
            go_wp2_with fail
            go_ret
            exact ⟨by first | (rw [HY.out]; done) | (rw [HY.out]; rfl), BW.out⟩
          · have hq9 : (kp == 9) = false := by rw [beq_eq_false_iff_ne]; exact h9
            by_cases h14 : 14 ≤ (z : Int)
            · have hd14 : decide (14 ≤ (z : Int)) = true := decide_eq_true h14
              by_cases h19 : (z : Int) ≤ 19
              · have hd19 : decide ((z : Int) ≤ 19) = true := decide_eq_true h19
                have HY := Lib.hid (HYES.out rfl (by rw [HBAD.out]; unfold unB; rw [decide_eq_true (And.intro h14 h19)]; rfl))
                clear h7 h9 h14 h19 HYES HNO HBAD
                go_wp2_with fail
                go_ret
                exact ⟨by first | (rw [HY.out]; done) | (rw [HY.out]; rfl), BW.out⟩
              · have hd19 : decide ((z : Int) ≤ 19) = false := decide_eq_false h19
                have HN2 := Lib.hid (HNO.out (by rw [HBAD.out, decide_eq_false h7, decide_eq_false h9]; unfold unB; rw [decide_eq_false (fun g => h19 g.2)]; rfl))
                clear h7 h9 h14 h19 HYES HNO HBAD
                go_wp2_with fail
                go_round
                case rel => exact ⟨q + 1, by omega, by go_num, HN2⟩
                case measure => first | (simp [intOf]; done) | (simp [intOf]; omega)
            · have hd14 : decide (14 ≤ (z : Int)) = false := decide_eq_false h14
              have HN2 := Lib.hid (HNO.out (by rw [HBAD.out, decide_eq_false h7, decide_eq_false h9]; unfold unB; rw [decide_eq_false (fun g => h14 g.1)]; rfl))
              clear h7 h9 h14 HYES HNO HBAD
              go_wp2_with fail
              go_round
              case rel => exact ⟨q + 1, by omega, by go_num, HN2⟩
              case measure => first | (simp [intOf]; done) | (simp [intOf]; omega)
    · obtain rfl : q = m := by omega
      have HF := Lib.hid (show R = false from by
        rw [← HR.out]
        unfold oddT
        rw [Bool.eq_false_iff]
        intro h
        rw [List.any_eq_true] at h
        obtain ⟨p, hp, h2⟩ := h
        have := HALL.out p (by rw [List.take_of_length_le (by rw [List.length_zip]; have := HMW.out; have := HM.out; omega)]; exact hp)
        rw [this] at h2
        cases h2)
      go_wp2_with fail
      go_ret
      exact ⟨by first | (rw [HF.out]; done) | (rw [HF.out]; rfl), BW.out⟩
/-- What stands for place p: the greater mark of its terms. -/
def isS (ps : List (ByteArray × Int)) (p : Nat) : ByteArray := if (tiW, (p : Int)) ∈ ps then tiW else if (eqW, (p : Int)) ∈ ps then eqW else ⟨#[]⟩
theorem ti_ne : tiW ≠ eqW := by decide
theorem isS_step {ps : List (ByteArray × Int)} {p : Nat} {u : ByteArray} {z : Int} (hm : markB u = true) : isS (ps ++ [(u, z)]) p = if z = (p : Int) ∧ isS ps p ≠ tiW then u else isS ps p := by
  have hu : u = tiW ∨ u = eqW := by
    have := mark_word hm
    cases h : decide (u = tiW)
    · rw [h] at this; exact .inr this
    · exact .inl (of_decide_eq_true h)
  have e1 : ∀ w : ByteArray, ((w, (p : Int)) ∈ ps ++ [(u, z)]) ↔ (w, (p : Int)) ∈ ps ∨ (w = u ∧ (p : Int) = z) := fun w => by
    rw [List.mem_append, List.mem_singleton, Prod.mk.injEq]
  have h3 : eqW ≠ tiW := fun e => ti_ne e.symm
  have h4 : (⟨#[]⟩ : ByteArray) ≠ tiW := by decide
  by_cases hz : z = (p : Int)
  · have hz' : (p : Int) = z := hz.symm
    by_cases ht : (tiW, (p : Int)) ∈ ps
    · have i1 : isS ps p = tiW := by unfold isS; rw [if_pos ht]
      have i2 : isS (ps ++ [(u, z)]) p = tiW := by unfold isS; rw [if_pos ((e1 _).2 (.inl ht))]
      rw [i1, i2, if_neg (fun g => g.2 rfl)]
    · have i1 : isS ps p ≠ tiW := by
        unfold isS
        rw [if_neg ht]
        split
        · exact h3
        · exact h4
      rw [if_pos ⟨hz, i1⟩]
      rcases hu with hu | hu
      · unfold isS
        rw [if_pos ((e1 _).2 (.inr ⟨hu.symm, hz'⟩)), hu]
      · unfold isS
        rw [if_neg (fun g => by
          rcases (e1 _).1 g with g | g
          · exact ht g
          · exact ti_ne (g.1.trans hu)), if_pos ((e1 _).2 (.inr ⟨hu.symm, hz'⟩)), hu]
  · rw [if_neg (fun g => hz g.1)]
    have e2 : ∀ w : ByteArray, ((w, (p : Int)) ∈ ps ++ [(u, z)]) ↔ (w, (p : Int)) ∈ ps := fun w => by
      rw [e1]
      constructor
      · rintro (g | g)
        · exact g
        · exact absurd g.2.symm hz
      · exact .inl
    unfold isS
    by_cases ht : (tiW, (p : Int)) ∈ ps
    · rw [if_pos ht, if_pos ((e2 _).2 ht)]
    · rw [if_neg ht, if_neg (fun g => ht ((e2 _).1 g))]
      by_cases he : (eqW, (p : Int)) ∈ ps
      · rw [if_pos he, if_pos ((e2 _).2 he)]
      · rw [if_neg he, if_neg (fun g => he ((e2 _).1 g))]
theorem isS_skip {ps : List (ByteArray × Int)} {p : Nat} {u : ByteArray} {z : Int} (hm : markB u = false) : isS (ps ++ [(u, z)]) p = isS ps p := by
  have n1 : u ≠ tiW := fun e => by rw [e] at hm; exact absurd hm (by rw [show tiW = wordOf true from rfl, mark_wordOf]; decide)
  have n2 : u ≠ eqW := fun e => by rw [e] at hm; exact absurd hm (by rw [show eqW = wordOf false from rfl, mark_wordOf]; decide)
  have e1 : ∀ w : ByteArray, w ≠ u → (((w, (p : Int)) ∈ ps ++ [(u, z)]) ↔ (w, (p : Int)) ∈ ps) := fun w hw => by
    rw [List.mem_append, List.mem_singleton, Prod.mk.injEq]
    constructor
    · rintro (g | g)
      · exact g
      · exact absurd g.1 hw
    · exact .inl
  unfold isS
  by_cases ht : (tiW, (p : Int)) ∈ ps
  · rw [if_pos ht, if_pos ((e1 _ (Ne.symm n1)).2 ht)]
  · rw [if_neg ht, if_neg (fun g => ht ((e1 _ (Ne.symm n1)).1 g))]
    by_cases he : (eqW, (p : Int)) ∈ ps
    · rw [if_pos he, if_pos ((e1 _ (Ne.symm n2)).2 he)]
    · rw [if_neg he, if_neg (fun g => he ((e1 _ (Ne.symm n2)).1 g))]
theorem isS_mark (ps : List (ByteArray × Int)) (p : Nat) : markP ps p = if isS ps p = ⟨#[]⟩ then [] else [(isS ps p, (p : Int))] := by
  unfold markP isS
  by_cases ht : (tiW, (p : Int)) ∈ ps
  · rw [if_pos ht, if_pos ht, if_neg (by decide)]
  · rw [if_neg ht, if_neg ht]
    by_cases he : (eqW, (p : Int)) ∈ ps
    · rw [if_pos he, if_pos he, if_neg (by decide)]
    · rw [if_neg he, if_neg he, if_pos rfl]
theorem termP_succ (L : Nat) (ps : List (ByteArray × Int)) : termP (L + 1) ps = termP L ps ++ markP ps L := by
  unfold termP
  rw [List.range_succ, List.flatMap_append]
  simp
theorem markP_len (ps : List (ByteArray × Int)) (p : Nat) : (markP ps p).length ≤ 1 := by
  unfold markP
  split
  · exact Nat.le_refl _
  · split
    · exact Nat.le_refl _
    · exact Nat.zero_le _
theorem termP_len : ∀ (L : Nat) (ps : List (ByteArray × Int)), (termP L ps).length ≤ L
  | 0, ps => by simp [termP]
  | L + 1, ps => by
    rw [termP_succ, List.length_append]
    have := termP_len L ps
    have := markP_len ps L
    omega
theorem isS_cases (ps : List (ByteArray × Int)) (p : Nat) : isS ps p = tiW ∨ isS ps p = eqW ∨ isS ps p = ⟨#[]⟩ := by
  unfold isS
  split
  · exact .inl rfl
  · split
    · exact .inr (.inl rfl)
    · exact .inr (.inr rfl)
/-- What Terms gives. -/
def TermsR (w : World) (tt : Ty) (e : Ending) (w' : World) : Prop :=
  ∃ ao bo ac bc, e = .returned (tyV tt ao ac bo bc) ∧ tt.words.length ≤ ac ∧ tt.kids.length ≤ bc ∧ SRow w' ao tt.words ∧ IRow w' bo tt.kids ∧ (∀ a, ao = some a → w.heap.size ≤ a.block) ∧ (∀ a, bo = some a → w.heap.size ≤ a.block) ∧ Below w.heap.size w w'
set_option maxHeartbeats 16000000 in
set_option maxRecDepth 100000 in
theorem refterms_any (l : List Ty) (lo : Option Addr) (lc : Nat) (t : Ty) (wo ko : Option Addr) (wc kc : Nat) (w : World) (ht : TyC w wo ko t) (hlen : t.words.length = t.kids.length) (hnm : t.name = ⟨#[]⟩) (hkb : ∀ k ∈ t.kids, 0 ≤ k ∧ k < (l.length : Int)) (ll : l.length ≤ 1000) :
    Calls Tryz.prog 26 #[.slice lo l.length lc, tyV t wo wc ko kc] w (TermsR w (tidyT l.length t)) := by
  obtain ⟨s0, hsi, hs0, hs1, hs2⟩ := info_parts info_str1
  obtain ⟨k0, hki, hk0, hk1, hk2⟩ := info_parts info_int1
  unfold tyV
  have HMK := Lib.hid (fun u W => refmark_any u W)
  have HT := Lib.hid ht
  have HKB := Lib.hid hkb
  have hml := ht.ok.kl
  obtain ⟨m, hm⟩ : ∃ m, t.kids.length = m := ⟨_, rfl⟩
  have HM := Lib.hid hm
  have HMW := Lib.hid (hlen.trans hm)
  obtain ⟨n, hn⟩ : ∃ n, l.length = n := ⟨_, rfl⟩
  rw [hn] at ll hkb
  have HKN := Lib.hid hkb
  rw [hlen, hm, hn]
  rw [hm] at hml
  obtain ⟨w1, h1⟩ : ∃ w1, w.alloc (.cells #[.int .i64 t.kind, .string t.name, .int .i64 t.n, .slice wo m wc, .slice ko m kc] 41) = w1 := ⟨_, rfl⟩
  obtain ⟨w2, h2⟩ : ∃ w2, w1.alloc (.cells #[.int .i64 0, .string ⟨#[]⟩, .int .i64 0, .slice none 0 0, .slice none 0 0] 41) = w2 := ⟨_, rfl⟩
  obtain ⟨W3, h3⟩ : ∃ w3, w2.alloc (.cells #[.int .i64 t.kind, .string ⟨#[]⟩, .int .i64 t.n, .slice none 0 0, .slice none 0 0] 41) = w3 := ⟨_, rfl⟩
  obtain ⟨k1, q1, z1⟩ := box_new h1
  obtain ⟨k2, q2, z2⟩ := box_new h2
  obtain ⟨k3, q3, z3⟩ := box_new h3
  have K1 := Lib.hid ((k1.below q2).below q3)
  have K2 := Lib.hid (k2.below q3)
  have BW := Lib.hid (q1.trans ((q2.trans (q3.mono q2.size)).mono q1.size))
  obtain ⟨mb, hmb⟩ : ∃ mb, w2.heap.size = mb := ⟨_, rfl⟩
  have HMB := Lib.hid hmb
  have TS0 := Lib.hid (show TS W3 W3 mb t (.slice none 0 0) (.slice none 0 0) (.slice none 0 0) (.slice none 0 0) (.slice none 0 0) [] [] [] from
    ⟨ownTm_nil _ _, ownW_nil _ _, ownK_nil _ _, .inl rfl, .inl rfl, .inl rfl, by rw [← hmb, hnm]; exact k3, by rw [z3, ← hmb]; exact Nat.lt_succ_self _, ⟨rfl, rfl, rfl, Nat.le_refl _, fun _ _ _ => rfl⟩⟩)
  have H3 := Lib.hid h3
  obtain ⟨c0, c1, c2, c3, c4⟩ := cell5 k1
  obtain ⟨d0, d1, d2, d3, d4⟩ := cell5 (k1.below q2)
  have hle : w.heap.size ≤ mb ∧ w.heap.size ≠ mb := by rw [← hmb, z2, z1]; omega
  have HLE := Lib.hid hle
  have HNB := Lib.hid (show w1.heap.size ≠ mb by rw [← hmb, z2]; omega)
  have HNB2 := Lib.hid (show w.heap.size ≤ w1.heap.size by omega)
  have HNB3 := Lib.hid (show w1.heap.size < W3.heap.size by omega)
  have hlt2 : w.heap.size < w2.heap.size := by omega
  have HC2 := Lib.hid (show ∀ w', AnyTS W3 mb t w' → w'.cell? ⟨w.heap.size, 4, none⟩ = some (.slice ko m kc) from fun w' h => (h.old K1.out HLE.out.2).cell 4)
  have HC23 := Lib.hid (show ∀ w', AnyTS W3 mb t w' → w'.cell? ⟨w.heap.size, 3, none⟩ = some (.slice wo m wc) from fun w' h => (h.old K1.out HLE.out.2).cell 3)
  have HC1 := Lib.hid (show ∀ w', AnyTS W3 mb t w' → Below w.heap.size w w' from fun w' h => h.be BW.out HLE.out.1)
  clear ht hlen hkb hm hn h3 k1 k2 k3 q1 q2 q3 z1 z2 z3 hle hmb hnm
  go_enter Tryz.func26, Tryz.ntmps26
  go_wp2_with fail
  rw [H3.out]
  rw [HMB.out]
  clear h1 h2 H3 hlt2 c0 c1 c2 c3 c4 d0 d1 d2 d3 d4
  go_loopw [20] (fun v20 wr => ∃ (q : Nat) (wv kv : Value), q ≤ m ∧ v20 = .int .i64 q ∧ Hid (TS W3 wr mb t wv kv (.slice none 0 0) wv kv [] (wsQ (t.words.zip t.kids) q) (ksQ (t.words.zip t.kids) q))) (fun v _ => m - (intOf v).toNat)
  case atStart => exact ⟨0, _, _, Nat.zero_le _, rfl, TS0⟩
  case round =>
    obtain ⟨q, wv, kv, hq, rfl, TQ⟩ := hrel
    have ql := (q_len (t.words.zip t.kids) q).2
    by_cases hql : q < m
    · have hqw : q < t.words.length := by rw [HMW.out]; exact hql
      have hqk : q < t.kids.length := by rw [HM.out]; exact hql
      obtain ⟨wb, wof, rfl, hwb, hwcell⟩ := HT.out.words.cells (by omega)
      obtain ⟨kb, kof, rfl, hkb, hkcell⟩ := HT.out.kids.cells (by omega)
      have cu := (HC1.out _ TQ.out.any).cell (p := ⟨wb, wof + q, none⟩) hwb
      rw [hwcell q hqw] at cu
      have QM := Lib.hid (fun h => q_mark (q := q) HMW.out HM.out hql h)
      have QP := Lib.hid (fun h => q_plain (q := q) HMW.out HM.out hql h)
      have hkc3 := hkcell q hqk
      obtain ⟨u, hu⟩ : ∃ u, t.words.getD q ⟨#[]⟩ = u := ⟨_, rfl⟩
      obtain ⟨z, hz⟩ : ∃ z, t.kids.getD q 0 = z := ⟨_, rfl⟩
      rw [hu] at cu QM QP
      rw [hz] at QM QP hkc3
      have HC3 := Lib.hid (show ∀ w', AnyTS W3 mb t w' → w'.cell? ⟨kb, kof + q, none⟩ = some (.int .i64 z) from fun w' h => ((HC1.out _ h).cell (p := ⟨kb, kof + q, none⟩) hkb).trans hkc3)
      obtain ⟨ws0, hws⟩ : ∃ x, wsQ (t.words.zip t.kids) q = x := ⟨_, rfl⟩
      obtain ⟨ks0, hks⟩ : ∃ x, ksQ (t.words.zip t.kids) q = x := ⟨_, rfl⟩
      rw [hws, hks] at TQ ql QM QP
      obtain ⟨mk, hmk⟩ : ∃ b, markB u = b := ⟨_, rfl⟩
      have HMKU0 := fun W => HMK.out u W
      rw [hmk] at HMKU0 QM QP
      have HMKU := Lib.hid HMKU0
      have cw3 := TQ.out.box.cell 3
      simp only [List.getElem?_toArray, List.getElem?_cons_zero, List.getElem?_cons_succ] at cw3
      clear hu hz hwcell hkcell hkc3 hwb hkb hws hks hmk HMKU0
      go_wp2_with fail
      refine (HMKU.out _).mono ?_
      rintro e w' ⟨rfl, rfl⟩
      cases mk
      · have HQ1 := Lib.hid (QP.out rfl)
        clear QM QP HMKU
        have HOW := Lib.hid (show wr.ownsRow W3.heap.size 9 1 wv ws0.length (strC ws0) from TQ.out.wr)
        have HSZ := Lib.hid (show W3.heap.size ≤ wr.heap.size from TQ.out.gr.size)
        go_wp2_with (at_builtin; refine wpList_append_own_at _ rfl _ _ 39 rfl W3.heap.size 9 s0 (.string ⟨#[]⟩) 1 16 Tryz.underlying39 hsi hs0 hs1 hs2 rfl (by decide) _ ws0.length (strC ws0) rfl (HOW.out.alloc _) ⟨wr.heap.size, 0, none⟩ 1 1 [.string u] rfl ?c1 ?c2 ?c3 ?c4 ?c5 ?c6 ?_)
        case c1 => rfl
        case c2 => exact cell_news _ _ _
        case c3 => exact fun v hv => by rw [List.mem_singleton.1 hv]; rfl
        case c4 => unfold maxLen; omega
        case c5 => omega
        case c6 => have := HSZ.out; simp; omega
        intro v5 w5 hown5 hgrow5 _ hblk5
        have T5 := Lib.hid ((TQ.out.kept (show Below wr.heap.size wr _ from (Below.refl _ _).alloc (Nat.le_refl _) (.cells #[.string u] 9))).pushW hgrow5 hown5 (by simpa using hblk5))
        obtain ⟨aov5, acv5, ev5, -, -⟩ := ownW_row T5.out.wr
        rw [List.length_append, List.length_singleton] at ev5
        subst ev5
        have T5S := Lib.hid (T5.out.store3 (.slice aov5 (ws0.length + 1) acv5))
        have f53 := T5.out.box.free 3
        have c53 := T5.out.box.cell 3
        simp only [List.getElem?_toArray, List.getElem?_cons_zero, List.getElem?_cons_succ] at c53
        clear hown5 hgrow5 hblk5 HOW HSZ cu cw3
        obtain ⟨wz, hwz⟩ : ∃ wz, w5.setCell ⟨mb, 3, none⟩ (.slice aov5 (ws0.length + 1) acv5) = wz := ⟨_, rfl⟩
        rw [hwz] at T5S
        have TZ := T5S
        have cw4 := TZ.out.box.cell 4
        have cm4 := HC2.out _ TZ.out.any
        have ck3 := HC3.out _ TZ.out.any
        simp only [List.getElem?_toArray, List.getElem?_cons_zero, List.getElem?_cons_succ] at cw4
        go_upto_region 7 with fail
        clear f53 c53 hwz
        refine GoG.start [(10, ⟨mb, 4, none⟩, kv), (10, ⟨w.heap.size, 4, none⟩, .slice (some ⟨kb, kof, none⟩) m kc), (10, ⟨kb, kof + q, none⟩, .int .i64 z)] (by kernel_rfl) ?_ ?_
        · exact (Keeps.cons (by first | assumption | simp [*]) (Keeps.cons (by first | assumption | simp [*]) (Keeps.cons (by first | assumption | simp [*]) Keeps.nil)))
        refine GoG.take (i := 0) (v := ?_) [] rfl (by kernel_rfl) (by kernel_rfl) (by kernel_rfl) (by kernel_rfl) (by kernel_rfl) (by kernel_rfl) (fun _ _ _ h => h) (yields_free (by rfl) (fun w => ?_)) ?_
        rotate_left
        · go_simp; try (with_reducible rfl)
        try simp only [Act.put, List.getElem_toArray, List.getElem_cons_succ, List.getElem_cons_zero, List.setIfInBounds_toArray, List.set_cons_zero, List.set_cons_succ]
        refine GoG.take (i := 1) (v := ?_) [10] rfl (by kernel_rfl) (by kernel_rfl) (by kernel_rfl) (by kernel_rfl) (by kernel_rfl) (by kernel_rfl) (fun _ _ _ h => h) (yields_load 10 ⟨mb, 4, none⟩ (kv) (by simp) (by decide) (by rfl) (fun w hw => ?_)) ?_
        rotate_left
        · go_simp; try (with_reducible rfl)
        try simp only [Act.put, List.getElem_toArray, List.getElem_cons_succ, List.getElem_cons_zero, List.setIfInBounds_toArray, List.set_cons_zero, List.set_cons_succ]
        refine GoG.take (i := 2) (v := ?_) [] rfl (by kernel_rfl) (by kernel_rfl) (by kernel_rfl) (by kernel_rfl) (by kernel_rfl) (by kernel_rfl) (fun _ _ _ h => h) (yields_free (by rfl) (fun w => ?_)) ?_
        rotate_left
        · go_simp; try (with_reducible rfl)
        try simp only [Act.put, List.getElem_toArray, List.getElem_cons_succ, List.getElem_cons_zero, List.setIfInBounds_toArray, List.set_cons_zero, List.set_cons_succ]
        refine GoG.take (i := 3) (v := ?_) [10] rfl (by kernel_rfl) (by kernel_rfl) (by kernel_rfl) (by kernel_rfl) (by kernel_rfl) (by kernel_rfl) (fun _ _ _ h => h) (yields_load 10 ⟨w.heap.size, 4, none⟩ (.slice (some ⟨kb, kof, none⟩) m kc) (by simp) (by decide) (by rfl) (fun w hw => ?_)) ?_
        rotate_left
        · go_simp; try (with_reducible rfl)
        try simp only [Act.put, List.getElem_toArray, List.getElem_cons_succ, List.getElem_cons_zero, List.setIfInBounds_toArray, List.set_cons_zero, List.set_cons_succ]
        refine GoG.take (i := 4) (v := ?_) [] rfl (by kernel_rfl) (by kernel_rfl) (by kernel_rfl) (by kernel_rfl) (by kernel_rfl) (by kernel_rfl) (fun _ _ _ h => h) (yields_free (by rfl) (fun w => ?_)) ?_
        rotate_left
        · go_simp; try (with_reducible rfl)
        try simp only [Act.put, List.getElem_toArray, List.getElem_cons_succ, List.getElem_cons_zero, List.setIfInBounds_toArray, List.set_cons_zero, List.set_cons_succ]
        refine GoG.take (i := 5) (v := ?_) [] rfl (by kernel_rfl) (by kernel_rfl) (by kernel_rfl) (by kernel_rfl) (by kernel_rfl) (by kernel_rfl) (fun _ _ _ h => h) (yields_free (by rfl) (fun w => ?_)) ?_
        rotate_left
        · go_simp; try (with_reducible rfl)
        try simp only [Act.put, List.getElem_toArray, List.getElem_cons_succ, List.getElem_cons_zero, List.setIfInBounds_toArray, List.set_cons_zero, List.set_cons_succ]
        refine GoG.take (i := 6) (v := ?_) [10] rfl (by kernel_rfl) (by kernel_rfl) (by kernel_rfl) (by kernel_rfl) (by kernel_rfl) (by kernel_rfl) (fun _ _ _ h => h) (yields_load 10 ⟨kb, kof + q, none⟩ (.int .i64 z) (by simp) (by decide) (by rfl) (fun w hw => ?_)) ?_
        rotate_left
        · go_simp; try (with_reducible rfl)
        try simp only [Act.put, List.getElem_toArray, List.getElem_cons_succ, List.getElem_cons_zero, List.setIfInBounds_toArray, List.set_cons_zero, List.set_cons_succ]
        have T1 := Lib.hid (TZ.out.kept (show Below wz.heap.size wz (wz.alloc (.cells #[.int .i64 z] 3)).drew from ((Below.refl _ _).alloc (Nat.le_refl _) _).drew))
        have K1 := Lib.hid (show BlockAt (wz.alloc (.cells #[.int .i64 z] 3)).drew wz.heap.size #[.int .i64 z] 3 from BlockAt.new _ _ _)
        refine GoG.one (i := 7) rfl (by kernel_rfl) (fun K hK => ?_)
        go_simp
        refine hK.out _ _ (Keeps.cons (T1.out.box.cell 4) (Keeps.cons (HC2.out _ T1.out.any) (Keeps.cons (HC3.out _ T1.out.any) Keeps.nil))) ?_
        clear hK K
        try simp only [Act.put, List.getElem_toArray, List.getElem_cons_succ, List.getElem_cons_zero, List.setIfInBounds_toArray, List.set_cons_zero, List.set_cons_succ]
        obtain ⟨v6, w6, hap, hown, hgrow, -, hblk⟩ := run_append_own_at (P := Tryz.prog) (wz.alloc (.cells #[.int .i64 z] 3)).drew W3.heap.size 23 23 3 k0 (.int .i64 0) 1 8 Tryz.underlying23 hki hk0 hk1 hk2 rfl (by decide) kv ks0.length (intC ks0) T1.out.kr ⟨wz.heap.size, 0, none⟩ 1 1 [.int .i64 z] rfl (cell_at1 K1.out) (fun u hu => by rw [List.mem_singleton.1 hu]; rfl) (by unfold maxLen; omega) (by omega) T1.out.gr.size
        have T6 := Lib.hid (T1.out.pushK hgrow hown hblk)
        obtain ⟨ao6, ac6, e6, -, -⟩ := ownK_row T6.out.kr
        rw [List.length_append, List.length_singleton] at e6
        subst e6
        refine GoG.one (i := 8) rfl (by kernel_rfl) (fun K hK => ?_)
        rw [if_pos (by rfl)]
        refine wp_run_append _ _ _ rfl _ _ _ rfl rfl hap ?_
        refine hK.out _ _ (Keeps.cons (T6.out.box.cell 4) (Keeps.cons (HC2.out _ T6.out.any) (Keeps.cons (HC3.out _ T6.out.any) Keeps.nil))) ?_
        clear hK K hap hown hgrow hblk
        try simp only [Act.put, List.getElem_toArray, List.getElem_cons_succ, List.getElem_cons_zero, List.setIfInBounds_toArray, List.set_cons_zero, List.set_cons_succ]
        refine GoG.take (i := 9) (v := ?_) [] rfl (by kernel_rfl) (by kernel_rfl) (by kernel_rfl) (by kernel_rfl) (by kernel_rfl) (by kernel_rfl) (fun _ _ _ h => h) (yields_free (by rfl) (fun w => ?_)) ?_
        rotate_left
        · go_simp; try (with_reducible rfl)
        try simp only [Act.put, List.getElem_toArray, List.getElem_cons_succ, List.getElem_cons_zero, List.setIfInBounds_toArray, List.set_cons_zero, List.set_cons_succ]
        have fz4 := T6.out.box.free 4
        have cz4 := T6.out.box.cell 4
        simp only [List.getElem?_toArray, List.getElem?_cons_zero, List.getElem?_cons_succ] at cz4
        have TB := Lib.hid (T6.out.store4 (.slice ao6 (ks0.length + 1) ac6))
        refine GoG.one (i := 10) rfl (by kernel_rfl) (fun K hK => ?_)
        go_simp
        clear fz4 cz4
        refine hK.out _ _ (Keeps.up (by rfl) (Keeps.up (by rfl) (Keeps.up (by rfl) Keeps.nil))) ?_
        clear hK K
        try simp only [Act.put, List.getElem_toArray, List.getElem_cons_succ, List.getElem_cons_zero, List.setIfInBounds_toArray, List.set_cons_zero, List.set_cons_succ]
        refine GoG.done (by kernel_rfl) ?_ _
        clear HC2 HC3
        go_wp2_with fail
        go_roundw
        case rel => exact ⟨q + 1, _, _, by omega, by go_num, Lib.hid (by rw [HQ1.out.2.1, HQ1.out.2.2]; exact TB.out)⟩
        case measure => first | (simp [intOf]; done) | (simp [intOf]; omega)
      · have HQ1 := Lib.hid (QM.out rfl)
        clear QM QP HMKU cu cw3
        go_wp2_with fail
        go_roundw
        case rel => exact ⟨q + 1, _, _, by omega, by go_num, Lib.hid (by rw [HQ1.out.2.1, HQ1.out.2.2]; exact TQ.out)⟩
        case measure => first | (simp [intOf]; done) | (simp [intOf]; omega)
    · obtain rfl : q = m := by omega
      have HPS := Lib.hid (show (t.words.zip t.kids).take q = t.words.zip t.kids from List.take_of_length_le (by rw [List.length_zip]; have := HMW.out; have := HM.out; omega))
      have HWS0 : wsQ (t.words.zip t.kids) q = ((t.words.zip t.kids).filter fun p => !markB p.1).map (·.1) := by unfold wsQ; rw [HPS.out]
      have HKS0 : ksQ (t.words.zip t.kids) q = ((t.words.zip t.kids).filter fun p => !markB p.1).map (·.2) := by unfold ksQ; rw [HPS.out]
      obtain ⟨ws0, hws⟩ : ∃ x, wsQ (t.words.zip t.kids) q = x := ⟨_, rfl⟩
      obtain ⟨ks0, hks⟩ : ∃ x, ksQ (t.words.zip t.kids) q = x := ⟨_, rfl⟩
      rw [hws, hks] at TQ ql
      rw [hws] at HWS0
      rw [hks] at HKS0
      have HFIN := Lib.hid (And.intro HWS0 HKS0)
      clear hws hks HWS0 HKS0
      go_wp2_with fail
      go_loopw [47] (fun v wr => ∃ (p : Nat) (wv kv : Value), p ≤ n ∧ v = .int .i64 p ∧ Hid (TS W3 wr mb t wv kv (.slice none 0 0) wv kv [] (ws0 ++ (termP p (t.words.zip t.kids)).map (·.1)) (ks0 ++ (termP p (t.words.zip t.kids)).map (·.2)))) (fun v _ => n - (intOf v).toNat)
      case atStart => exact ⟨0, wv, kv, Nat.zero_le _, rfl, Lib.hid (by simpa [termP] using TQ.out)⟩
      case round =>
        obtain ⟨p, wv2, kv2, hp, rfl, TR⟩ := hrel
        by_cases hpn : p < n
        · have cm4 := HC2.out _ TR.out.any
          have cm3 := HC23.out _ TR.out.any
          have HC3 := Lib.hid (HC1.out _ TR.out.any)
          go_wp2_with fail
          go_loop [9, 53] (fun v9 v => ∃ q2 : Nat, q2 ≤ q ∧ v = .int .i64 q2 ∧ v9 = .string (isS ((t.words.zip t.kids).take q2) p)) (fun _ v => q - (intOf v).toNat)
          case atStart => exact ⟨0, Nat.zero_le _, rfl, rfl⟩
          case round =>
            obtain ⟨q2, hq2, rfl, rfl⟩ := hrel
            by_cases hq3 : q2 < q
            · have hqw : q2 < t.words.length := by rw [HMW.out]; exact hq3
              have hqk : q2 < t.kids.length := by rw [HM.out]; exact hq3
              obtain ⟨wb, wof, rfl, hwb, hwcell⟩ := HT.out.words.cells (by omega)
              obtain ⟨kb, kof, rfl, hkb, hkcell⟩ := HT.out.kids.cells (by omega)
              have cu := (HC3.out.cell (p := ⟨wb, wof + q2, none⟩) hwb).trans (hwcell q2 hqw)
              have cz := (HC3.out.cell (p := ⟨kb, kof + q2, none⟩) hkb).trans (hkcell q2 hqk)
              have HTZ := Lib.hid (take_zip (q := q2) HMW.out HM.out hq3)
              obtain ⟨u, hu⟩ : ∃ u, t.words.getD q2 ⟨#[]⟩ = u := ⟨_, rfl⟩
              obtain ⟨z, hz⟩ : ∃ z, t.kids.getD q2 0 = z := ⟨_, rfl⟩
              rw [hu] at cu HTZ
              rw [hz] at cz HTZ
              have HST := Lib.hid (fun h => isS_step (ps := (t.words.zip t.kids).take q2) (p := p) (u := u) (z := z) h)
              have HSK := Lib.hid (fun h => isS_skip (ps := (t.words.zip t.kids).take q2) (p := p) (u := u) (z := z) h)
              have HCS := isS_cases ((t.words.zip t.kids).take q2) p
              obtain ⟨s, hs⟩ : ∃ s, isS ((t.words.zip t.kids).take q2) p = s := ⟨_, rfl⟩
              rw [hs] at HST HSK HCS ⊢
              obtain ⟨mk, hmk⟩ : ∃ b, markB u = b := ⟨_, rfl⟩
              have HMKU0 := HMK.out u wr
              rw [hmk] at HMKU0 HST HSK
              have HMKU := Lib.hid HMKU0
              have HCSH := Lib.hid HCS
              clear hu hz hs hwcell hkcell hwb hkb hmk HMKU0 HCS
              go_wp2_with fail
              refine HMKU.out.mono ?_
              rintro e w' ⟨rfl, rfl⟩
              cases mk
              · have HN := Lib.hid (show isS ((t.words.zip t.kids).take (q2 + 1)) p = s from by rw [HTZ.out]; exact HSK.out rfl)
                clear HST HSK HCSH
                go_wp2_with fail
                go_round
                case rel => exact ⟨q2 + 1, by omega, by go_num, by first | (rw [HN.out]; done) | (rw [HN.out]; rfl)⟩
                case measure => first | (simp [intOf]; done) | (simp [intOf]; omega)
              · have HN0 := Lib.hid (show isS ((t.words.zip t.kids).take (q2 + 1)) p = if z = (p : Int) ∧ s ≠ tiW then u else s from by rw [HTZ.out]; exact HST.out rfl)
                clear HST HSK
                by_cases hzp : z = (p : Int)
                · have hqz : (z == (p : Int)) = true := by rw [beq_iff_eq]; exact hzp
                  rcases HCSH.out with e | e | e
                  · have HN := Lib.hid (show isS ((t.words.zip t.kids).take (q2 + 1)) p = ⟨#[126]⟩ from by rw [HN0.out, if_neg (fun g => g.2 e), e]; rfl)
                    have e2 : s = ⟨#[126]⟩ := e
                    subst e2
                    clear hzp HN0 e HCSH
                    go_wp2_with fail
                    go_round
                    case rel => exact ⟨q2 + 1, by omega, by go_num, by first | (rw [HN.out]; done) | (rw [HN.out]; rfl)⟩
                    case measure => first | (simp [intOf]; done) | (simp [intOf]; omega)
                  · have HN := Lib.hid (show isS ((t.words.zip t.kids).take (q2 + 1)) p = u from by rw [HN0.out, if_pos ⟨hzp, by rw [e]; exact fun g => ti_ne g.symm⟩])
                    have e2 : s = ⟨#[61]⟩ := e
                    subst e2
                    clear hzp HN0 e HCSH
                    go_wp2_with fail
                    go_round
                    case rel => exact ⟨q2 + 1, by omega, by go_num, by first | (rw [HN.out]; done) | (rw [HN.out]; rfl)⟩
                    case measure => first | (simp [intOf]; done) | (simp [intOf]; omega)
                  · have HN := Lib.hid (show isS ((t.words.zip t.kids).take (q2 + 1)) p = u from by rw [HN0.out, if_pos ⟨hzp, by rw [e]; decide⟩])
                    subst e
                    clear hzp HN0 HCSH
                    go_wp2_with fail
                    go_round
                    case rel => exact ⟨q2 + 1, by omega, by go_num, by first | (rw [HN.out]; done) | (rw [HN.out]; rfl)⟩
                    case measure => first | (simp [intOf]; done) | (simp [intOf]; omega)
                · have hqz : (z == (p : Int)) = false := by rw [beq_eq_false_iff_ne]; exact hzp
                  have HN := Lib.hid (show isS ((t.words.zip t.kids).take (q2 + 1)) p = s from by rw [HN0.out, if_neg (fun g => hzp g.1)])
                  clear hzp HN0 HCSH
                  go_wp2_with fail
                  go_round
                  case rel => exact ⟨q2 + 1, by omega, by go_num, by first | (rw [HN.out]; done) | (rw [HN.out]; rfl)⟩
                  case measure => first | (simp [intOf]; done) | (simp [intOf]; omega)
            · obtain rfl : q2 = q := by omega
              rw [HPS.out]
              have HTS := Lib.hid (termP_succ p (t.words.zip t.kids))
              have HIM := Lib.hid (isS_mark (t.words.zip t.kids) p)
              have hcs := isS_cases (t.words.zip t.kids) p
              have hl1 := termP_len p (t.words.zip t.kids)
              obtain ⟨ws1, hws1⟩ : ∃ x, ws0 ++ (termP p (t.words.zip t.kids)).map (·.1) = x := ⟨_, rfl⟩
              obtain ⟨ks1, hks1⟩ : ∃ x, ks0 ++ (termP p (t.words.zip t.kids)).map (·.2) = x := ⟨_, rfl⟩
              have hlw1 : ws1.length ≤ 2000 := by rw [← hws1, List.length_append, List.length_map]; omega
              have hlk1 : ks1.length ≤ 2000 := by rw [← hks1, List.length_append, List.length_map]; omega
              rw [hws1, hks1] at TR
              have HNX := Lib.hid (fun (s : ByteArray) (h : markP (t.words.zip t.kids) p = [(s, (p : Int))]) => show ws0 ++ (termP (p + 1) (t.words.zip t.kids)).map (·.1) = ws1 ++ [s] ∧ ks0 ++ (termP (p + 1) (t.words.zip t.kids)).map (·.2) = ks1 ++ [(p : Int)] from by
                rw [HTS.out, h, List.map_append, List.map_append, ← hws1, ← hks1]
                simp)
              have HN0 := Lib.hid (fun (h : markP (t.words.zip t.kids) p = []) => show ws0 ++ (termP (p + 1) (t.words.zip t.kids)).map (·.1) = ws1 ∧ ks0 ++ (termP (p + 1) (t.words.zip t.kids)).map (·.2) = ks1 from by
                rw [HTS.out, h, List.append_nil, ← hws1, ← hks1]
                exact ⟨rfl, rfl⟩)
              have cw3 := TR.out.box.cell 3
              simp only [List.getElem?_toArray, List.getElem?_cons_zero, List.getElem?_cons_succ] at cw3
              obtain ⟨s, hs⟩ : ∃ s, isS (t.words.zip t.kids) p = s := ⟨_, rfl⟩
              rw [hs] at hcs HIM ⊢
              clear hws1 hks1 hs hl1 cm3 cm4
              rcases hcs with e | e | e
              · have e2 : s = ⟨#[126]⟩ := e
                subst e2
                have HM1 := Lib.hid (HNX.out ⟨#[126]⟩ (by rw [HIM.out, if_neg (by decide)]))
                clear HNX HN0 e
                have HNX := HM1
                have HOW := Lib.hid (show wr.ownsRow W3.heap.size 9 1 wv2 ws1.length (strC ws1) from TR.out.wr)
                have HSZ := Lib.hid (show W3.heap.size ≤ wr.heap.size from TR.out.gr.size)
                go_wp2_with (at_builtin; refine wpList_append_own_at _ rfl _ _ 39 rfl W3.heap.size 9 s0 (.string ⟨#[]⟩) 1 16 Tryz.underlying39 hsi hs0 hs1 hs2 rfl (by decide) _ ws1.length (strC ws1) rfl (HOW.out.alloc _) ⟨wr.heap.size, 0, none⟩ 1 1 [.string ⟨#[126]⟩] rfl ?x1 ?x2 ?x3 ?x4 ?x5 ?x6 ?_)
                case x3 => rfl
                case x4 => unfold maxLen; omega
                case x5 => omega
                case x6 => have := HSZ.out; simp; omega
                intro v5 w5 hown5 hgrow5 _ hblk5
                have T5 := Lib.hid ((TR.out.kept (show Below wr.heap.size wr _ from (Below.refl _ _).alloc (Nat.le_refl _) (.cells #[.string ⟨#[126]⟩] 9))).pushW hgrow5 hown5 (by simpa using hblk5))
                obtain ⟨aov5, acv5, ev5, -, -⟩ := ownW_row T5.out.wr
                rw [List.length_append, List.length_singleton] at ev5
                subst ev5
                have T5S := Lib.hid (T5.out.store3 (.slice aov5 (ws1.length + 1) acv5))
                have f53 := T5.out.box.free 3
                have c53 := T5.out.box.cell 3
                have c54 := T5S.out.box.cell 4
                simp only [List.getElem?_toArray, List.getElem?_cons_zero, List.getElem?_cons_succ] at c53 c54
                clear hown5 hgrow5 hblk5 HOW cw3
                obtain ⟨wz, hwz⟩ : ∃ wz, w5.setCell ⟨mb, 3, none⟩ (.slice aov5 (ws1.length + 1) acv5) = wz := ⟨_, rfl⟩
                rw [hwz] at T5S c54
                have TZ := T5S
                have HOK := Lib.hid (show wz.ownsRow W3.heap.size 3 1 kv2 ks1.length (intC ks1) from TZ.out.kr)
                have HSZ2 := Lib.hid (show W3.heap.size ≤ wz.heap.size from TZ.out.gr.size)
                go_wp2_with (at_builtin; refine wpList_append_own_at _ rfl _ _ 23 rfl W3.heap.size 3 k0 (.int .i64 0) 1 8 Tryz.underlying23 hki hk0 hk1 hk2 rfl (by decide) _ ks1.length (intC ks1) rfl (HOK.out.alloc _) ⟨wz.heap.size, 0, none⟩ 1 1 [.int .i64 (p : Int)] rfl ?y1 ?y2 ?y3 ?y4 ?y5 ?y6 ?_)
                case y1 => rfl
                case y2 => exact cell_news _ _ _
                case y3 => exact fun v hv => by rw [List.mem_singleton.1 hv]; rfl
                case y4 => unfold maxLen; omega
                case y5 => omega
                case y6 => have := HSZ2.out; simp; omega
                intro v6 w6 hown6 hgrow6 _ hblk6
                have T6 := Lib.hid ((TZ.out.kept (show Below wz.heap.size wz _ from (Below.refl _ _).alloc (Nat.le_refl _) (.cells #[.int .i64 (p : Int)] 3))).pushK hgrow6 hown6 (by simpa using hblk6))
                obtain ⟨aov6, acv6, ev6, -, -⟩ := ownK_row T6.out.kr
                rw [List.length_append, List.length_singleton] at ev6
                subst ev6
                have T6S := Lib.hid (T6.out.store4 (.slice aov6 (ks1.length + 1) acv6))
                have f64 := T6.out.box.free 4
                have c64 := T6.out.box.cell 4
                simp only [List.getElem?_toArray, List.getElem?_cons_zero, List.getElem?_cons_succ] at c64
                clear hown6 hgrow6 hblk6 HOK HSZ HSZ2 f53 c53 c54 hwz
                go_wp2_with fail
                go_roundw
                case rel => exact ⟨p + 1, _, _, by omega, by go_num, Lib.hid (by rw [HNX.out.1, HNX.out.2]; exact T6S.out)⟩
                case measure => first | (simp [intOf]; done) | (simp [intOf]; omega)
              · have e2 : s = ⟨#[61]⟩ := e
                subst e2
                have HM1 := Lib.hid (HNX.out ⟨#[61]⟩ (by rw [HIM.out, if_neg (by decide)]))
                clear HNX HN0 e
                have HNX := HM1
                have HOW := Lib.hid (show wr.ownsRow W3.heap.size 9 1 wv2 ws1.length (strC ws1) from TR.out.wr)
                have HSZ := Lib.hid (show W3.heap.size ≤ wr.heap.size from TR.out.gr.size)
                go_wp2_with (at_builtin; refine wpList_append_own_at _ rfl _ _ 39 rfl W3.heap.size 9 s0 (.string ⟨#[]⟩) 1 16 Tryz.underlying39 hsi hs0 hs1 hs2 rfl (by decide) _ ws1.length (strC ws1) rfl (HOW.out.alloc _) ⟨wr.heap.size, 0, none⟩ 1 1 [.string ⟨#[61]⟩] rfl ?u1 ?u2 ?u3 ?u4 ?u5 ?u6 ?_)
                case u3 => rfl
                case u4 => unfold maxLen; omega
                case u5 => omega
                case u6 => have := HSZ.out; simp; omega
                intro v5 w5 hown5 hgrow5 _ hblk5
                have T5 := Lib.hid ((TR.out.kept (show Below wr.heap.size wr _ from (Below.refl _ _).alloc (Nat.le_refl _) (.cells #[.string ⟨#[61]⟩] 9))).pushW hgrow5 hown5 (by simpa using hblk5))
                obtain ⟨aov5, acv5, ev5, -, -⟩ := ownW_row T5.out.wr
                rw [List.length_append, List.length_singleton] at ev5
                subst ev5
                have T5S := Lib.hid (T5.out.store3 (.slice aov5 (ws1.length + 1) acv5))
                have f53 := T5.out.box.free 3
                have c53 := T5.out.box.cell 3
                have c54 := T5S.out.box.cell 4
                simp only [List.getElem?_toArray, List.getElem?_cons_zero, List.getElem?_cons_succ] at c53 c54
                clear hown5 hgrow5 hblk5 HOW cw3
                obtain ⟨wz, hwz⟩ : ∃ wz, w5.setCell ⟨mb, 3, none⟩ (.slice aov5 (ws1.length + 1) acv5) = wz := ⟨_, rfl⟩
                rw [hwz] at T5S c54
                have TZ := T5S
                have HOK := Lib.hid (show wz.ownsRow W3.heap.size 3 1 kv2 ks1.length (intC ks1) from TZ.out.kr)
                have HSZ2 := Lib.hid (show W3.heap.size ≤ wz.heap.size from TZ.out.gr.size)
                go_wp2_with (at_builtin; refine wpList_append_own_at _ rfl _ _ 23 rfl W3.heap.size 3 k0 (.int .i64 0) 1 8 Tryz.underlying23 hki hk0 hk1 hk2 rfl (by decide) _ ks1.length (intC ks1) rfl (HOK.out.alloc _) ⟨wz.heap.size, 0, none⟩ 1 1 [.int .i64 (p : Int)] rfl ?v1 ?v2 ?v3 ?v4 ?v5 ?v6 ?_)
                case v1 => rfl
                case v2 => exact cell_news _ _ _
                case v3 => exact fun v hv => by rw [List.mem_singleton.1 hv]; rfl
                case v4 => unfold maxLen; omega
                case v5 => omega
                case v6 => have := HSZ2.out; simp; omega
                intro v6 w6 hown6 hgrow6 _ hblk6
                have T6 := Lib.hid ((TZ.out.kept (show Below wz.heap.size wz _ from (Below.refl _ _).alloc (Nat.le_refl _) (.cells #[.int .i64 (p : Int)] 3))).pushK hgrow6 hown6 (by simpa using hblk6))
                obtain ⟨aov6, acv6, ev6, -, -⟩ := ownK_row T6.out.kr
                rw [List.length_append, List.length_singleton] at ev6
                subst ev6
                have T6S := Lib.hid (T6.out.store4 (.slice aov6 (ks1.length + 1) acv6))
                have f64 := T6.out.box.free 4
                have c64 := T6.out.box.cell 4
                simp only [List.getElem?_toArray, List.getElem?_cons_zero, List.getElem?_cons_succ] at c64
                clear hown6 hgrow6 hblk6 HOK HSZ HSZ2 f53 c53 c54 hwz
                go_wp2_with fail
                go_roundw
                case rel => exact ⟨p + 1, _, _, by omega, by go_num, Lib.hid (by rw [HNX.out.1, HNX.out.2]; exact T6S.out)⟩
                case measure => first | (simp [intOf]; done) | (simp [intOf]; omega)
              · subst e
                have HM1 := Lib.hid (HN0.out (by rw [HIM.out, if_pos rfl]))
                clear HNX HN0
                go_wp2_with fail
                go_roundw
                case rel => exact ⟨p + 1, _, _, by omega, by go_num, Lib.hid (by rw [HM1.out.1, HM1.out.2]; exact TR.out)⟩
                case measure => first | (simp [intOf]; done) | (simp [intOf]; omega)
        · obtain rfl : p = n := by omega
          have HWD := Lib.hid (show ws0 ++ (termP p (t.words.zip t.kids)).map (·.1) = (tidyT p t).words from by
            rw [HFIN.out.1]
            show _ = (plainP t ++ termP p (t.words.zip t.kids)).map (·.1)
            rw [List.map_append]
            rfl)
          have HKD := Lib.hid (show ks0 ++ (termP p (t.words.zip t.kids)).map (·.2) = (tidyT p t).kids from by
            rw [HFIN.out.2]
            show _ = (plainP t ++ termP p (t.words.zip t.kids)).map (·.2)
            rw [List.map_append]
            rfl)
          have TF := TR.out
          rw [HWD.out, HKD.out] at TF
          have HTF := Lib.hid TF
          obtain ⟨aw, cw, ew, -, hcw⟩ := ownW_row TF.wr
          obtain ⟨ak, ck, ek, -, hck⟩ := ownK_row TF.kr
          have HCP := Lib.hid (And.intro hcw hck)
          obtain ⟨lW, hlW⟩ : ∃ x, (tidyT p t).words.length = x := ⟨_, rfl⟩
          obtain ⟨lK, hlK⟩ : ∃ x, (tidyT p t).kids.length = x := ⟨_, rfl⟩
          rw [hlW] at ew
          rw [hlK] at ek
          subst ew
          subst ek
          have HLW := Lib.hid (And.intro hlW hlK)
          obtain ⟨e0, e1, e2, e3, e4⟩ := cell5 HTF.out.box
          have M2 := HTF.out.old K2.out HNB.out
          obtain ⟨f0, f1, f2, f3, f4⟩ := cell5 M2
          have g0 := M2.free 0
          have g1 := M2.free 1
          have g2 := M2.free 2
          have g3 := M2.free 3
          have g4 := M2.free 4
          clear M2 TF hcw hck hlW hlK TR
          go_wp2_with fail
          refine bodyPost_ret (v := .agg #[.int .i64 t.kind, .string t.name, .int .i64 t.n, .slice aw lW cw, .slice ak lK ck]) (by simp [results, Tryz.results26, go_sem, f0, f1, f2, f3, f4]) rfl ?_
          obtain ⟨aw', cw', ew', rw1, -⟩ := ownW_row (rowW_set5 HTF.out.wr HNB3.out (.int .i64 t.kind) (.string t.name) (.int .i64 t.n) (.slice aw lW cw) (.slice ak lK ck))
          obtain ⟨ak', ck', ek', rk1, -⟩ := ownK_row (rowK_set5 HTF.out.kr HNB3.out (.int .i64 t.kind) (.string t.name) (.int .i64 t.n) (.slice aw lW cw) (.slice ak lK ck))
          injection ew' with ea _ _
          injection ek' with eb _ _
          subst ea
          subst eb
          refine ⟨aw, ak, cw, ck, ?_, HCP.out.1, HCP.out.2, rw1, rk1, fun a ha => by (subst ha; have g1 := (World.ownsRow.lt HTF.out.wr a.block rfl).1; have g2 := BW.out.size; omega), fun a ha => by (subst ha; have g1 := (World.ownsRow.lt HTF.out.kr a.block rfl).1; have g2 := BW.out.size; omega), below_set5 (HC1.out _ HTF.out.any) HNB2.out _ _ _ _ _⟩
          unfold tyV
          rw [HLW.out.1, HLW.out.2]
          rfl
end Go.Proofs.YtleiaghegokjkaaGreatDoor
/- Rows apart from a block, and the reference's Add over them. -/
namespace Go.Proofs.YtleiaghegokjkaaGreatDoor
open Go.RowKit
set_option linter.unusedSimpArgs false
set_option linter.unusedVariables false

/-- Rows that lie in no cell of block c. -/
def SRowA (c d : Nat) (w : World) (ao : Option Addr) (ss : List ByteArray) : Prop :=
  ss = [] ∨ ∃ b off, ao = some ⟨b, off, none⟩ ∧ b < w.heap.size ∧ (b ≠ c ∧ b ≠ d) ∧ ∀ i, i < ss.length → w.cell? ⟨b, off + i, none⟩ = some (.string (ss.getD i ⟨#[]⟩))
def IRowA (c d : Nat) (w : World) (ao : Option Addr) (zs : List Int) : Prop :=
  zs = [] ∨ ∃ b off, ao = some ⟨b, off, none⟩ ∧ b < w.heap.size ∧ (b ≠ c ∧ b ≠ d) ∧ ∀ i, i < zs.length → w.cell? ⟨b, off + i, none⟩ = some (.int .i64 (zs.getD i 0))
structure TyCA (c d : Nat) (w : World) (wo ko : Option Addr) (t : Ty) : Prop where
  words : SRowA c d w wo t.words
  kids : IRowA c d w ko t.kids
  ok : TyOk t
def ARowA (c d : Nat) (w : World) (ao : Option Addr) (l : List Ty) : Prop :=
  l = [] ∨ ∃ b off, ao = some ⟨b, off, none⟩ ∧ b < w.heap.size ∧ (b ≠ c ∧ b ≠ d) ∧ ∀ i (h : i < l.length), ∃ wo wc ko kc, w.cell? ⟨b, off + i * 5, none⟩ = some (.int .i64 l[i].kind) ∧ w.cell? ⟨b, off + i * 5 + 1, none⟩ = some (.string l[i].name) ∧ w.cell? ⟨b, off + i * 5 + 2, none⟩ = some (.int .i64 l[i].n) ∧
    w.cell? ⟨b, off + i * 5 + 3, none⟩ = some (.slice wo l[i].words.length wc) ∧ w.cell? ⟨b, off + i * 5 + 4, none⟩ = some (.slice ko l[i].kids.length kc) ∧ l[i].words.length ≤ wc ∧ l[i].kids.length ≤ kc ∧ TyCA c d w wo ko l[i]
theorem TyCA.out {c d : Nat} {w : World} {wo ko : Option Addr} {t : Ty} (h : TyCA c d w wo ko t) : TyC w wo ko t := by
  obtain ⟨h1, h2, h3⟩ := h
  refine ⟨?_, ?_, h3⟩
  · rcases h1 with h | ⟨b, off, e, l, _, cc⟩
    · exact .inl h
    · exact .inr ⟨b, off, e, l, cc⟩
  · rcases h2 with h | ⟨b, off, e, l, _, cc⟩
    · exact .inl h
    · exact .inr ⟨b, off, e, l, cc⟩
theorem ARowA.out {c d : Nat} {w : World} {ao : Option Addr} {l : List Ty} (h : ARowA c d w ao l) : ARow w ao l := by
  rcases h with h | ⟨b, off, e, hl, _, cc⟩
  · exact .inl h
  · refine .inr ⟨b, off, e, hl, fun i hi => ?_⟩
    obtain ⟨wo, wc, ko, kc, h1, h2, h3, h4, h5, h6, h7, h8⟩ := cc i hi
    exact ⟨wo, wc, ko, kc, h1, h2, h3, h4, h5, h6, h7, h8.out⟩
/-- What holds from a world on to one whose cells apart from c are the same. -/
def SameA (c : Nat) (w w' : World) : Prop := w.heap.size ≤ w'.heap.size ∧ ∀ b o, b < w.heap.size → b ≠ c → w'.cell? ⟨b, o, none⟩ = w.cell? ⟨b, o, none⟩
theorem SameA.refl (c : Nat) (w : World) : SameA c w w := ⟨Nat.le_refl _, fun _ _ _ _ => rfl⟩
theorem SameA.trans {c : Nat} {w w1 w2 : World} (h : SameA c w w1) (h2 : SameA c w1 w2) : SameA c w w2 := ⟨Nat.le_trans h.1 h2.1, fun b o hb hc => (h2.2 b o (Nat.lt_of_lt_of_le hb h.1) hc).trans (h.2 b o hb hc)⟩
theorem SameA.below {c : Nat} {w w' : World} (h : Below w.heap.size w w') : SameA c w w' := ⟨h.size, fun b o hb _ => h.cell hb⟩
theorem SameA.set (c k : Nat) (w : World) (v : Value) : SameA c w (w.setCell ⟨c, k, none⟩ v) :=
  ⟨by simp, fun b o hb hc => World.cell?_of_block (a := ⟨b, o, none⟩) (Below.heap_setCell _ _ _ _ hc)⟩
theorem TyCA.same {c d : Nat} {w w' : World} {wo ko : Option Addr} {t : Ty} (h : TyCA c d w wo ko t) (hs : SameA c w w') : TyCA c d w' wo ko t := by
  obtain ⟨h1, h2, h3⟩ := h
  refine ⟨?_, ?_, h3⟩
  · rcases h1 with h | ⟨b, off, e, l, n, cc⟩
    · exact .inl h
    · exact .inr ⟨b, off, e, Nat.lt_of_lt_of_le l hs.1, n, fun i hi => (hs.2 _ _ l n.1).trans (cc i hi)⟩
  · rcases h2 with h | ⟨b, off, e, l, n, cc⟩
    · exact .inl h
    · exact .inr ⟨b, off, e, Nat.lt_of_lt_of_le l hs.1, n, fun i hi => (hs.2 _ _ l n.1).trans (cc i hi)⟩
theorem ARowA.same {c d : Nat} {w w' : World} {ao : Option Addr} {l : List Ty} (h : ARowA c d w ao l) (hs : SameA c w w') : ARowA c d w' ao l := by
  rcases h with h | ⟨b, off, e, hl, n, cc⟩
  · exact .inl h
  · refine .inr ⟨b, off, e, Nat.lt_of_lt_of_le hl hs.1, n, fun i hi => ?_⟩
    obtain ⟨wo, wc, ko, kc, h1, h2, h3, h4, h5, h6, h7, h8⟩ := cc i hi
    exact ⟨wo, wc, ko, kc, (hs.2 _ _ hl n.1).trans h1, (hs.2 _ _ hl n.1).trans h2, (hs.2 _ _ hl n.1).trans h3, (hs.2 _ _ hl n.1).trans h4, (hs.2 _ _ hl n.1).trans h5, h6, h7, h8.same hs⟩
theorem TyCA.swap {c d : Nat} {w : World} {wo ko : Option Addr} {t : Ty} (h : TyCA c d w wo ko t) : TyCA d c w wo ko t := by
  obtain ⟨h1, h2, h3⟩ := h
  refine ⟨?_, ?_, h3⟩
  · rcases h1 with h | ⟨b, off, e, l, n, cc⟩
    · exact .inl h
    · exact .inr ⟨b, off, e, l, n.symm, cc⟩
  · rcases h2 with h | ⟨b, off, e, l, n, cc⟩
    · exact .inl h
    · exact .inr ⟨b, off, e, l, n.symm, cc⟩
theorem ARowA.swap {c d : Nat} {w : World} {ao : Option Addr} {l : List Ty} (h : ARowA c d w ao l) : ARowA d c w ao l := by
  rcases h with h | ⟨b, off, e, hl, n, cc⟩
  · exact .inl h
  · refine .inr ⟨b, off, e, hl, n.symm, fun i hi => ?_⟩
    obtain ⟨wo, wc, ko, kc, h1, h2, h3, h4, h5, h6, h7, h8⟩ := cc i hi
    exact ⟨wo, wc, ko, kc, h1, h2, h3, h4, h5, h6, h7, h8.swap⟩
theorem own_arowA {c d : Nat} {w : World} {base : Nat} {v : Value} {l : List Tz} (h : OwnZ w base v l) (hc : c < base ∧ d < base) (hz : ∀ z ∈ l, z.t.words.length ≤ z.wc ∧ z.t.kids.length ≤ z.kc ∧ TyCA c d w z.wo z.ko z.t) : ∃ ao cap, v = .slice ao (l.map (·.t)).length cap ∧ ARowA c d w ao (l.map (·.t)) ∧ (l.map (·.t)).length ≤ cap := by
  obtain ⟨h1, h2⟩ := h
  rcases h2 with ⟨rfl, h0⟩ | ⟨g, cap, cur, rfl, hg, hcur, hcap1, hcap2, hcs, htk⟩
  · exact ⟨none, 0, by rw [List.length_map, h0], .inl (by rw [List.map_eq_nil_iff]; exact List.eq_nil_of_length_eq_zero h0), by rw [List.length_map, h0]; exact Nat.le_refl _⟩
  · refine ⟨_, _, by rw [List.length_map], .inr ⟨g, 0, rfl, (Array.getElem?_eq_some_iff.1 hcur).1, by omega, fun k hk => ?_⟩, by rw [List.length_map]; exact hcap1⟩
    rw [List.length_map] at hk
    obtain ⟨c0, c1, c2, c3, c4⟩ := tzC_at l k hk
    have e : ∀ j, j < l.length * 5 → w.cell? ⟨g, j, none⟩ = (tzC l)[j]? := fun j hj => by
      simp only [World.cell?, hcur, Option.isSome_none, Bool.false_eq_true, if_false]
      rw [← htk, List.getElem?_take_of_lt hj]
      simp
    obtain ⟨i1, i2, i3⟩ := hz _ (List.getElem_mem hk)
    rw [List.getElem_map, Nat.zero_add]
    exact ⟨l[k].wo, l[k].wc, l[k].ko, l[k].kc, (e _ (by omega)).trans c0, (e _ (by omega)).trans c1, (e _ (by omega)).trans c2, (e _ (by omega)).trans c3, (e _ (by omega)).trans c4, i1, i2, i3⟩
def InZA (c d : Nat) (w : World) (z : Tz) : Prop := z.t.words.length ≤ z.wc ∧ z.t.kids.length ≤ z.kc ∧ TyCA c d w z.wo z.ko z.t
theorem InZA.same {c d : Nat} {w w' : World} {z : Tz} (h : InZA c d w z) (hs : SameA c w w') : InZA c d w' z := ⟨h.1, h.2.1, h.2.2.same hs⟩
theorem InZA.out {c d : Nat} {w : World} {z : Tz} (h : InZA c d w z) : InZ w z := ⟨h.1, h.2.1, h.2.2.out⟩
/-- A type's five cells, its rows apart from block c. -/
def TyAtA (c d : Nat) (w : World) (b o : Nat) (t : Ty) : Prop :=
  ∃ wo wc ko kc, w.cell? ⟨b, o, none⟩ = some (.int .i64 t.kind) ∧ w.cell? ⟨b, o + 1, none⟩ = some (.string t.name) ∧ w.cell? ⟨b, o + 2, none⟩ = some (.int .i64 t.n) ∧
    w.cell? ⟨b, o + 3, none⟩ = some (.slice wo t.words.length wc) ∧ w.cell? ⟨b, o + 4, none⟩ = some (.slice ko t.kids.length kc) ∧ t.words.length ≤ wc ∧ t.kids.length ≤ kc ∧ TyCA c d w wo ko t
theorem ARowA.cells {c d : Nat} {w : World} {ao : Option Addr} {l : List Ty} (h : ARowA c d w ao l) (hn : 0 < l.length) : ∃ b off, ao = some ⟨b, off, none⟩ ∧ b < w.heap.size ∧ ∀ i (h : i < l.length), TyAtA c d w b (off + i * 5) l[i] := by
  rcases h with h | ⟨b, off, e, h1, h2, h3⟩
  · rw [h] at hn; exact absurd hn (by simp)
  · exact ⟨b, off, e, h1, h3⟩
theorem arow_zsA {c d : Nat} {w : World} {b off : Nat} {l : List Ty} (h : ∀ i (h : i < l.length), TyAtA c d w b (off + i * 5) l[i]) : ∀ n, n ≤ l.length → ∃ zs : List Tz, zs.map (·.t) = l.take n ∧ zs.length = n ∧ (∀ z ∈ zs, InZA c d w z) ∧ ∀ j u, (tzC zs)[j]? = some u → w.cell? ⟨b, off + j, none⟩ = some u
  | 0, _ => ⟨[], by simp, rfl, by simp, fun j u hu => by simp [tzC] at hu⟩
  | n + 1, hn => by
    obtain ⟨zs, h1, h2, h3, h4⟩ := arow_zsA h n (by omega)
    obtain ⟨wo, wc, ko, kc, c0, c1, c2, c3, c4, q1, q2, q3⟩ := h n (by omega)
    refine ⟨zs ++ [⟨l[n], wo, wc, ko, kc⟩], ?_, by rw [List.length_append, h2]; rfl, fun z hz => ?_, fun j u hu => ?_⟩
    · rw [List.map_append, h1, List.take_add_one, List.getElem?_eq_getElem (by omega)]; rfl
    · rcases List.mem_append.1 hz with hz | hz
      · exact h3 z hz
      · rw [List.mem_singleton.1 hz]; exact ⟨q1, q2, q3⟩
    · rw [tzC_add] at hu
      have hl := tzC_len zs
      rw [h2] at hl
      by_cases hj : j < n * 5
      · rw [List.getElem?_append_left (by omega)] at hu
        exact h4 j u hu
      · rw [List.getElem?_append_right (by omega), hl] at hu
        obtain ⟨r, hr⟩ : ∃ r, j = n * 5 + r := ⟨j - n * 5, by omega⟩
        subst hr
        rw [show n * 5 + r - n * 5 = r by omega] at hu
        rw [← Nat.add_assoc]
        match r, hu with
        | 0, hu => simp [tzC1] at hu; rw [← hu]; exact c0
        | 1, hu => simp [tzC1] at hu; rw [← hu]; exact c1
        | 2, hu => simp [tzC1] at hu; rw [← hu]; exact c2
        | 3, hu => simp [tzC1] at hu; rw [← hu]; exact c3
        | 4, hu => simp [tzC1] at hu; rw [← hu]; exact c4
        | r + 5, hu => simp [tzC1] at hu
theorem ARowA.fresh {c d : Nat} {w : World} {ao : Option Addr} {l : List Ty} (h : ARow w ao l) (hc : w.heap.size ≤ c ∧ w.heap.size ≤ d) : ARowA c d w ao l := by
  rcases h with h | ⟨b, off, e, h1, h2⟩
  · exact .inl h
  · refine .inr ⟨b, off, e, h1, by omega, fun i hi => ?_⟩
    obtain ⟨wo, wc, ko, kc, c0, c1, c2, c3, c4, g1, g2, g3⟩ := h2 i hi
    refine ⟨wo, wc, ko, kc, c0, c1, c2, c3, c4, g1, g2, ?_, ?_, g3.ok⟩
    · rcases g3.words with g | ⟨b, off, e, l, cc⟩
      · exact .inl g
      · exact .inr ⟨b, off, e, l, by omega, cc⟩
    · rcases g3.kids with g | ⟨b, off, e, l, cc⟩
      · exact .inl g
      · exact .inr ⟨b, off, e, l, by omega, cc⟩
theorem ARowA.to {c d c2 : Nat} {w : World} {ao : Option Addr} {l : List Ty} (h : ARowA c d w ao l) (hc : w.heap.size ≤ c2) : ARowA c2 d w ao l := by
  rcases h with h | ⟨b, off, e, h1, n1, h2⟩
  · exact .inl h
  · refine .inr ⟨b, off, e, h1, ⟨by omega, n1.2⟩, fun i hi => ?_⟩
    obtain ⟨wo, wc, ko, kc, c0, c1, c2, c3, c4, g1, g2, g3⟩ := h2 i hi
    refine ⟨wo, wc, ko, kc, c0, c1, c2, c3, c4, g1, g2, ?_, ?_, g3.ok⟩
    · rcases g3.words with g | ⟨b, off, e, l, n2, cc⟩
      · exact .inl g
      · exact .inr ⟨b, off, e, l, ⟨by omega, n2.2⟩, cc⟩
    · rcases g3.kids with g | ⟨b, off, e, l, n2, cc⟩
      · exact .inl g
      · exact .inr ⟨b, off, e, l, ⟨by omega, n2.2⟩, cc⟩
theorem SameA.grown {c : Nat} {w w' : World} (h : w.grownBy w' (some c)) : SameA c w w' := ⟨h.size, fun b o hb hn => World.cell?_of_block (a := ⟨b, o, none⟩) (h.block b hb (fun e => hn (by injection e)))⟩
theorem ARowA.grow {c d c2 : Nat} {w w' : World} {ao : Option Addr} {l : List Ty} (h : ARowA c d w ao l) (hg : w.grownBy w' (some c)) (hd : c2 = c ∨ w.heap.size ≤ c2) : ARowA c2 d w' ao l := by
  rcases hd with rfl | hd
  · exact h.same (SameA.grown hg)
  · have h1 := ARowA.to h hd
    have h2 := h.same (SameA.grown hg)
    rcases h2 with g | ⟨b, off, e, l1, n1, cc⟩
    · exact .inl g
    · rcases h1 with g | ⟨b', off', e', l1', n1', cc'⟩
      · exact .inl g
      · rw [e] at e'
        injection e' with e'
        injection e' with e1 e2
        subst e1
        subst e2
        refine .inr ⟨b, off, e, l1, n1', fun i hi => ?_⟩
        obtain ⟨wo, wc, ko, kc, c0, c1, c2, c3, c4, g1, g2, g3⟩ := cc i hi
        obtain ⟨wo', wc', ko', kc', c0', c1', c2', c3', c4', -, -, g3'⟩ := cc' i hi
        have k3 : w'.cell? ⟨b, off + i * 5 + 3, none⟩ = some (.slice wo' l[i].words.length wc') := (World.cell?_of_block (a := ⟨b, off + i * 5 + 3, none⟩) (hg.block b l1' (fun e => by injection e with e; exact n1.1 e))).trans c3'
        have k4 : w'.cell? ⟨b, off + i * 5 + 4, none⟩ = some (.slice ko' l[i].kids.length kc') := (World.cell?_of_block (a := ⟨b, off + i * 5 + 4, none⟩) (hg.block b l1' (fun e => by injection e with e; exact n1.1 e))).trans c4'
        rw [c3] at k3
        rw [c4] at k4
        injection k3 with k3
        injection k3 with k3 _ k3'
        injection k4 with k4
        injection k4 with k4 _ k4'
        subst k3
        subst k4
        refine ⟨wo, wc, ko, kc, c0, c1, c2, c3, c4, g1, g2, ?_, ?_, g3.ok⟩
        · rcases g3.words with g | ⟨b1, o1, e1, l2, _, cc1⟩
          · exact .inl g
          · rcases g3'.words with g | ⟨b2, o2, e2, l3, n3, _⟩
            · exact .inl g
            · rw [e1] at e2
              injection e2 with e2
              injection e2 with e3 e4
              subst e3
              exact .inr ⟨b1, o1, e1, l2, n3, cc1⟩
        · rcases g3.kids with g | ⟨b1, o1, e1, l2, _, cc1⟩
          · exact .inl g
          · rcases g3'.kids with g | ⟨b2, o2, e2, l3, n3, _⟩
            · exact .inl g
            · rw [e1] at e2
              injection e2 with e2
              injection e2 with e3 e4
              subst e3
              exact .inr ⟨b1, o1, e1, l2, n3, cc1⟩
/-- What Add gives, in memory, apart from block c. -/
def AddRA (c d : Nat) (w : World) (R : List Ty × Int × Int) (e : Ending) (w' : World) : Prop := ∃ ao cap, e = .returned (.agg #[.slice ao R.1.length cap, .int .i64 R.2.1, .int .i64 R.2.2]) ∧ ARowA c d w' ao R.1 ∧ Below w.heap.size w w'
set_option maxHeartbeats 16000000 in
set_option maxRecDepth 100000 in
theorem refadd_apart (c d : Nat) (l : List Ty) (ao : Option Addr) (ac : Nat) (t : Ty) (wo ko : Option Addr) (wc kc : Nat) (w : World) (hc : c < w.heap.size ∧ d < w.heap.size) (hla : ARowA c d w ao l) (hta : TyCA c d w wo ko t) (ll : l.length ≤ 1000) (l0 : 0 < l.length) (hwc : t.words.length ≤ wc) (hkc : t.kids.length ≤ kc) :
    Calls Tryz.prog 27 #[.slice ao l.length ac, tyV t wo wc ko kc] w (AddRA c d w (addT l t)) := by
  have HAA := Lib.hid hla
  have HTA := Lib.hid hta
  have HCC := Lib.hid hc
  have hl := hla.out
  have ht := hta.out
  clear hla hta hc
  obtain ⟨R, hR⟩ : ∃ R, addT l t = R := ⟨_, rfl⟩
  rw [hR]
  have HR := Lib.hid hR
  clear hR
  obtain ⟨n, hn⟩ : ∃ n, l.length = n := ⟨_, rfl⟩
  have HN := Lib.hid hn
  have HA := Lib.hid hl
  have HT := Lib.hid ht
  obtain ⟨w1, h1⟩ : ∃ w1, w.alloc (.cells #[.int .i64 t.kind, .string t.name, .int .i64 t.n, .slice wo t.words.length wc, .slice ko t.kids.length kc] 41) = w1 := ⟨_, rfl⟩
  obtain ⟨w2, h2⟩ : ∃ w2, w1.alloc (.cells #[.slice none 0 0, .int .i64 0, .int .i64 0] 33) = w2 := ⟨_, rfl⟩
  obtain ⟨k1, q1, z1⟩ := box_new h1
  obtain ⟨k2, q2, z2⟩ := box_new h2
  have BW := Lib.hid (q1.trans (q2.mono q1.size))
  have K1 := Lib.hid (k1.below q2)
  have K2 := Lib.hid k2
  have HAT0 := fun W (h : Below w2.heap.size w2 W) => at_any l ao ac t wo ko wc kc W ((hl.below BW.out).below h) ((ht.below BW.out).below h) ll
  have HMD0 := fun W (h : Below w2.heap.size w2 W) => made_any l ao ac t wo ko wc kc W ((hl.below BW.out).below h) ((ht.below BW.out).below h) ll hwc
  unfold tyV at HAT0 HMD0 ⊢
  rw [hn] at HAT0 HMD0 l0 ll ⊢
  obtain ⟨p, hp⟩ : ∃ p, atT l t = p := ⟨_, rfl⟩
  obtain ⟨mb, hmb⟩ : ∃ mb, madeB l t = mb := ⟨_, rfl⟩
  rw [hp] at HAT0
  rw [hmb] at HMD0
  have HP := Lib.hid hp
  have HMB := Lib.hid hmb
  have HAT := Lib.hid HAT0
  have HMD := Lib.hid HMD0
  obtain ⟨c0, c1, c2, c3, c4⟩ := cell5 K1.out
  have HW := Lib.hid (And.intro hwc hkc)
  have HZ := Lib.hid (And.intro z1 z2)
  clear hn hl ht k1 k2 q1 q2 z1 z2 HAT0 HMD0 hp hmb hwc hkc
  by_cases hge : 0 ≤ p
  · have HV := Lib.hid (show R = (l, p, 0) by rw [← HR.out]; unfold addT; rw [HP.out, if_pos hge])
    go_enter Tryz.func27, Tryz.ntmps27
    go_wp2_with fail
    refine (HAT.out _ (Below.refl _ _)).mono ?_
    rintro e w3 ⟨rfl, b3⟩
    clear h1 h2 c0 c1 c2 c3 c4
    obtain ⟨c0, c1, c2, c3, c4⟩ := cell5 (K1.out.below b3)
    have B3 := Lib.hid b3
    go_wp2_with fail
    refine (HAT.out _ B3.out).mono ?_
    rintro e w4 ⟨rfl, b4⟩
    have B4 := Lib.hid (b3.trans (b4.mono b3.size))
    clear b3 b4 c0 c1 c2 c3 c4
    have M := K2.out.below B4.out
    obtain ⟨e0, e1, e2⟩ := cell3A M
    have f0 := M.free 0
    have f1 := M.free 1
    have f2 := M.free 2
    clear M
    go_wp2_with fail
    have B5 := BW.out.trans (B4.out.mono BW.out.size)
    have BE := Lib.hid ((((B5.setCell (p := ⟨w1.heap.size, 0, none⟩) (by have := HZ.out; show w.heap.size ≤ w1.heap.size; omega) (.slice ao n ac)).setCell (p := ⟨w1.heap.size, 1, none⟩) (by have := HZ.out; show w.heap.size ≤ w1.heap.size; omega) (.int .i64 p)).setCell (p := ⟨w1.heap.size, 2, none⟩) (by have := HZ.out; show w.heap.size ≤ w1.heap.size; omega) (.int .i64 0)))
    refine bodyPost_ret (v := .agg #[.slice ao n ac, .int .i64 p, .int .i64 0]) (by simp [results, Tryz.results27, go_sem, e0, e1, e2]) rfl ?_
    rw [HV.out]
    exact ⟨ao, ac, by rw [show (l, p, (0 : Int)).1.length = n from HN.out], HAA.out.same (SameA.below BE.out), BE.out⟩
  have hlt : p < 0 := by omega
  cases mb
  · have HV := Lib.hid (show R = ([], 0, 1) by rw [← HR.out]; unfold addT; rw [HP.out, if_neg hge, if_pos HMB.out])
    go_enter Tryz.func27, Tryz.ntmps27
    go_wp2_with fail
    refine (HAT.out _ (Below.refl _ _)).mono ?_
    rintro e w3 ⟨rfl, b3⟩
    clear h1 h2 c0 c1 c2 c3 c4
    obtain ⟨c0, c1, c2, c3, c4⟩ := cell5 (K1.out.below b3)
    have B3 := Lib.hid b3
    go_wp2_with fail
    refine (HMD.out _ B3.out).mono ?_
    rintro e w4 ⟨rfl, b4⟩
    have B4 := Lib.hid (b3.trans (b4.mono b3.size))
    clear b3 b4 c0 c1 c2 c3 c4
    have M := K2.out.below B4.out
    obtain ⟨e0, e1, e2⟩ := cell3A M
    have f0 := M.free 0
    have f1 := M.free 1
    have f2 := M.free 2
    clear M
    go_wp2_with fail
    have B5 := BW.out.trans (B4.out.mono BW.out.size)
    have BE := Lib.hid ((((B5.setCell (p := ⟨w1.heap.size, 0, none⟩) (by have := HZ.out; show w.heap.size ≤ w1.heap.size; omega) (.slice none 0 0)).setCell (p := ⟨w1.heap.size, 1, none⟩) (by have := HZ.out; show w.heap.size ≤ w1.heap.size; omega) (.int .i64 0)).setCell (p := ⟨w1.heap.size, 2, none⟩) (by have := HZ.out; show w.heap.size ≤ w1.heap.size; omega) (.int .i64 1)))
    refine bodyPost_ret (v := .agg #[.slice none 0 0, .int .i64 0, .int .i64 1]) (by simp [results, Tryz.results27, go_sem, e0, e1, e2]) rfl ?_
    rw [HV.out]
    exact ⟨none, 0, rfl, .inl rfl, BE.out⟩
  by_cases h400 : n = 400
  · have HV := Lib.hid (show R = ([], 0, 7) by rw [← HR.out]; unfold addT; rw [HP.out, if_neg hge, if_neg (by rw [HMB.out]; decide), if_pos (by rw [HN.out]; exact h400)])
    have hq : ((n : Int) == 400) = true := by rw [beq_iff_eq]; omega
    clear h400
    go_enter Tryz.func27, Tryz.ntmps27
    go_wp2_with fail
    refine (HAT.out _ (Below.refl _ _)).mono ?_
    rintro e w3 ⟨rfl, b3⟩
    clear h1 h2 c0 c1 c2 c3 c4
    obtain ⟨c0, c1, c2, c3, c4⟩ := cell5 (K1.out.below b3)
    have B3 := Lib.hid b3
    go_wp2_with fail
    refine (HMD.out _ B3.out).mono ?_
    rintro e w4 ⟨rfl, b4⟩
    have B4 := Lib.hid (b3.trans (b4.mono b3.size))
    clear b3 b4 c0 c1 c2 c3 c4
    have M := K2.out.below B4.out
    obtain ⟨e0, e1, e2⟩ := cell3A M
    have f0 := M.free 0
    have f1 := M.free 1
    have f2 := M.free 2
    clear M
    go_wp2_with fail
    have B5 := BW.out.trans (B4.out.mono BW.out.size)
    have BE := Lib.hid ((((B5.setCell (p := ⟨w1.heap.size, 0, none⟩) (by have := HZ.out; show w.heap.size ≤ w1.heap.size; omega) (.slice none 0 0)).setCell (p := ⟨w1.heap.size, 1, none⟩) (by have := HZ.out; show w.heap.size ≤ w1.heap.size; omega) (.int .i64 0)).setCell (p := ⟨w1.heap.size, 2, none⟩) (by have := HZ.out; show w.heap.size ≤ w1.heap.size; omega) (.int .i64 7)))
    refine bodyPost_ret (v := .agg #[.slice none 0 0, .int .i64 0, .int .i64 7]) (by simp [results, Tryz.results27, go_sem, e0, e1, e2]) rfl ?_
    rw [HV.out]
    exact ⟨none, 0, rfl, .inl rfl, BE.out⟩
  · have HV := Lib.hid (show R = (l ++ [t], (l.length : Int), 0) by rw [← HR.out]; unfold addT; rw [HP.out, if_neg hge, if_neg (by rw [HMB.out]; decide), if_neg (by rw [HN.out]; exact h400)])
    have hq : ((n : Int) == 400) = false := by rw [beq_eq_false_iff_ne]; omega
    obtain ⟨i0, hi, hz0, hz1, hz2⟩ := info_parts info_ty
    obtain ⟨lb, lo, rfl, hlb, hlc⟩ := HAA.out.cells (by rw [HN.out]; exact l0)
    obtain ⟨zs, y1, y2, y3, y4⟩ := arow_zsA hlc l.length (Nat.le_refl _)
    rw [List.take_length] at y1
    rw [HN.out] at y2
    have Y := Lib.hid (And.intro hlb (And.intro y1 (And.intro y2 (And.intro y3 y4))))
    clear hlb hlc y1 y2 y3 y4
    go_enter Tryz.func27, Tryz.ntmps27
    go_wp2_with fail
    refine (HAT.out _ (Below.refl _ _)).mono ?_
    rintro e w3 ⟨rfl, b3⟩
    clear h1 h2 c0 c1 c2 c3 c4
    obtain ⟨c0, c1, c2, c3, c4⟩ := cell5 (K1.out.below b3)
    have B3 := Lib.hid b3
    go_wp2_with fail
    refine (HMD.out _ B3.out).mono ?_
    rintro e w4 ⟨rfl, b4⟩
    have B4 := Lib.hid (b3.trans (b4.mono b3.size))
    clear b3 b4 c0 c1 c2 c3 c4
    have O0 := Lib.hid (show OwnZ (w4.alloc (.cells #[] 41)) w2.heap.size (.slice (some ⟨w4.heap.size, 0, none⟩) 0 0) [] from World.ownsRow_made w4 #[] 0 (B4.out.size) (by unfold maxLen; omega) rfl)
    have B5 := Lib.hid (show Below w2.heap.size w2 (w4.alloc (.cells #[] 41)) from B4.out.trans (((Below.refl _ _).alloc (Nat.le_refl _) _).mono B4.out.size))
    have BA := Lib.hid (BW.out.trans (B5.out.mono BW.out.size))
    have OO := Lib.hid (show (w4.alloc (.cells #[] 41)).ownsRow w2.heap.size 41 5 (.slice (some ⟨w4.heap.size, 0, none⟩) 0 0) 0 [] from O0.out)
    go_wp2_with (at_builtin; refine wpList_append_own_at _ rfl _ _ 22 rfl w2.heap.size 41 i0 (.agg #[.int .i64 0, .string ⟨#[]⟩, .int .i64 0, .slice none 0 0, .slice none 0 0]) 5 80 Tryz.underlying22 hi hz0 hz1 hz2 rfl (by decide) _ 0 [] rfl OO.out ⟨lb, lo, none⟩ n ac (tzC zs) rfl ?c1 ?c2 ?c3 ?c4 ?c5 ?c6 ?_)
    case c1 => rw [tzC_len, Y.out.2.2.1]
    case c2 => exact fun j u hu => by rw [addr_add]; exact (BA.out.cell Y.out.1).trans (Y.out.2.2.2.2 j u hu)
    case c3 => exact tzC_one _
    case c4 => unfold maxLen; omega
    case c5 => omega
    case c6 => exact B5.out.size
    intro v6 w6 hown6 hgrow6 _ hblk6
    have hp6 := push_all0 (r := zs) (by rw [Y.out.2.2.1]; exact (Nat.zero_add n).symm) (Nat.le_refl _) O0.out B5.out hown6 hgrow6
    have O6 := Lib.hid (show OwnZ w6 w2.heap.size v6 zs from hp6.1)
    have B6 := Lib.hid hp6.2
    have hO6 := O6.out
    unfold OwnZ at hO6
    rw [Y.out.2.2.1] at hO6
    have OO6 := Lib.hid hO6
    obtain ⟨c0, c1, c2, c3, c4⟩ := cell5 (K1.out.below B6.out)
    clear hown6 hgrow6 hblk6 hp6 hO6 O0 OO
    go_wp2_with (at_builtin; refine wpList_append_own_at _ rfl _ _ 22 rfl w2.heap.size 41 i0 (.agg #[.int .i64 0, .string ⟨#[]⟩, .int .i64 0, .slice none 0 0, .slice none 0 0]) 5 80 Tryz.underlying22 hi hz0 hz1 hz2 rfl (by decide) _ n (tzC zs) rfl (OO6.out.alloc _) ⟨w6.heap.size, 0, none⟩ 1 1 (tzC1 ⟨t, wo, wc, ko, kc⟩) rfl ?c1 ?c2 ?c3 ?c4 ?c5 ?c6 ?_)
    case c1 => rfl
    case c2 => exact cell_news _ _ _
    case c3 => exact tzC1_one _
    case c4 => unfold maxLen; omega
    case c5 => omega
    case c6 => have := B6.out.size; simp; omega
    intro v7 w7 hown7 hgrow7 _ hblk7
    have hp7 := push_all (r := [⟨t, wo, wc, ko, kc⟩]) (by first | (rw [Y.out.2.2.1]; done) | (rw [Y.out.2.2.1]; rfl)) (Nat.le_refl _) O6.out B6.out (by simpa [tzC] using hown7) hgrow7
    have B7 := Lib.hid hp7.2.1
    have B7w := Lib.hid (BW.out.trans (B7.out.mono BW.out.size))
    obtain ⟨ao7, cap7, rfl, r1, r2⟩ := own_arow hp7.1 (fun z hz => by
      rcases List.mem_append.1 hz with hz | hz
      · exact (Y.out.2.2.2.1 z hz).out.below B7w.out
      · rw [List.mem_singleton.1 hz]; exact ⟨HW.out.1, HW.out.2, HT.out.below B7w.out⟩)
    have O7 := Lib.hid hp7.1
    have hmap : (zs ++ [(⟨t, wo, wc, ko, kc⟩ : Tz)]).map (·.t) = l ++ [t] := by rw [List.map_append, Y.out.2.1]; rfl
    have HMAP := Lib.hid hmap
    rw [hmap] at r1 r2 O7 ⊢
    have R1 := Lib.hid r1
    have hlen : (l ++ [t]).length = n + 1 := by rw [List.length_append, HN.out]; rfl
    rw [hlen] at O7 ⊢
    have HLEN := Lib.hid hlen
    clear hown7 hgrow7 hblk7 hp7 r1 r2 hmap hlen c0 c1 c2 c3 c4
    have M := K2.out.below B7.out
    obtain ⟨e0, e1, e2⟩ := cell3A M
    have f0 := M.free 0
    have f1 := M.free 1
    have f2 := M.free 2
    clear M
    go_wp2_with fail
    have hz1 := HZ.out
    have BE := Lib.hid ((((B7w.out.setCell (p := ⟨w1.heap.size, 0, none⟩) (by show w.heap.size ≤ w1.heap.size; omega) (.slice ao7 (n + 1) cap7)).setCell (p := ⟨w1.heap.size, 1, none⟩) (by show w.heap.size ≤ w1.heap.size; omega) (.int .i64 n)).setCell (p := ⟨w1.heap.size, 2, none⟩) (by show w.heap.size ≤ w1.heap.size; omega) (.int .i64 0)))
    refine bodyPost_ret (v := .agg #[.slice ao7 (n + 1) cap7, .int .i64 n, .int .i64 0]) (by simp [results, Tryz.results27, go_sem, e0, e1, e2]) rfl ?_
    rw [HV.out, HN.out]
    refine ⟨ao7, cap7, by rw [show (l ++ [t], (n : Int), (0 : Int)).1.length = n + 1 from HLEN.out], ?_, BE.out⟩
    have hne : (Value.slice ao7 (n + 1) cap7).ownBlock ≠ some w1.heap.size := own_not O7.out (.inl (by omega))
    have O8 := own_set (own_set (own_set O7.out hne 0 (.slice ao7 (n + 1) cap7)) hne 1 (.int .i64 n)) hne 2 (.int .i64 0)
    obtain ⟨ao8, cap8, e8, s1, s2⟩ := own_arowA O8 (c := c) (d := d) (by have := HCC.out; have := BW.out.size; omega) (fun z hz => by
      rcases List.mem_append.1 hz with hz | hz
      · exact (Y.out.2.2.2.1 z hz).same (SameA.below BE.out)
      · rw [List.mem_singleton.1 hz]; exact ⟨HW.out.1, HW.out.2, HTA.out.same (SameA.below BE.out)⟩)
    injection e8 with e8 _ _
    rw [HMAP.out] at s1
    rw [← e8] at s1
    exact s1
end Go.Proofs.YtleiaghegokjkaaGreatDoor
/- The reference's Subst. -/
namespace Go.Proofs.YtleiaghegokjkaaGreatDoor
open Go.RowKit
set_option linter.unusedSimpArgs false
set_option linter.unusedVariables false

theorem own_vals {w : World} {base gi gcap c : Nat} {I : Nat → Int} (h : OwnK w base (.slice (some ⟨gi, 0, none⟩) c gcap) (valsI I c)) : w.ownsRow base 3 1 (.slice (some ⟨gi, 0, none⟩) c gcap) c (intC (valsI I c)) := by
  unfold OwnK at h
  rwa [valsI_len] at h
theorem vals_upd (I : Nat → Int) (c : Nat) (v : Int) : valsI (updI I c v) (c + 1) = valsI I c ++ [v] := by
  rw [valsI_snoc, updI_at]
  congr 1
  unfold valsI
  apply List.map_congr_left
  intro m hm
  rw [List.mem_range] at hm
  exact updI_ne (by omega)
theorem inst_push {w3 X w' : World} {gi gcap c dd : Nat} {I : Nat → Int} {v : Int} {v' : Value} {so : Option Addr} {now : List Ty} (ho : OwnK X w3.heap.size (.slice (some ⟨gi, 0, none⟩) c gcap) (valsI I c)) (ha : ARowA gi dd X so now) (hb : Below w3.heap.size w3 X)
    (hown : w'.ownsRow w3.heap.size 3 1 v' (c + 1) (intC (valsI I c) ++ [.int .i64 v])) (hg : (X.alloc (.cells #[.int .i64 v] 3)).grownBy w' (some gi)) (hv : v'.ownBlock = some gi ∨ v'.ownBlock = some (X.heap.size + 1)) :
    ∃ gi' gcap', v' = .slice (some ⟨gi', 0, none⟩) (c + 1) gcap' ∧ OwnK w' w3.heap.size (.slice (some ⟨gi', 0, none⟩) (c + 1) gcap') (valsI (updI I c v) (c + 1)) ∧ ARowA gi' dd w' so now ∧ Below w3.heap.size w3 w' := by
  have ba : Below X.heap.size X (X.alloc (.cells #[.int .i64 v] 3)) := (Below.refl _ _).alloc (Nat.le_refl _) _
  have hb2 := hb.trans (ba.mono hb.size)
  have hlt := World.ownsRow.lt (own_vals ho) gi rfl
  have ho2 : OwnK w' w3.heap.size v' (valsI (updI I c v) (c + 1)) := by
    unfold OwnK
    rw [valsI_len, vals_upd]
    unfold intC at *
    rw [List.map_append]
    exact hown
  have hb3 := hb2.grown hg hb2.size (fun k hk => by injection hk with hk; omega)
  rcases hown.2 with ⟨_, h0⟩ | ⟨g, cap, cur, rfl, hgb, hcur, rest⟩
  · omega
  · have hv' : g = gi ∨ g = X.heap.size + 1 := by
      rcases hv with h | h
      · injection h with h; exact .inl h
      · injection h with h; exact .inr h
    refine ⟨g, cap, rfl, ho2, (ha.same (SameA.below ba)).grow hg ?_, hb3⟩
    rcases hv' with h | h
    · exact .inl h
    · right
      simp
      omega
theorem kind7_name {l : List Ty} (hr : rightT l = true) {j : Nat} (hj : j < l.length) (h7 : l[j].kind = 7) : l[j].name = ⟨#[]⟩ := by
  by_cases h22 : j < 22
  · rw [right_low hr hj h22] at h7 ⊢
    unfold bas at h7 ⊢
    split
    · rename_i g
      rw [if_pos g] at h7
      simp at h7
    · rfl
  · exact eq_empty ((made_shape (right_high hr hj h22).1).lens (.inr h7)).2
theorem ret_box {w : World} {b : Nat} {a0 a1 a2 : Value} {T : TypeId} (h : BlockAt w b #[a0, a1, a2] T) : (w.cell? ⟨b, 0, none⟩ = some a0 ∧ w.cell? ⟨b, 1, none⟩ = some a1 ∧ w.cell? ⟨b, 2, none⟩ = some a2) ∧ (w.frozen? ⟨b, 0, none⟩ = false ∧ w.frozen? ⟨b, 1, none⟩ = false ∧ w.frozen? ⟨b, 2, none⟩ = false) :=
  ⟨cell3A h, h.free 0, h.free 1, h.free 2⟩
theorem below_set3 {W w : World} {b : Nat} (h : Below W.heap.size W w) (hb : W.heap.size ≤ b) (v0 v1 v2 : Value) : Below W.heap.size W (((w.setCell ⟨b, 0, none⟩ v0).setCell ⟨b, 1, none⟩ v1).setCell ⟨b, 2, none⟩ v2) := ((h.setCell hb _).setCell hb _).setCell hb _
set_option maxHeartbeats 32000000 in
set_option maxRecDepth 100000 in
theorem refsubst_any (l : List Ty) (ao : Option Addr) (ac i : Nat) (args : List Int) (go : Option Addr) (gc : Nat) (w : World) (hl : ARow w ao l) (hr : rightT l = true) (hac : l.length ≤ ac) (hi : i < l.length) (hg : IRow w go args) (hgl : args.length ≤ 1000) (hg6 : ∀ a ∈ args, -9223372036854775808 ≤ a ∧ a ≤ 9223372036854775807) :
    Calls Tryz.prog 10 #[.slice ao l.length ac, .int .i64 i, .slice go args.length gc] w (AddR w (substT l i args)) := by
  obtain ⟨k0, hki, hk0, hk1, hk2⟩ := info_parts info_int1
  have hll := (right_step hr).1
  have HAS0 := fun W (h : Below w.heap.size w W) => refasks_any l ao ac i W (hl.below h) hr hac hi
  have HPA0 := fun W (h : Below w.heap.size w W) => refparts_any l ao ac i W (hl.below h) hr hac hi
  have HA := Lib.hid hl
  have HRT := Lib.hid hr
  have HG := Lib.hid hg
  have HG6 := Lib.hid hg6
  have HIN := Lib.hid hi
  obtain ⟨R, hR⟩ : ∃ R, substT l i args = R := ⟨_, rfl⟩
  rw [hR]
  have HR := Lib.hid hR
  obtain ⟨n, hn⟩ : ∃ n, l.length = n := ⟨_, rfl⟩
  have HN := Lib.hid hn
  obtain ⟨ga, hga⟩ : ∃ n, args.length = n := ⟨_, rfl⟩
  have HGA := Lib.hid hga
  rw [hga] at hgl ⊢
  rw [hn] at HAS0 HPA0 hll hac hi ⊢
  have HAS := Lib.hid HAS0
  have HPA := Lib.hid HPA0
  have hAi := askD_in (right_param hr) (i + 1) i
  obtain ⟨az, haz⟩ : ∃ az, askD (funT l) (i + 1) i = az := ⟨_, rfl⟩
  have HAZ := Lib.hid haz
  rw [haz] at hAi
  have hiI : (i : Int) < (i : Int) + 1 := by omega
  obtain ⟨w1, h1⟩ : ∃ w1, w.alloc (.cells #[.slice none 0 0, .int .i64 0, .int .i64 0] 33) = w1 := ⟨_, rfl⟩
  obtain ⟨k1, q1, z1⟩ := box_new h1
  have K1 := Lib.hid k1
  have B1 := Lib.hid q1
  clear hl hr hg hg6 hR hn hga HAS0 HPA0 haz k1 q1 z1
  go_enter Tryz.func10, Tryz.ntmps10
  go_wp2_with fail
  refine (HAS.out _ B1.out).mono ?_
  rintro e w2 ⟨bo, bc, rfl, hbr, hbc, b2⟩
  have B2 := Lib.hid (B1.out.trans (b2.mono B1.out.size))
  have K2 := Lib.hid (K1.out.below b2)
  have HBR := Lib.hid hbr
  obtain ⟨ob, oof, rfl, hob, hocell⟩ := hbr.cells (by rw [valsI_len]; omega)
  have ca := hocell i (by rw [valsI_len]; omega)
  rw [valsI_get (by omega), HAZ.out] at ca
  clear b2 hbr hocell h1
  by_cases hlt : (ga : Int) < az
  · have hd : decide ((ga : Int) < az) = true := decide_eq_true hlt
    have Hn := Lib.hid (show R = ([], 0, 1) by rw [← HR.out]; exact sub_few (by rw [HGA.out, HAZ.out]; exact hlt))
    obtain ⟨⟨e0, e1, e2⟩, f0, f1, f2⟩ := ret_box K2.out
    clear hlt
    go_wp2_with fail
    refine bodyPost_ret (v := .agg #[.slice none 0 0, .int .i64 0, .int .i64 1]) (by simp [results, Tryz.results10, go_sem, e0, e1, e2]) rfl ?_
    rw [Hn.out]
    exact ⟨none, 0, rfl, .inl rfl, below_set3 B2.out (Nat.le_refl _) _ _ _⟩
  have hd : decide ((ga : Int) < az) = false := decide_eq_false hlt
  have HLT := Lib.hid (show askD (funT l) (i + 1) i ≤ (args.length : Int) by rw [HGA.out, HAZ.out]; omega)
  clear hlt
  go_wp2_with fail
  clear ca hd
  go_loop [32] (fun v => ∃ k : Nat, k ≤ ga ∧ v = .int .i64 k ∧ Hid (∀ j, j < k → 0 ≤ args.getD j 0 ∧ args.getD j 0 < (l.length : Int))) (fun v => ga - (intOf v).toNat)
  case atStart => exact ⟨0, Nat.zero_le _, rfl, Lib.hid (fun j hj => absurd hj (Nat.not_lt_zero _))⟩
  case round =>
    obtain ⟨k, hk, rfl, HALL⟩ := hrel
    by_cases hkl : k < ga
    · have hkx : k < args.length := by rw [HGA.out]; exact hkl
      obtain ⟨gb, gof, rfl, hgb, hgcell⟩ := HG.out.cells (by omega)
      have cg := (B2.out.cell (p := ⟨gb, gof + k, none⟩) hgb).trans (hgcell k hkx)
      have HOUT := Lib.hid (fun h => out_arena (l := l) hkx h)
      obtain ⟨a, ha⟩ : ∃ a, args.getD k 0 = a := ⟨_, rfl⟩
      rw [ha] at cg HOUT
      have HAE := Lib.hid ha
      obtain ⟨⟨e0, e1, e2⟩, f0, f1, f2⟩ := ret_box K2.out
      clear ha hgcell hgb
      by_cases h0 : a < 0
      · have hd0 : decide (a < 0) = true := decide_eq_true h0
        have Hn := Lib.hid (show R = ([], 0, 1) by rw [← HR.out]; exact sub_out (Int.not_lt.2 HLT.out) (HOUT.out (.inl h0)))
        clear h0 HOUT
        go_wp2_with fail
        refine bodyPost_ret (v := .agg #[.slice none 0 0, .int .i64 0, .int .i64 1]) (by simp [results, Tryz.results10, go_sem, e0, e1, e2]) rfl ?_
        rw [Hn.out]
        exact ⟨none, 0, rfl, .inl rfl, below_set3 B2.out (Nat.le_refl _) _ _ _⟩
      · have hd0 : decide (a < 0) = false := decide_eq_false h0
        by_cases h1 : (n : Int) ≤ a
        · have hd1 : decide ((n : Int) ≤ a) = true := decide_eq_true h1
          have Hn := Lib.hid (show R = ([], 0, 1) by rw [← HR.out]; exact sub_out (Int.not_lt.2 HLT.out) (HOUT.out (.inr (by rw [HN.out]; exact h1))))
          clear h0 h1 HOUT
          go_wp2_with fail
          refine bodyPost_ret (v := .agg #[.slice none 0 0, .int .i64 0, .int .i64 1]) (by simp [results, Tryz.results10, go_sem, e0, e1, e2]) rfl ?_
          rw [Hn.out]
          exact ⟨none, 0, rfl, .inl rfl, below_set3 B2.out (Nat.le_refl _) _ _ _⟩
        · have hd1 : decide ((n : Int) ≤ a) = false := decide_eq_false h1
          have HN2 := Lib.hid (show ∀ j, j < k + 1 → 0 ≤ args.getD j 0 ∧ args.getD j 0 < (l.length : Int) from fun j hj => by
            rcases Nat.lt_or_eq_of_le (Nat.le_of_lt_succ hj) with h3 | h3
            · exact HALL.out j h3
            · subst h3; rw [HAE.out, HN.out]; omega)
          clear h0 h1 HOUT e0 e1 e2 f0 f1 f2
          go_wp2_with fail
          go_round
          case rel => exact ⟨k + 1, by omega, by go_num, HN2⟩
          case measure => first | (simp [intOf]; done) | (simp [intOf]; omega)
    · have HINA := Lib.hid (show inArena l args = true from all_arena (fun j hj => HALL.out j (by rw [HGA.out] at hj; omega)))
      clear HALL
      go_wp2_with fail
      refine (HPA.out _ B2.out).mono ?_
      rintro e w3 ⟨pg, pcap, rfl, hpc, hpl, hpcell, b3⟩
      have B3 := Lib.hid (B2.out.trans (b3.mono B2.out.size))
      have HBR3 := Lib.hid (HBR.out.below b3)
      have K3 := Lib.hid (K2.out.below b3)
      have HPC := Lib.hid hpcell
      have HPL := Lib.hid hpl
      have HOB := Lib.hid (Nat.lt_of_lt_of_le hob b3.size)
      clear b3 hpcell hpl hob
      have O0 := Lib.hid (show OwnK (w3.alloc (.cells #[] 3)) w3.heap.size (.slice (some ⟨w3.heap.size, 0, none⟩) 0 0) (valsI (fun _ => (0 : Int)) 0) from World.ownsRow_made w3 #[] 0 (Nat.le_refl _) (by unfold maxLen; omega) rfl)
      have A0 := Lib.hid (show ARowA w3.heap.size w.heap.size (w3.alloc (.cells #[] 3)) ao l from (ARowA.fresh HA.out ⟨B3.out.size, Nat.le_refl _⟩).same (SameA.below (B3.out.trans (((Below.refl _ _).alloc (Nat.le_refl _) _).mono B3.out.size))))
      have BB0 := Lib.hid (show Below w3.heap.size w3 (w3.alloc (.cells #[] 3)) from (Below.refl _ _).alloc (Nat.le_refl _) _)
      obtain ⟨nd, hnd⟩ : ∃ nd, needD (funT l) i (i + 1) = nd := ⟨_, rfl⟩
      obtain ⟨A, hA⟩ : ∃ A, askD (funT l) (i + 1) = A := ⟨_, rfl⟩
      have HND := Lib.hid hnd
      have HAA := Lib.hid hA
      rw [hnd] at HPC
      rw [hA] at HBR3
      clear hnd hA
      have S0 := Lib.hid (show (runT l i args 0).err = 0 from rfl)
      go_wp2_with fail
      go_loopw [11, 12, 56] (fun v11 v12 v56 wr => ∃ (c gi gcap : Nat) (so : Option Addr) (sc : Nat) (s : SS), c ≤ i + 1 ∧ v11 = .slice (some ⟨gi, 0, none⟩) c gcap ∧ v12 = .slice so s.now.length sc ∧ v56 = .int .i64 c ∧ Hid (runT l i args c = s) ∧ Hid (s.err = 0) ∧ Hid (OwnK wr w3.heap.size (.slice (some ⟨gi, 0, none⟩) c gcap) (valsI s.ins c)) ∧ Hid (ARowA gi w.heap.size wr so s.now) ∧ Hid (Below w3.heap.size w3 wr)) (fun _ _ v _ => i + 1 - (intOf v).toNat)
      case atStart => exact ⟨0, w3.heap.size, 0, ao, ac, runT l i args 0, Nat.zero_le _, rfl, (by (show Value.slice ao n ac = .slice ao l.length ac; rw [HN.out])), rfl, Lib.hid rfl, S0, O0, A0, BB0⟩
      case round =>
        obtain ⟨c, gi, gcap, so, sc, s, hc, rfl, rfl, rfl, HRUN, HERR, HO, HNOW, HB3⟩ := hrel
        obtain ⟨wr0, hwr0⟩ : ∃ wr0, wr0 = wr := ⟨_, rfl⟩
        subst hwr0
        have HINV := Lib.hid (show Inv l i c s from by rw [← HRUN.out]; exact inv_run HRT.out HIN.out HINA.out (Int.not_lt.2 HLT.out) c hc (by rw [HRUN.out]; exact HERR.out))
        have HBW := Lib.hid (B3.out.trans (HB3.out.mono B3.out.size))
        by_cases hcl : c < i + 1
        · have hcx : c < l.length := by rw [HN.out]; omega
          have hcI : (c : Int) < (i : Int) + 1 := by omega
          obtain ⟨lb, lof, rfl, hlb, hlcell⟩ := HA.out.cells (by omega)
          have hat := hlcell c hcx
          have HFX := Lib.hid (show funT l c = l[c] from getD_of hcx)
          have HK7 := Lib.hid (fun h => kind7_len HRT.out hcx h)
          have HN7 := Lib.hid (fun h => kind7_name HRT.out hcx h)
          have HKID := Lib.hid (fun k (hk : k ∈ l[c].kids) => right_kids HRT.out hcx k hk)
          obtain ⟨x, hx⟩ : ∃ x, l[c] = x := ⟨_, rfl⟩
          rw [hx] at hat HFX HK7 HN7 HKID
          obtain ⟨xw, xwc, xk, xkc, a0', a1', a2', a3', a4', hwc, hkc, hxc⟩ := hat
          have a0 := (HBW.out.cell hlb).trans a0'
          have a1 := (HBW.out.cell hlb).trans a1'
          have a2 := (HBW.out.cell hlb).trans a2'
          have a3 := (HBW.out.cell hlb).trans a3'
          have a4 := (HBW.out.cell hlb).trans a4'
          obtain ⟨wn, hwn⟩ : ∃ wn, wr0.alloc (.cells #[.int .i64 x.kind, .string x.name, .int .i64 x.n, .slice xw x.words.length xwc, .slice xk x.kids.length xkc] 41) = wn := ⟨_, rfl⟩
          obtain ⟨kx, qx, zx⟩ := box_new hwn
          obtain ⟨c0, c1, c2, c3, c4⟩ := cell5 kx
          have KX := Lib.hid kx
          have QX := Lib.hid qx
          have BN := Lib.hid (HBW.out.trans (qx.mono HBW.out.size))
          have BN3 := Lib.hid (HB3.out.trans (qx.mono HB3.out.size))
          have HXC := Lib.hid hxc
          have HCP := Lib.hid (And.intro hwc hkc)
          have ON := Lib.hid (show OwnK wn w3.heap.size (.slice (some ⟨gi, 0, none⟩) c gcap) (valsI s.ins c) from row_kept HO.out qx)
          have AN := Lib.hid (HNOW.out.same (SameA.below qx))
          have cp := (BN3.out.cell (p := ⟨pg, c, none⟩) HPL.out).trans (HPC.out c hcl)
          obtain ⟨ob', oof', eo, -, hocell⟩ := HBR3.out.cells (by rw [valsI_len]; omega)
          injection eo with eo
          injection eo with eo1 eo2
          subst eo1
          subst eo2
          have cq := (BN3.out.cell (p := ⟨ob, oof + c, none⟩) HOB.out).trans (hocell c (by rw [valsI_len]; exact hcl))
          rw [valsI_get hcl] at cq
          obtain ⟨ndc, hndc⟩ : ∃ b, nd c = b := ⟨_, rfl⟩
          rw [hndc] at cp
          have HNDC := Lib.hid hndc
          obtain ⟨azc, hazc⟩ : ∃ b, A c = b := ⟨_, rfl⟩
          rw [hazc] at cq
          have HAZC := Lib.hid hazc
          clear hx kx qx zx a0' a1' a2' a3' a4' hwc hkc hxc hlcell hndc hazc hocell
          cases ndc
          · have HS := Lib.hid (show runT l i args (c + 1) = ⟨updI s.ins c c, s.now, 0⟩ from by
              rw [run_step, HRUN.out, HND.out, HAA.out]
              exact stepS_skip HERR.out (.inl HNDC.out))
            have HOOp := Lib.hid (show (wn).ownsRow w3.heap.size 3 1 (.slice (some ⟨gi, 0, none⟩) c gcap) c (intC (valsI s.ins c)) from own_vals ON.out)
            have HSZp := Lib.hid (show w3.heap.size ≤ (wn).heap.size from BN3.out.size)
            go_wp2_with (at_builtin; refine wpList_append_own_at _ rfl _ _ 23 rfl w3.heap.size 3 k0 (.int .i64 0) 1 8 Tryz.underlying23 hki hk0 hk1 hk2 rfl (by decide) _ c (intC (valsI s.ins c)) rfl (HOOp.out.alloc _) ⟨(wn).heap.size, 0, none⟩ 1 1 [.int .i64 (c : Int)] rfl ?p1 ?p2 ?p3 ?p4 ?p5 ?p6 ?_)
            case p3 => rfl
            case p4 => unfold maxLen; omega
            case p5 => omega
            case p6 => have := HSZp.out; simp; omega
            intro v' w9 hown9 hgrow9 _ hblk9
            have HIP := Lib.hid (inst_push (v := (c : Int)) ON.out AN.out BN3.out hown9 hgrow9 (by simpa [Value.ownBlock] using hblk9))
            clear hown9 hgrow9 hblk9 HOOp HSZp
            obtain ⟨gi', gcap', ev', O9, A9, B9⟩ := HIP.out
            subst ev'
            have HO9 := Lib.hid O9
            have HA9 := Lib.hid A9
            have HB9 := Lib.hid B9
            clear HIP O9 A9 B9
            go_wp2_with fail
            go_roundw
            case rel => exact ⟨c + 1, gi', gcap', so, sc, ⟨updI s.ins c (c : Int), s.now, 0⟩, by omega, rfl, rfl, by go_num, HS, Lib.hid rfl, HO9, HA9, HB9⟩
            case measure => first | (simp [intOf]; done) | (simp [intOf]; omega)
          · by_cases hz : azc = 0
            · have HS := Lib.hid (show runT l i args (c + 1) = ⟨updI s.ins c c, s.now, 0⟩ from by
                rw [run_step, HRUN.out, HND.out, HAA.out]
                exact stepS_skip HERR.out (.inr (by rw [HAZC.out]; exact hz)))
              subst hz
              have HOOq := Lib.hid (show (wn).ownsRow w3.heap.size 3 1 (.slice (some ⟨gi, 0, none⟩) c gcap) c (intC (valsI s.ins c)) from own_vals ON.out)
              have HSZq := Lib.hid (show w3.heap.size ≤ (wn).heap.size from BN3.out.size)
              go_wp2_with (at_builtin; refine wpList_append_own_at _ rfl _ _ 23 rfl w3.heap.size 3 k0 (.int .i64 0) 1 8 Tryz.underlying23 hki hk0 hk1 hk2 rfl (by decide) _ c (intC (valsI s.ins c)) rfl (HOOq.out.alloc _) ⟨(wn).heap.size, 0, none⟩ 1 1 [.int .i64 (c : Int)] rfl ?q1 ?q2 ?q3 ?q4 ?q5 ?q6 ?_)
              case q3 => rfl
              case q4 => unfold maxLen; omega
              case q5 => omega
              case q6 => have := HSZq.out; simp; omega
              intro v' w9 hown9 hgrow9 _ hblk9
              have HIP := Lib.hid (inst_push (v := (c : Int)) ON.out AN.out BN3.out hown9 hgrow9 (by simpa [Value.ownBlock] using hblk9))
              clear hown9 hgrow9 hblk9 HOOq HSZq
              obtain ⟨gi', gcap', ev', O9, A9, B9⟩ := HIP.out
              subst ev'
              have HO9 := Lib.hid O9
              have HA9 := Lib.hid A9
              have HB9 := Lib.hid B9
              clear HIP O9 A9 B9
              go_wp2_with fail
              go_roundw
              case rel => exact ⟨c + 1, gi', gcap', so, sc, ⟨updI s.ins c (c : Int), s.now, 0⟩, by omega, rfl, rfl, by go_num, HS, Lib.hid rfl, HO9, HA9, HB9⟩
              case measure => first | (simp [intOf]; done) | (simp [intOf]; omega)
            · have hqz : (azc == 0) = false := by rw [beq_eq_false_iff_ne]; exact hz
              by_cases h9 : x.kind = 9
              · have hq9 : (x.kind == 9) = true := by rw [beq_iff_eq]; exact h9
                have hpi := param_in HRT.out HIN.out (i := i) (c := c) (by omega) (by rw [HND.out]; exact HNDC.out) (by rw [HFX.out]; exact h9) (args := args) (Int.not_lt.2 HLT.out)
                rw [HFX.out] at hpi
                obtain ⟨N, hN⟩ : ∃ N : Nat, x.n = (N : Int) := ⟨x.n.toNat, by omega⟩
                have hNl : N < args.length := by omega
                have HS := Lib.hid (show runT l i args (c + 1) = ⟨updI s.ins c (args.getD N 0), s.now, 0⟩ from by
                  rw [run_step, HRUN.out, HND.out, HAA.out, stepS_param HERR.out HNDC.out (by rw [HAZC.out]; exact hz) (by rw [HFX.out]; exact h9), HFX.out, hN, Int.toNat_natCast])
                obtain ⟨gb, gof, rfl, hgb, hgcell⟩ := HG.out.cells (by omega)
                have cg := (BN.out.cell (p := ⟨gb, gof + N, none⟩) hgb).trans (hgcell N hNl)
                have hNga : N < ga := by rw [← HGA.out]; exact hNl
                have hNgaI : (N : Int) < (ga : Int) := by omega
                obtain ⟨vv, hvv⟩ : ∃ v, args.getD N 0 = v := ⟨_, rfl⟩
                rw [hvv] at cg HS
                rw [hN] at a2 c2 hwn
                clear h9 hz hvv hgcell hgb hN hpi hNl
                have HOOr := Lib.hid (show (wn).ownsRow w3.heap.size 3 1 (.slice (some ⟨gi, 0, none⟩) c gcap) c (intC (valsI s.ins c)) from own_vals ON.out)
                have HSZr := Lib.hid (show w3.heap.size ≤ (wn).heap.size from BN3.out.size)
                go_wp2_with (at_builtin; refine wpList_append_own_at _ rfl _ _ 23 rfl w3.heap.size 3 k0 (.int .i64 0) 1 8 Tryz.underlying23 hki hk0 hk1 hk2 rfl (by decide) _ c (intC (valsI s.ins c)) rfl (HOOr.out.alloc _) ⟨(wn).heap.size, 0, none⟩ 1 1 [.int .i64 vv] rfl ?r1 ?r2 ?r3 ?r4 ?r5 ?r6 ?_)
                case r3 => rfl
                case r4 => unfold maxLen; omega
                case r5 => omega
                case r6 => have := HSZr.out; simp; omega
                intro v' w9 hown9 hgrow9 _ hblk9
                have HIP := Lib.hid (inst_push (v := vv) ON.out AN.out BN3.out hown9 hgrow9 (by simpa [Value.ownBlock] using hblk9))
                clear hown9 hgrow9 hblk9 HOOr HSZr
                obtain ⟨gi', gcap', ev', O9, A9, B9⟩ := HIP.out
                subst ev'
                have HO9 := Lib.hid O9
                have HA9 := Lib.hid A9
                have HB9 := Lib.hid B9
                clear HIP O9 A9 B9
                go_wp2_with fail
                go_roundw
                case rel => exact ⟨c + 1, gi', gcap', so, sc, ⟨updI s.ins c vv, s.now, 0⟩, by omega, rfl, rfl, by go_num, HS, Lib.hid rfl, HO9, HA9, HB9⟩
                case measure => first | (simp [intOf]; done) | (simp [intOf]; omega)
              · have hq9 : (x.kind == 9) = false := by rw [beq_eq_false_iff_ne]; exact h9
                have HWX := Lib.hid (show w.heap.size < wr0.heap.size from Nat.lt_of_lt_of_le K3.out.lt HB3.out.size)
                have HINS := Lib.hid (show ∀ k ∈ x.kids, 0 ≤ k ∧ k < (c : Int) ∧ 0 ≤ s.ins k.toNat ∧ s.ins k.toNat < (s.now.length : Int) from fun k hk => by
                  have g := HKID.out k hk
                  have g2 := need_kid (fun_kids HRT.out HIN.out) (c := c) (by omega) (by rw [HND.out]; exact HNDC.out) (by rw [HFX.out]; exact hk)
                  have g3 := HINV.out.ins k.toNat (by omega) g2
                  exact ⟨g.1, g.2, g3.1, g3.2⟩)
                have hnl := (right_step HINV.out.right).1
                have hml := HXC.out.ok.kl
                obtain ⟨m, hm⟩ : ∃ m, x.kids.length = m := ⟨_, rfl⟩
                have HM := Lib.hid hm
                rw [hm] at hml hwn c4 a4
                have KXM := Lib.hid (show BlockAt wn wr0.heap.size #[.int .i64 x.kind, .string x.name, .int .i64 x.n, .slice xw x.words.length xwc, .slice xk m xkc] 41 from by have := KX.out; rwa [hm] at this)
                obtain ⟨xb, hxb⟩ : ∃ xb, wr0.heap.size = xb := ⟨_, rfl⟩
                rw [hxb] at KXM
                have HXB := Lib.hid hxb
                have O15 := Lib.hid (show OwnK (wn.alloc (.cells #[] 3)) wn.heap.size (.slice (some ⟨wn.heap.size, 0, none⟩) 0 0) ((x.kids.take 0).map fun k => s.ins k.toNat) from World.ownsRow_made wn #[] 0 (Nat.le_refl _) (by unfold maxLen; omega) rfl)
                have BZ0 := Lib.hid (show Below wn.heap.size wn (wn.alloc (.cells #[] 3)) from (Below.refl _ _).alloc (Nat.le_refl _) _)
                obtain ⟨nw, hnw⟩ : ∃ n, x.words.length = n := ⟨_, rfl⟩
                have HNW := Lib.hid hnw
                rw [hnw] at KXM hwn c3 a3
                have HZN := Lib.hid hz
                have H9N := Lib.hid h9
                clear hm hnw KX h9 hz
                rw [hxb] at c0 c1 c2 c3 c4
                have d4 := (BZ0.out.cell (p := ⟨xb, 4, none⟩) KXM.out.lt).trans c4
                go_wp2_with fail
                clear hwn a0 a1 a2 a3 a4 c0 c1 c2 c3 c4 d4 cp cq hxb
                go_loopw [15, 92] (fun v15 v wq => ∃ q : Nat, q ≤ m ∧ v = .int .i64 q ∧ Hid (OwnK wq wn.heap.size v15 ((x.kids.take q).map fun k => s.ins k.toNat)) ∧ Hid (Below wn.heap.size wn wq)) (fun _ v _ => m - (intOf v).toNat)
                case atStart => exact ⟨0, Nat.zero_le _, rfl, O15, BZ0⟩
                case round =>
                  obtain ⟨q, hq, rfl, HQ, HBQ⟩ := hrel
                  by_cases hql : q < m
                  · have hqx : q < x.kids.length := by rw [HM.out]; exact hql
                    obtain ⟨kb, kof, rfl, hkb, hkcell⟩ := HXC.out.kids.cells (by omega)
                    have ck := ((BN.out.trans (HBQ.out.mono BN.out.size)).cell (p := ⟨kb, kof + q, none⟩) hkb).trans (hkcell q hqx)
                    obtain ⟨g1, g2, g3, g4⟩ := HINS.out _ (getD_mem hqx)
                    have htk : (x.kids.take (q + 1)).map (fun k => s.ins k.toNat) = (x.kids.take q).map (fun k => s.ins k.toNat) ++ [s.ins (x.kids.getD q 0).toNat] := by
                      rw [List.take_succ_eq_append_getElem hqx, List.map_append, getD_of hqx]
                      rfl
                    obtain ⟨z, hz⟩ : ∃ z : Nat, x.kids.getD q 0 = (z : Int) := ⟨(x.kids.getD q 0).toNat, by omega⟩
                    rw [hz] at ck g2 htk
                    rw [Int.toNat_natCast] at htk
                    have hzc : z < c := by omega
                    have hzI : (z : Int) < (c : Int) := by omega
                    obtain ⟨_, _, eo, hir, -⟩ := ownK_row ON.out
                    injection eo with eo en1 en2
                    subst eo
                    clear en1 en2
                    obtain ⟨ib, iof, ei, hib, hicell⟩ := hir.cells (by rw [valsI_len]; omega)
                    injection ei with ei
                    injection ei with ei1 ei2
                    subst ei1
                    subst ei2
                    have cv := (HBQ.out.cell (p := ⟨gi, 0 + z, none⟩) hib).trans (hicell z (by rw [valsI_len]; exact hzc))
                    rw [valsI_get hzc, Nat.zero_add] at cv
                    obtain ⟨vz, hvz⟩ : ∃ v, s.ins z = v := ⟨_, rfl⟩
                    rw [hvz] at cv htk
                    have HTK := Lib.hid htk
                    have hlq : ((x.kids.take q).map fun k => s.ins k.toNat).length = q := by rw [List.length_map, List.length_take]; omega
                    obtain ⟨zs, hzs⟩ : ∃ zs, ((x.kids.take q).map fun k => s.ins k.toNat) = zs := ⟨_, rfl⟩
                    rw [hzs] at HQ HTK hlq
                    have HOZ := Lib.hid (show wr.ownsRow wn.heap.size 3 1 _ q (intC zs) from by have h := HQ.out; unfold OwnK at h; rw [hlq] at h; exact h)
                    have HLQ := Lib.hid hlq
                    have HSZQ := Lib.hid HBQ.out.size
                    clear hz hvz hzs hlq htk hkcell hkb hir hib hicell g1 g3 g4
                    go_wp2_with (at_builtin; refine wpList_append_own_at _ rfl _ _ 23 rfl wn.heap.size 3 k0 (.int .i64 0) 1 8 Tryz.underlying23 hki hk0 hk1 hk2 rfl (by decide) _ q (intC zs) rfl (HOZ.out.alloc _) ⟨wr.heap.size, 0, none⟩ 1 1 [.int .i64 vz] rfl ?s1 ?s2 ?s3 ?s4 ?s5 ?s6 ?_)
                    case s3 => rfl
                    case s4 => unfold maxLen; omega
                    case s5 => omega
                    case s6 => have := HSZQ.out; simp; omega
                    intro v' w9 hown9 hgrow9 _ hblk9
                    have HP := Lib.hid (push_int1 (z := vz) HQ.out HBQ.out (by rw [HLQ.out]; exact hown9) hgrow9)
                    clear hown9 hgrow9 hblk9
                    go_wp2_with fail
                    go_roundw
                    case rel => exact ⟨q + 1, by omega, by go_num, Lib.hid (by rw [HTK.out]; exact HP.out.1), Lib.hid HP.out.2⟩
                    case measure => first | (simp [intOf]; done) | (simp [intOf]; omega)
                  · obtain rfl : q = m := by omega
                    obtain ⟨wq, hwq⟩ : ∃ wq, wq = wr := ⟨_, rfl⟩
                    subst hwq
                    have hks : ((x.kids.take q).map fun k => s.ins k.toNat) = (swapT x s.ins).kids := by
                      rw [List.take_of_length_le (by rw [HM.out]; exact Nat.le_refl _)]
                      rfl
                    rw [hks] at HQ
                    have HKL := Lib.hid (show (swapT x s.ins).kids.length = q from by show (List.map _ _).length = q; rw [List.length_map]; exact HM.out)
                    obtain ⟨ko2, kc2, rfl, hkr, hkc2⟩ := ownK_row HQ.out
                    have HKR := Lib.hid hkr
                    rw [HKL.out] at hkc2 ⊢
                    have HKH := Lib.hid (show ∀ a, ko2 = some a → wn.heap.size ≤ a.block from fun a ha => by subst ha; exact (World.ownsRow.lt HQ.out a.block rfl).1)
                    have M := KXM.out.below HBQ.out
                    obtain ⟨e0, e1, e2, e3, e4⟩ := cell5 M
                    have f4 := M.free 4
                    obtain ⟨w8, h8⟩ : ∃ w8, wq.setCell ⟨xb, 4, none⟩ (.slice ko2 q kc2) = w8 := ⟨_, rfl⟩
                    have K8 := Lib.hid (show BlockAt w8 xb #[.int .i64 x.kind, .string x.name, .int .i64 x.n, .slice xw nw xwc, .slice ko2 q kc2] 41 from by rw [← h8]; exact M.set 4 _)
                    have HXW := Lib.hid (show w.heap.size ≤ w3.heap.size ∧ w3.heap.size ≤ xb ∧ gi < xb ∧ w3.heap.size ≤ gi ∧ xb < wn.heap.size from by
                      have g1 := B3.out.size
                      have g2 := HB3.out.size
                      have g3 := HXB.out
                      have g4 := World.ownsRow.lt (own_vals HO.out) gi rfl
                      have g5 := KXM.out.lt
                      omega)
                    have BR8 := Lib.hid (show Below wr0.heap.size wr0 w8 from by rw [← h8]; exact ((QX.out.trans (HBQ.out.mono QX.out.size)).setCell (p := ⟨xb, 4, none⟩) (Nat.le_of_eq HXB.out) _))
                    have B38 := Lib.hid (HB3.out.trans (BR8.out.mono HB3.out.size))
                    have BW8 := Lib.hid (B3.out.trans (B38.out.mono B3.out.size))
                    have O8 := Lib.hid (show OwnK w8 w3.heap.size (.slice (some ⟨gi, 0, none⟩) c gcap) (valsI s.ins c) from row_kept HO.out BR8.out)
                    have A8 := Lib.hid (HNOW.out.same (SameA.below BR8.out))
                    have HSK := Lib.hid (show ∀ k ∈ (swapT x s.ins).kids, 0 ≤ k ∧ k < (s.now.length : Int) from fun k hk => by
                      obtain ⟨k1, h1, rfl⟩ := List.mem_map.1 hk
                      exact ⟨(HINS.out k1 h1).2.2.1, (HINS.out k1 h1).2.2.2⟩)
                    have HTY := Lib.hid (show TyCA gi w.heap.size w8 xw ko2 (swapT x s.ins) from ⟨by
                      rcases HXC.out.words with g | ⟨b, off, e, l1, cc⟩
                      · exact .inl g
                      · exact .inr ⟨b, off, e, Nat.lt_of_lt_of_le l1 BW8.out.size, by have := HXW.out; omega, fun j hj => (BW8.out.cell (p := ⟨b, off + j, none⟩) l1).trans (cc j hj)⟩, by
                      rcases HKR.out with g | ⟨b, off, e, l1, cc⟩
                      · exact .inl g
                      · have hb := HKH.out _ e
                        have hb : wn.heap.size ≤ b := hb
                        refine .inr ⟨b, off, e, ?_, by have := HXW.out; omega, fun j hj => ?_⟩
                        · rw [← h8]; simpa [World.setCell] using l1
                        · rw [← cc j hj, ← h8]
                          exact World.cell?_of_block (a := ⟨b, off + j, none⟩) (Below.heap_setCell _ _ _ _ (by have := HXW.out; first | (show xb ≠ b; omega) | (show b ≠ xb; omega))), swap_ok HXC.out.ok (fun k hk => by have := HINS.out k hk; omega)⟩)
                    have HCP2 := Lib.hid (show (swapT x s.ins).words.length ≤ xwc ∧ (swapT x s.ins).kids.length ≤ kc2 from ⟨HCP.out.1, by rw [HKL.out]; exact hkc2⟩)
                    obtain ⟨x0, x1, x2, x3, x4⟩ := cell5 K8.out
                    clear M hkr hkc2 hks
                    by_cases h7 : x.kind = 7
                    · have hq7 : (x.kind == 7) = true := by rw [beq_iff_eq]; exact h7
                      have HK7L := Lib.hid (show (swapT x s.ins).words.length = (swapT x s.ins).kids.length from by rw [HKL.out]; exact (HK7.out h7).trans HM.out)
                      have HNM := Lib.hid (show (swapT x s.ins).name = ⟨#[]⟩ from HN7.out h7)
                      have HOD0 := refodd_any s.now so sc (swapT x s.ins) xw ko2 xwc kc2 w8 A8.out.out HTY.out.out HK7L.out HSK.out (by omega)
                      obtain ⟨od, hod⟩ : ∃ od, oddT s.now (swapT x s.ins) = od := ⟨_, rfl⟩
                      obtain ⟨tt, htt⟩ : ∃ tt, tidyT s.now.length (swapT x s.ins) = tt := ⟨_, rfl⟩
                      have HOK := Lib.hid (show TyOk tt from by rw [← htt]; exact tidy_ok (L := s.now.length) HTY.out.ok (by omega) HSK.out)
                      have HTK := Lib.hid (show tt.kind = x.kind ∧ tt.name = x.name ∧ tt.n = x.n from by rw [← htt]; exact ⟨rfl, rfl, rfl⟩)
                      have HPUT := Lib.hid (And.intro (fun ho : od = true => put_err (l := s.now) (t := x) (I := s.ins) ⟨h7, by rw [hod]; exact ho⟩) (fun ho : od = false => show addT s.now tt = putT s.now x s.ins from by unfold putT; rw [if_pos h7, if_neg (by rw [hod, ho]; simp), htt]))
                      have hwl : (swapT x s.ins).words.length = nw := HNW.out
                      rw [hod] at HOD0
                      unfold tyV at HOD0
                      rw [HKL.out, hwl] at HOD0
                      have HOD1 : Calls Tryz.prog 25 #[.slice so s.now.length sc, .agg #[.int .i64 x.kind, .string x.name, .int .i64 x.n, .slice xw nw xwc, .slice ko2 q kc2]] w8 (fun e w' => e = .returned (.bool od) ∧ Below w8.heap.size w8 w') := HOD0
                      have HOD := Lib.hid HOD1
                      have HTM := Lib.hid (fun W (hb : Below w8.heap.size w8 W) => show Calls Tryz.prog 26 #[.slice so s.now.length sc, .agg #[.int .i64 x.kind, .string x.name, .int .i64 x.n, .slice xw nw xwc, .slice ko2 q kc2]] W (TermsR W tt) from by
                        have h := refterms_any s.now so sc (swapT x s.ins) xw ko2 xwc kc2 W (HTY.out.out.below hb) HK7L.out HNM.out HSK.out (by omega)
                        unfold tyV at h
                        rw [HKL.out, hwl, htt] at h
                        exact h)
                      clear HOD0 HOD1 hod htt hwl h7
                      go_wp2_with fail
                      refine HOD.out.mono ?_
                      intro e wo8 hres
                      obtain ⟨ee, bo8⟩ := hres
                      subst ee
                      have BO8 := Lib.hid bo8
                      have BWO := Lib.hid (BW8.out.trans (bo8.mono BW8.out.size))
                      have MO := K8.out.below bo8
                      obtain ⟨y0, y1, y2, y3, y4⟩ := cell5 MO
                      have HMO := Lib.hid MO
                      clear bo8 MO x0 x1 x2 x3 x4 e0 e1 e2 e3 e4 f4 h8
                      cases od
                      · have HPE := Lib.hid (HPUT.out.2 rfl)
                        go_wp2_with fail
                        refine (HTM.out _ BO8.out).mono ?_
                        intro e wT hres
                        obtain ⟨aT, bT, acT, bcT, ee, g1, g2, r1, r2, n1, n2, bt⟩ := hres
                        subst ee
                        have BT := Lib.hid (BWO.out.trans (bt.mono BWO.out.size))
                        have MT := HMO.out.below bt
                        have HMT := Lib.hid MT
                        obtain ⟨z0, z1, z2, z3, z4⟩ := cell5 MT
                        have f0 := MT.free 0
                        have f1 := MT.free 1
                        have f2 := MT.free 2
                        have f3 := MT.free 3
                        have f4' := MT.free 4
                        obtain ⟨lW, hlW⟩ : ∃ x, tt.words.length = x := ⟨_, rfl⟩
                        obtain ⟨lK, hlK⟩ : ∃ x, tt.kids.length = x := ⟨_, rfl⟩
                        unfold tyV
                        rw [HTK.out.1, HTK.out.2.1, HTK.out.2.2, hlW, hlK]
                        obtain ⟨wF, hF⟩ : ∃ w7, (((((wT.setCell ⟨xb, 0, none⟩ (.int .i64 x.kind)).setCell ⟨xb, 1, none⟩ (.string x.name)).setCell ⟨xb, 2, none⟩ (.int .i64 x.n)).setCell ⟨xb, 3, none⟩ (.slice aT lW acT)).setCell ⟨xb, 4, none⟩ (.slice bT lK bcT)) = w7 := ⟨_, rfl⟩
                        have BRF := Lib.hid (show Below wr0.heap.size wr0 wF from by
                          have h1 := BR8.out.trans (BO8.out.mono BR8.out.size)
                          have h2 := h1.trans (bt.mono h1.size)
                          rw [← hF]
                          exact below_set5 h2 (Nat.le_of_eq HXB.out) _ _ _ _ _)
                        have HF := Lib.hid hF
                        have HBS := Lib.hid (show xb < wo8.heap.size ∧ gi < wo8.heap.size ∧ w.heap.size < wo8.heap.size from by have := HMO.out.lt; have := HXW.out; omega)
                        have nA : ∀ a, aT = some a → a.block ≠ xb := fun a ha => by have := n1 a ha; have := HBS.out; omega
                        have nB : ∀ a, bT = some a → a.block ≠ xb := fun a ha => by have := n2 a ha; have := HBS.out; omega
                        have HT7 := Lib.hid (show TyC wF aT bT tt from ⟨by rw [← hF]; exact row_setstr (row_setstr (row_setstr (row_setstr (row_setstr r1 nA) nA) nA) nA) nA, by rw [← hF]; exact row_setint (row_setint (row_setint (row_setint (row_setint r2 nB) nB) nB) nB) nB, HOK.out⟩)
                        have HTA := Lib.hid (show TyCA gi w.heap.size wF aT bT tt from ⟨by
                          rcases HT7.out.words with g | ⟨b, off, e, l1, cc⟩
                          · exact .inl g
                          · have := n1 _ e
                            have := HBS.out
                            exact .inr ⟨b, off, e, l1, (by have h : wo8.heap.size ≤ b := n1 _ e; have h2 := HBS.out; exact ⟨by omega, by omega⟩), cc⟩, by
                          rcases HT7.out.kids with g | ⟨b, off, e, l1, cc⟩
                          · exact .inl g
                          · have := HBS.out
                            exact .inr ⟨b, off, e, l1, (by have h : wo8.heap.size ≤ b := n2 _ e; have h2 := HBS.out; exact ⟨by omega, by omega⟩), cc⟩, HOK.out⟩)
                        have HAD0 := refadd_apart gi w.heap.size s.now so sc tt aT bT acT bcT wF (by have h1 := HXW.out; have h0 := HWX.out; have h2 := HXB.out; have h3 := BRF.out.size; omega) (HNOW.out.same (SameA.below BRF.out)) HTA.out (by omega) (by omega) g1 g2
                        rw [HPE.out] at HAD0
                        unfold tyV at HAD0
                        rw [HTK.out.1, HTK.out.2.1, HTK.out.2.2, hlW, hlK] at HAD0
                        have HAD := Lib.hid HAD0
                        clear MT g1 g2 r1 r2 n1 n2 nA nB y0 y1 y2 y3 y4 hlW hlK hF HAD0 bt
                        go_wp2_with fail
                        rw [HF.out]
                        refine HAD.out.mono ?_
                        intro e w9 hres
                        obtain ⟨ao9, cap9, ee, p1, b9⟩ := hres
                        subst ee
                        have HGOOD := Lib.hid (fun h => put_good (t := x) (I := s.ins) HINV.out.right h)
                        obtain ⟨M, pz, ez, hRR⟩ : ∃ M pz ez, putT s.now x s.ins = (M, pz, ez) := ⟨_, _, _, rfl⟩
                        rw [hRR] at p1 HGOOD ⊢
                        have HRR := Lib.hid hRR
                        have P1 := Lib.hid p1
                        have BA9 := Lib.hid (BRF.out.trans (b9.mono BRF.out.size))
                        obtain ⟨wt, ht⟩ : ∃ wt, w9.alloc (.cells #[.slice ao9 M.length cap9, .int .i64 pz, .int .i64 ez] 33) = wt := ⟨_, rfl⟩
                        obtain ⟨kt, qt, zt⟩ := box_new ht
                        have KT := Lib.hid kt
                        have QT := Lib.hid qt
                        have BAT := Lib.hid (BA9.out.trans (qt.mono BA9.out.size))
                        have B3T := Lib.hid (HB3.out.trans (BAT.out.mono HB3.out.size))
                        have BWT := Lib.hid (B3.out.trans (B3T.out.mono B3.out.size))
                        have OT := Lib.hid (show OwnK wt w3.heap.size (.slice (some ⟨gi, 0, none⟩) c gcap) (valsI s.ins c) from row_kept HO.out BAT.out)
                        have AT := Lib.hid (P1.out.same (SameA.below qt))
                        obtain ⟨t0', t1', t2'⟩ := cell3A kt
                        have HT := Lib.hid ht
                        clear p1 b9 hRR kt qt zt z0 z1 z2 z3 z4 f0 f1 f2 f3 f4'
                        by_cases he : ez = 0
                        · have hqe : (ez != 0) = false := by simp [he]
                          obtain ⟨-, M', p, hpM, e', -, hR', -, -, -⟩ := HGOOD.out he
                          injection e' with e1' e2'
                          injection e2' with e2' e3'
                          subst e1'
                          subst e2'
                          have hM4 := (right_step hR').1.2
                          have HS := Lib.hid (show runT l i args (c + 1) = ⟨updI s.ins c p, M, 0⟩ from by
                            rw [run_step, HRUN.out, HND.out, HAA.out, stepS_put HERR.out HNDC.out (by rw [HAZC.out]; exact HZN.out) (by rw [HFX.out]; exact H9N.out) (by rw [HFX.out, HRR.out, he])])
                          clear he hpM hR' e3'
                          have HOOv := Lib.hid (show (wt).ownsRow w3.heap.size 3 1 (.slice (some ⟨gi, 0, none⟩) c gcap) c (intC (valsI s.ins c)) from own_vals OT.out)
                          have HSZv := Lib.hid (show w3.heap.size ≤ (wt).heap.size from B3T.out.size)
                          go_wp2_with (at_builtin; refine wpList_append_own_at _ rfl _ _ 23 rfl w3.heap.size 3 k0 (.int .i64 0) 1 8 Tryz.underlying23 hki hk0 hk1 hk2 rfl (by decide) _ c (intC (valsI s.ins c)) rfl (HOOv.out.alloc _) ⟨(wt).heap.size, 0, none⟩ 1 1 [.int .i64 (p : Int)] rfl ?v1 ?v2 ?v3 ?v4 ?v5 ?v6 ?_)
                          case v1 => rfl
                          case v2 => exact cell_news _ _ _
                          case v3 => exact fun v hv => by rw [List.mem_singleton.1 hv]; rfl
                          case v4 => unfold maxLen; omega
                          case v5 => omega
                          case v6 => have := HSZv.out; simp; omega
                          intro v' w9 hown9 hgrow9 _ hblk9
                          have HIP := Lib.hid (inst_push (v := (p : Int)) OT.out AT.out B3T.out hown9 hgrow9 (by simpa [Value.ownBlock] using hblk9))
                          clear hown9 hgrow9 hblk9 HOOv HSZv
                          obtain ⟨gi', gcap', ev', O9, A9, B9⟩ := HIP.out
                          subst ev'
                          have HO9 := Lib.hid O9
                          have HA9 := Lib.hid A9
                          have HB9 := Lib.hid B9
                          clear HIP O9 A9 B9
                          go_wp2_with fail
                          go_roundw
                          case rel => exact ⟨c + 1, gi', gcap', ao9, cap9, ⟨updI s.ins c (p : Int), M, 0⟩, by omega, rfl, rfl, by go_num, HS, Lib.hid rfl, HO9, HA9, HB9⟩
                          case measure => first | (simp [intOf]; done) | (simp [intOf]; omega)
                        · have hqe : (ez != 0) = true := by simp [he]
                          have Hn := Lib.hid (show R = ([], 0, ez) by
                            rw [← HR.out]
                            refine sub_err (Int.not_lt.2 HLT.out) HINA.out (runS_bad (c := c + 1) (e := ez) ?_ he (by omega)) he
                            show (runT l i args (c + 1)).err = ez
                            rw [run_step, HRUN.out, HND.out, HAA.out, stepS_fail HERR.out HNDC.out (by rw [HAZC.out]; exact HZN.out) (by rw [HFX.out]; exact H9N.out) (by rw [HFX.out]; exact HRR.out) he])
                          obtain ⟨⟨b0, b1, b2⟩, bf0, bf1, bf2⟩ := ret_box (K3.out.below B3T.out)
                          clear he
                          go_wp2_with fail
                          refine bodyPost_ret (v := .agg #[.slice none 0 0, .int .i64 0, .int .i64 ez]) (by simp [results, Tryz.results10, go_sem, b0, b1, b2]) rfl ?_
                          rw [Hn.out]
                          exact ⟨none, 0, rfl, .inl rfl, below_set3 BWT.out (Nat.le_refl _) _ _ _⟩
                      · have HPE := Lib.hid (HPUT.out.1 rfl)
                        have Hn := Lib.hid (show R = ([], 0, 11) by
                          rw [← HR.out]
                          refine sub_err (Int.not_lt.2 HLT.out) HINA.out (runS_bad (c := c + 1) (e := 11) ?_ (by decide) (by omega)) (by decide)
                          show (runT l i args (c + 1)).err = 11
                          rw [run_step, HRUN.out, HND.out, HAA.out, stepS_fail (l' := []) (i' := 0) (e' := 11) HERR.out HNDC.out (by rw [HAZC.out]; exact HZN.out) (by rw [HFX.out]; exact H9N.out) (by rw [HFX.out]; exact HPE.out) (by decide)])
                        obtain ⟨⟨b0, b1, b2⟩, bf0, bf1, bf2⟩ := ret_box ((K3.out.below B38.out).below BO8.out)
                        go_wp2_with fail
                        refine bodyPost_ret (v := .agg #[.slice none 0 0, .int .i64 0, .int .i64 11]) (by simp [results, Tryz.results10, go_sem, b0, b1, b2]) rfl ?_
                        rw [Hn.out]
                        exact ⟨none, 0, rfl, .inl rfl, below_set3 BWO.out (Nat.le_refl _) _ _ _⟩
                    · have hq7 : (x.kind == 7) = false := by rw [beq_eq_false_iff_ne]; exact h7
                      have HPUT := Lib.hid (show addT s.now (swapT x s.ins) = putT s.now x s.ins from by unfold putT; rw [if_neg h7])
                      have HAD0 := refadd_apart gi w.heap.size s.now so sc (swapT x s.ins) xw ko2 xwc kc2 w8 (by have := HXW.out; have := HWX.out; have := K8.out.lt; omega) A8.out HTY.out (by omega) (by omega) HCP2.out.1 HCP2.out.2
                      rw [HPUT.out] at HAD0
                      unfold tyV at HAD0
                      rw [HKL.out] at HAD0
                      have HAD1 : Calls Tryz.prog 27 #[.slice so s.now.length sc, .agg #[.int .i64 x.kind, .string x.name, .int .i64 x.n, .slice xw nw xwc, .slice ko2 q kc2]] w8 (AddRA gi w.heap.size w8 (putT s.now x s.ins)) := by
                        have e : (swapT x s.ins).words.length = nw := HNW.out
                        rw [e] at HAD0
                        exact HAD0
                      have HAD := Lib.hid HAD1
                      clear HAD0 HAD1 h7
                      go_wp2_with fail
                      refine HAD.out.mono ?_
                      intro e w9 hres
                      obtain ⟨ao9, cap9, ee, p1, b9⟩ := hres
                      subst ee
                      have HGOOD := Lib.hid (fun h => put_good (t := x) (I := s.ins) HINV.out.right h)
                      obtain ⟨M, pz, ez, hRR⟩ : ∃ M pz ez, putT s.now x s.ins = (M, pz, ez) := ⟨_, _, _, rfl⟩
                      rw [hRR] at p1 HGOOD ⊢
                      have HRR := Lib.hid hRR
                      have P1 := Lib.hid p1
                      have BA9 := Lib.hid (BR8.out.trans (b9.mono BR8.out.size))
                      obtain ⟨wt, ht⟩ : ∃ wt, w9.alloc (.cells #[.slice ao9 M.length cap9, .int .i64 pz, .int .i64 ez] 33) = wt := ⟨_, rfl⟩
                      obtain ⟨kt, qt, zt⟩ := box_new ht
                      have KT := Lib.hid kt
                      have QT := Lib.hid qt
                      have BAT := Lib.hid (BA9.out.trans (qt.mono BA9.out.size))
                      have B3T := Lib.hid (HB3.out.trans (BAT.out.mono HB3.out.size))
                      have BWT := Lib.hid (B3.out.trans (B3T.out.mono B3.out.size))
                      have OT := Lib.hid (show OwnK wt w3.heap.size (.slice (some ⟨gi, 0, none⟩) c gcap) (valsI s.ins c) from row_kept HO.out BAT.out)
                      have AT := Lib.hid (P1.out.same (SameA.below qt))
                      obtain ⟨t0', t1', t2'⟩ := cell3A kt
                      have HT := Lib.hid ht
                      clear p1 b9 hRR kt qt zt x0 x1 x2 x3 x4 h8 e0 e1 e2 e3 e4 f4
                      by_cases he : ez = 0
                      · have hqe : (ez != 0) = false := by simp [he]
                        obtain ⟨-, M', p, hpM, e', -, hR', -, -, -⟩ := HGOOD.out he
                        injection e' with e1' e2'
                        injection e2' with e2' e3'
                        subst e1'
                        subst e2'
                        have hM4 := (right_step hR').1.2
                        have HS := Lib.hid (show runT l i args (c + 1) = ⟨updI s.ins c p, M, 0⟩ from by
                          rw [run_step, HRUN.out, HND.out, HAA.out, stepS_put HERR.out HNDC.out (by rw [HAZC.out]; exact HZN.out) (by rw [HFX.out]; exact H9N.out) (by rw [HFX.out, HRR.out, he])])
                        clear he hpM hR' e3'
                        have HOOu := Lib.hid (show (wt).ownsRow w3.heap.size 3 1 (.slice (some ⟨gi, 0, none⟩) c gcap) c (intC (valsI s.ins c)) from own_vals OT.out)
                        have HSZu := Lib.hid (show w3.heap.size ≤ (wt).heap.size from B3T.out.size)
                        go_wp2_with (at_builtin; refine wpList_append_own_at _ rfl _ _ 23 rfl w3.heap.size 3 k0 (.int .i64 0) 1 8 Tryz.underlying23 hki hk0 hk1 hk2 rfl (by decide) _ c (intC (valsI s.ins c)) rfl (HOOu.out.alloc _) ⟨(wt).heap.size, 0, none⟩ 1 1 [.int .i64 (p : Int)] rfl ?u1 ?u2 ?u3 ?u4 ?u5 ?u6 ?_)
                        case u1 => rfl
                        case u2 => exact cell_news _ _ _
                        case u3 => exact fun v hv => by rw [List.mem_singleton.1 hv]; rfl
                        case u4 => unfold maxLen; omega
                        case u5 => omega
                        case u6 => have := HSZu.out; simp; omega
                        intro v' w9 hown9 hgrow9 _ hblk9
                        have HIP := Lib.hid (inst_push (v := (p : Int)) OT.out AT.out B3T.out hown9 hgrow9 (by simpa [Value.ownBlock] using hblk9))
                        clear hown9 hgrow9 hblk9 HOOu HSZu
                        obtain ⟨gi', gcap', ev', O9, A9, B9⟩ := HIP.out
                        subst ev'
                        have HO9 := Lib.hid O9
                        have HA9 := Lib.hid A9
                        have HB9 := Lib.hid B9
                        clear HIP O9 A9 B9
                        go_wp2_with fail
                        go_roundw
                        case rel => exact ⟨c + 1, gi', gcap', ao9, cap9, ⟨updI s.ins c (p : Int), M, 0⟩, by omega, rfl, rfl, by go_num, HS, Lib.hid rfl, HO9, HA9, HB9⟩
                        case measure => first | (simp [intOf]; done) | (simp [intOf]; omega)
                      · have hqe : (ez != 0) = true := by simp [he]
                        have Hn := Lib.hid (show R = ([], 0, ez) by
                          rw [← HR.out]
                          refine sub_err (Int.not_lt.2 HLT.out) HINA.out (runS_bad (c := c + 1) (e := ez) ?_ he (by omega)) he
                          show (runT l i args (c + 1)).err = ez
                          rw [run_step, HRUN.out, HND.out, HAA.out, stepS_fail HERR.out HNDC.out (by rw [HAZC.out]; exact HZN.out) (by rw [HFX.out]; exact H9N.out) (by rw [HFX.out]; exact HRR.out) he])
                        obtain ⟨⟨b0, b1, b2⟩, bf0, bf1, bf2⟩ := ret_box (K3.out.below B3T.out)
                        clear he
                        go_wp2_with fail
                        refine bodyPost_ret (v := .agg #[.slice none 0 0, .int .i64 0, .int .i64 ez]) (by simp [results, Tryz.results10, go_sem, b0, b1, b2]) rfl ?_
                        rw [Hn.out]
                        exact ⟨none, 0, rfl, .inl rfl, below_set3 BWT.out (Nat.le_refl _) _ _ _⟩
        · obtain rfl : c = i + 1 := by omega
          have HSO := Lib.hid (show R = (s.now, s.ins i, 0) by rw [← HR.out]; exact sub_ok (Int.not_lt.2 HLT.out) HINA.out HRUN.out HERR.out)
          obtain ⟨⟨b0, b1, b2⟩, bf0, bf1, bf2⟩ := ret_box (K3.out.below HB3.out)
          obtain ⟨_, _, eo, hir, -⟩ := ownK_row HO.out
          injection eo with eo en1 en2
          subst eo
          clear en1 en2
          obtain ⟨ib, iof, ei, hib, hicell⟩ := hir.cells (by rw [valsI_len]; omega)
          injection ei with ei
          injection ei with ei1 ei2
          subst ei1
          subst ei2
          have cv := hicell i (by rw [valsI_len]; omega)
          rw [valsI_get (by omega), Nat.zero_add] at cv
          have hii : (i : Int) < ((i + 1 : Nat) : Int) := by omega
          clear hicell hib hir
          go_wp2_with fail
          refine bodyPost_ret (v := .agg #[.slice so s.now.length sc, .int .i64 (s.ins i), .int .i64 0]) (by simp [results, Tryz.results10, go_sem, b0, b1, b2]) rfl ?_
          rw [HSO.out]
          exact ⟨so, sc, rfl, (HNOW.out.swap.same (((SameA.set _ _ _ _).trans (SameA.set _ _ _ _)).trans (SameA.set _ _ _ _))).out, below_set3 HBW.out (Nat.le_refl _) _ _ _⟩
end Go.Proofs.YtleiaghegokjkaaGreatDoor
