import Derived.Test.YtkmnfkhchcoamaaGreatDoorSubA
import Derived.Test.YtkmnfkhchcoamaaGreatDoorTyC
import Derived.Test.YtkmnfkhchcoamaaGreatDoorRegG
/- The program's asked and partsOf. -/
namespace Go.Proofs.YtkmnfkhchcoamaaGreatDoor
open Go.RowKit
set_option linter.unusedSimpArgs false
set_option linter.unusedVariables false

def rowZ (L : Nat) (f : Nat → Int) : Array Value := ((List.range L).map fun j => Value.int .i64 (f j)).toArray
theorem rowZ_get {L : Nat} {f : Nat → Int} {j : Nat} (h : j < L) : (rowZ L f)[j]? = some (.int .i64 (f j)) := by unfold rowZ; simp [h]
theorem rowZ_size {L : Nat} {f : Nat → Int} : (rowZ L f).size = L := by simp [rowZ]
theorem rowZ_set {L : Nat} {f : Nat → Int} {k : Nat} {d : Int} : (rowZ L f).setIfInBounds k (.int .i64 d) = rowZ L fun j => if j = k then d else f j := by
  apply Array.ext_getElem?
  intro j
  by_cases hj : j < L
  · rw [rowZ_get hj]
    by_cases hk : k = j
    · subst hk
      rw [Array.getElem?_setIfInBounds_self_of_lt (by rw [rowZ_size]; exact hj)]
      simp
    · rw [Array.getElem?_setIfInBounds_ne hk, rowZ_get hj, if_neg (fun e => hk e.symm)]
  · rw [Array.getElem?_eq_none (by rw [Array.size_setIfInBounds, rowZ_size]; omega), Array.getElem?_eq_none (by rw [rowZ_size]; omega)]
theorem rowZ_made (n : Nat) : madeCells #[.int .i64 0] n = rowZ n fun _ => 0 := by
  apply Array.toList_inj.1
  rw [toList_madeCells_one]
  unfold rowZ
  simp [List.map_const']
theorem info_intZ : (Tryz.prog.info? 3).map (fun i => (i.zero, i.size, i.bytes)) = some (some (.int .i64 0), 1, 8) := by kernel_rfl
theorem make_intsZ (n : Nat) (hn : n ≤ 1000000) (w : World) :
    (Instr.makeSlice 36 (.int .i64 (n : Int)) (.int .i64 (n : Int))).run Tryz.prog w = .ok (.slice (some ⟨w.heap.size, 0, none⟩) n n) (w.alloc (.cells (rowZ n fun _ => 0) 3)) := by
  rw [← rowZ_made]
  exact run_make_row' 36 3 (.int .i64 0) 8 Tryz.underlying36 info_intZ rfl .i64 .i64 n (by omega) (by omega) w
/-- A row of integers of the call's own, told by a function. -/
def RowZP (w : World) (n : Nat) (A : Nat → Int) (e : Ending) (w' : World) : Prop := ∃ b, e = .returned (.slice (some ⟨b, 0, none⟩) n n) ∧ BlockAt w' b (rowZ n A) 3 ∧ w.heap.size ≤ b ∧ Below w.heap.size w w'
def RowBP (w : World) (n : Nat) (A : Nat → Bool) (e : Ending) (w' : World) : Prop := ∃ b, e = .returned (.slice (some ⟨b, 0, none⟩) n n) ∧ BlockAt w' b (rowB n A) 4 ∧ w.heap.size ≤ b ∧ Below w.heap.size w w'
theorem askD_zero {f : Nat → Ty} {m : Nat} : ∀ {c}, c ≤ m → askD f c m = 0
  | 0, _ => rfl
  | c + 1, h => by
    show (if m = c then _ else _) = _
    rw [if_neg (by omega)]
    exact askD_zero (by omega)
theorem updI_self (A : Nat → Int) (k : Nat) (v : Int) (h : A k = v) : updI A k v = A := by
  funext m
  unfold updI
  split
  · rename_i e; rw [e, h]
  · rfl
theorem updI_set {L : Nat} {A : Nat → Int} {k : Nat} {x v : Int} : (rowZ L (updI A k x)).setIfInBounds k (.int .i64 v) = rowZ L (updI A k v) := by
  rw [rowZ_set]
  congr 1
  funext m
  unfold updI
  split <;> rfl
theorem updI_at (A : Nat → Int) (k : Nat) (v : Int) : updI A k v k = v := by unfold updI; rw [if_pos rfl]
theorem updI_ne {A : Nat → Int} {k m : Nat} {v : Int} (h : m ≠ k) : updI A k v m = A m := by unfold updI; rw [if_neg h]
theorem right_param {l : List Ty} (h : rightT l = true) : ParamOk (funT l) := by
  intro j h9
  unfold funT at *
  by_cases hj : j < l.length
  · rw [getD_of hj] at h9 ⊢
    by_cases h22 : j < 22
    · rw [right_low h hj h22] at h9
      unfold bas at h9
      split at h9 <;> simp at h9
    · have hm := (right_high h hj h22).1
      unfold madeB at hm
      rw [Bool.and_eq_true] at hm
      have hm := hm.2
      rw [h9] at hm
      simp at hm
      omega
  · rw [List.getD_eq_getElem?_getD, List.getElem?_eq_none (by omega)] at h9
    simp [noT] at h9
theorem row_done {w w' : World} {b n : Nat} {A : Nat → Int} (h : BlockAt w' b (rowZ n A) 3) (h2 : w.heap.size ≤ b) (hb : Below w.heap.size w w') : RowZP w n A (.returned (.slice (some ⟨b, 0, none⟩) n n)) w' := ⟨b, rfl, h, h2, hb⟩
theorem rowb_done {w w' : World} {b n : Nat} {A : Nat → Bool} (h : BlockAt w' b (rowB n A) 4) (h2 : w.heap.size ≤ b) (hb : Below w.heap.size w w') : RowBP w n A (.returned (.slice (some ⟨b, 0, none⟩) n n)) w' := ⟨b, rfl, h, h2, hb⟩
set_option maxHeartbeats 16000000 in
set_option maxRecDepth 100000 in
theorem asked_any (l : List Ty) (ao : Option Addr) (ac i : Nat) (w : World) (hl : ARow w ao l) (hr : rightT l = true) (hac : l.length ≤ ac) (hi : i < l.length) :
    Calls Tryz.prog 84 #[.slice ao l.length ac, .int .i64 i] w (RowZP w (i + 1) (askD (funT l) (i + 1))) := by
  have hlen := (right_step hr).1
  have HPO := Lib.hid (right_param hr)
  obtain ⟨f, hf⟩ : ∃ f : Nat → Ty, funT l = f := ⟨_, rfl⟩
  rw [hf] at HPO ⊢
  have HF := Lib.hid (show ∀ j (hj : j < l.length), f j = l[j] from fun j hj => by rw [← hf]; exact getD_of hj)
  have HK := Lib.hid (show ∀ j (hj : j < l.length), ∀ k ∈ (f j).kids, 0 ≤ k ∧ k < (j : Int) from fun j hj => by rw [HF.out j hj]; exact right_kids hr hj)
  obtain ⟨n, hn⟩ : ∃ n, l.length = n := ⟨_, rfl⟩
  have HN := Lib.hid hn
  have HA := Lib.hid hl
  rw [hn] at hlen hac hi ⊢
  have hin : i + 1 ≤ n := hi
  obtain ⟨nb, hnb⟩ : ∃ nb, w.heap.size = nb := ⟨_, rfl⟩
  have HNB := Lib.hid (show w.heap.size ≤ nb by omega)
  have hmk := make_intsZ (i + 1) (by omega) w
  obtain ⟨w2, h2⟩ : ∃ w2, w.alloc (.cells (rowZ (i + 1) fun _ => 0) 3) = w2 := ⟨_, rfl⟩
  obtain ⟨k2, q2, z2⟩ := box_new h2
  rw [h2, hnb, show ((i + 1 : Nat) : Int) = (i : Int) + 1 by omega] at hmk
  rw [hnb] at k2
  have B2 := Lib.hid q2
  have K2 := Lib.hid (show BlockAt w2 nb (rowZ (i + 1) (askD f 0)) 3 from k2)
  clear hl hr hf hn h2 k2 q2 z2 hnb
  go_enter Tryz.func84, Tryz.ntmps84
  go_wp2_with fail
  clear hmk
  go_loopw [18] (fun v wr => ∃ k : Nat, k ≤ i + 1 ∧ v = .int .i64 k ∧ Hid (BlockAt wr nb (rowZ (i + 1) (askD f k)) 3) ∧ Hid (Below w.heap.size w wr)) (fun v _ => i + 1 - (intOf v).toNat)
  case atStart => exact ⟨0, Nat.zero_le _, rfl, K2, B2⟩
  case round =>
    obtain ⟨k, hk, rfl, KB, HB⟩ := hrel
    by_cases hkl : k < i + 1
    · have hkx : k < l.length := by rw [HN.out]; omega
      have hkI : (k : Int) < (i : Int) + 1 := by omega
      obtain ⟨ab, aof, rfl, hab, hcl⟩ := HA.out.cells (by omega)
      have hat := hcl k hkx
      rw [← HF.out k hkx] at hat
      have HKP := Lib.hid (HK.out k hkx)
      have HP9 := Lib.hid (HPO.out k)
      have HA0 := Lib.hid (fun ks => askF_in HPO.out k k ks)
      have HAA := Lib.hid (fun m => askD_in HPO.out k m)
      have HN0 := Lib.hid (show askD f (k + 1) = updI (askD f k) k (askF (askD f k) (ask0 (f k)) (f k).kids) from rfl)
      obtain ⟨x, hx⟩ : ∃ x, f k = x := ⟨_, rfl⟩
      rw [hx] at hat HKP HP9 HA0 HN0
      have HX := Lib.hid hx
      obtain ⟨xw, xwc, xk, xkc, a0', a1', a2', a3', a4', hwc, hkc, hxc⟩ := hat
      have a0 := (HB.out.cell hab).trans a0'
      have a1 := (HB.out.cell hab).trans a1'
      have a2 := (HB.out.cell hab).trans a2'
      have a3 := (HB.out.cell hab).trans a3'
      have a4 := (HB.out.cell hab).trans a4'
      obtain ⟨A, hA⟩ : ∃ A, askD f k = A := ⟨_, rfl⟩
      have HZ := Lib.hid (show A k = 0 by rw [← hA]; exact askD_zero (Nat.le_refl _))
      rw [hA] at KB HA0 HN0 HAA
      clear hx hcl hab hA a0' a1' a2' a3' a4'
      obtain ⟨wn, hwn⟩ : ∃ wn, wr.alloc (.cells #[.int .i64 x.kind, .string x.name, .int .i64 x.n, .slice xw x.words.length xwc, .slice xk x.kids.length xkc] 38) = wn := ⟨_, rfl⟩
      obtain ⟨kx, qx, zx⟩ := box_new hwn
      obtain ⟨c0, c1, c2, c3, c4⟩ := cell5 kx
      have BN := Lib.hid (HB.out.trans (qx.mono HB.out.size))
      have KN := Lib.hid (KB.out.below qx)
      have HKR := Lib.hid hxc.kids
      have hml := hxc.ok.kl
      have KX := Lib.hid kx
      have HNE := Lib.hid (show nb ≠ wr.heap.size by have := KB.out.lt; omega)
      clear kx qx zx hwc hkc hxc
      obtain ⟨m, hm⟩ : ∃ m, x.kids.length = m := ⟨_, rfl⟩
      have HM := Lib.hid hm
      rw [hm] at hml hwn c4 KX a4
      clear hm
      by_cases h9 : x.kind = 9
      · have hq : (x.kind == 9) = true := by rw [beq_iff_eq]; exact h9
        obtain ⟨g1, g2⟩ := HP9.out h9
        have HS0 := Lib.hid (show ask0 x = x.n + 1 by unfold ask0; rw [if_pos h9])
        have ck := KN.out.cell k
        rw [rowZ_get hkl] at ck
        have fk := KN.out.free k
        obtain ⟨w4, h4⟩ : ∃ w4, wn.setCell ⟨nb, k, none⟩ (.int .i64 (x.n + 1)) = w4 := ⟨_, rfl⟩
        have K4 := Lib.hid (show BlockAt w4 nb (rowZ (i + 1) (updI A k (askF A (ask0 x) (x.kids.take 0)))) 3 from by
          rw [← h4, HS0.out, List.take_zero]
          have := KN.out.set k (.int .i64 (x.n + 1))
          rw [← updI_self A k 0 HZ.out, updI_set] at this
          exact this)
        have B4 := Lib.hid (show Below w.heap.size w w4 from by rw [← h4]; exact set_below BN.out HNB.out)
        have KX4 := Lib.hid (show BlockAt w4 wr.heap.size #[.int .i64 x.kind, .string x.name, .int .i64 x.n, .slice xw x.words.length xwc, .slice xk m xkc] 38 from by rw [← h4]; exact KX.out.other (fun e => HNE.out e.symm) k _)
        obtain ⟨e0, e1, e2, e3, e4⟩ := cell5 KX4.out
        clear h9
        go_wp2_with fail
        clear e0 e1 e2 e3 e4 hwn a0 a1 a2 a3 a4 ck fk c0 c1 c2 c3 c4 h4
        go_loopw [35] (fun v wq => ∃ q : Nat, q ≤ m ∧ v = .int .i64 q ∧ Hid (BlockAt wq nb (rowZ (i + 1) (updI A k (askF A (ask0 x) (x.kids.take q)))) 3) ∧ Hid (Below w.heap.size w wq)) (fun v _ => m - (intOf v).toNat)
        case atStart => exact ⟨0, Nat.zero_le _, rfl, K4, B4⟩
        case round =>
          obtain ⟨q, hq, rfl, KQ, HQ⟩ := hrel
          by_cases hql : q < m
          · have hqx : q < x.kids.length := by rw [HM.out]; exact hql
            obtain ⟨kb, kof, rfl, hkb, hkcell⟩ := HKR.out.cells (by omega)
            have ck := hkcell q hqx
            obtain ⟨g1, g2⟩ := HKP.out _ (getD_mem hqx)
            obtain ⟨z, hz⟩ : ∃ z : Nat, x.kids.getD q 0 = (z : Int) := ⟨(x.kids.getD q 0).toNat, by omega⟩
            have hsn := askF_snoc (A := A) (n := ask0 x) hqx
            rw [hz] at ck g2 hsn
            rw [Int.toNat_natCast] at hsn
            have hzp : z < k := by omega
            have hzi : z < i + 1 := by omega
            have hzI : (z : Int) < (i : Int) + 1 := by omega
            have hck2 : ¬ k = z := by omega
            have ck2 : wr.cell? ⟨kb, kof + q, none⟩ = some (.int .i64 (z : Int)) := by rw [HQ.out.cell (p := ⟨kb, kof + q, none⟩) hkb]; exact ck
            obtain ⟨x1, hx1⟩ := HA0.out (x.kids.take q)
            obtain ⟨y1, hy1⟩ := HAA.out z
            have cx := KQ.out.cell k
            have cz := KQ.out.cell z
            rw [rowZ_get hkl, updI_at] at cx
            rw [rowZ_get hzi, updI_ne (by omega)] at cz
            have hff := KQ.out.free k
            obtain ⟨x0, hx0⟩ : ∃ v, askF A (ask0 x) (x.kids.take q) = v := ⟨_, rfl⟩
            obtain ⟨y0, hy0⟩ : ∃ v, A z = v := ⟨_, rfl⟩
            obtain ⟨z0, hz0⟩ : ∃ v, max x0 y0 = v := ⟨_, rfl⟩
            rw [hx0] at cx x1 hx1 hsn
            rw [hy0] at cz y1 hy1 hsn
            rw [hz0] at hsn
            have HSN := Lib.hid hsn
            have Hmax : ∀ (ts : Array TypeId) (t : TypeId) (W : World), (Builtin.max_ ts t #[.int .i64 x0, .int .i64 y0]).run Tryz.prog W = .ok (.int .i64 z0) W := fun ts t W => by rw [run_max_int2, show (if y0 > x0 then y0 else x0) = z0 by rw [← hz0]; split <;> omega]
            have KQ2 := Lib.hid (show BlockAt (wr.setCell ⟨nb, k, none⟩ (.int .i64 z0)).drew nb (rowZ (i + 1) (updI A k (askF A (ask0 x) (x.kids.take (q + 1))))) 3 from by
              rw [HSN.out, ← updI_set (x := askF A (ask0 x) (x.kids.take q))]
              exact KQ.out.set k _)
            have BQ2 := Lib.hid (show Below w.heap.size w (wr.setCell ⟨nb, k, none⟩ (.int .i64 z0)).drew from (set_below HQ.out HNB.out).drew)
            clear hsn hz hx0 hy0 hz0 ck hkcell hkb g1
            go_upto_region 10 with fail
            refine GoG.start [(12, ⟨nb, k, none⟩, .int .i64 x0), (13, ⟨nb, z, none⟩, .int .i64 y0)] (by kernel_rfl) ?_ ?_
            · exact Keeps.cons (by first | assumption | simp [*]) (Keeps.cons (by first | assumption | simp [*]) (Keeps.nil))
            refine GoG.take (i := 0) (v := ?_) [] rfl (by kernel_rfl) (by kernel_rfl) (by kernel_rfl) (by kernel_rfl) (by kernel_rfl) (by kernel_rfl) (fun _ _ _ h => h) (yields_free (by rfl) (fun w => ?_)) ?_
            rotate_left
            · go_simp; try (with_reducible rfl)
            try simp only [Act.put, List.getElem_toArray, List.getElem_cons_succ, List.getElem_cons_zero, List.setIfInBounds_toArray, List.set_cons_zero, List.set_cons_succ]
            refine GoG.take (i := 1) (v := ?_) [] rfl (by kernel_rfl) (by kernel_rfl) (by kernel_rfl) (by kernel_rfl) (by kernel_rfl) (by kernel_rfl) (fun _ _ _ h => h) (yields_free (by rfl) (fun w => ?_)) ?_
            rotate_left
            · go_simp; try (with_reducible rfl)
            try simp only [Act.put, List.getElem_toArray, List.getElem_cons_succ, List.getElem_cons_zero, List.setIfInBounds_toArray, List.set_cons_zero, List.set_cons_succ]
            refine GoG.take (i := 2) (v := ?_) [] rfl (by kernel_rfl) (by kernel_rfl) (by kernel_rfl) (by kernel_rfl) (by kernel_rfl) (by kernel_rfl) (fun _ _ _ h => h) (yields_free (by rfl) (fun w => ?_)) ?_
            rotate_left
            · go_simp; try (with_reducible rfl)
            try simp only [Act.put, List.getElem_toArray, List.getElem_cons_succ, List.getElem_cons_zero, List.setIfInBounds_toArray, List.set_cons_zero, List.set_cons_succ]
            refine GoG.take (i := 3) (v := ?_) [] rfl (by kernel_rfl) (by kernel_rfl) (by kernel_rfl) (by kernel_rfl) (by kernel_rfl) (by kernel_rfl) (fun _ _ _ h => h) (yields_free (by rfl) (fun w => ?_)) ?_
            rotate_left
            · go_simp; try (with_reducible rfl)
            try simp only [Act.put, List.getElem_toArray, List.getElem_cons_succ, List.getElem_cons_zero, List.setIfInBounds_toArray, List.set_cons_zero, List.set_cons_succ]
            refine GoG.take (i := 4) (v := ?_) [] rfl (by kernel_rfl) (by kernel_rfl) (by kernel_rfl) (by kernel_rfl) (by kernel_rfl) (by kernel_rfl) (fun _ _ _ h => h) (yields_free (by rfl) (fun w => ?_)) ?_
            rotate_left
            · go_simp; try (with_reducible rfl)
            try simp only [Act.put, List.getElem_toArray, List.getElem_cons_succ, List.getElem_cons_zero, List.setIfInBounds_toArray, List.set_cons_zero, List.set_cons_succ]
            refine GoG.take (i := 5) (v := ?_) [10, 12] rfl (by kernel_rfl) (by kernel_rfl) (by kernel_rfl) (by kernel_rfl) (by kernel_rfl) (by kernel_rfl) (fun _ _ _ h => h) (yields_load 12 ⟨nb, k, none⟩ (.int .i64 x0) (by simp) (by decide) (by rfl) (fun w hw => ?_)) ?_
            rotate_left
            · go_simp; try (with_reducible rfl)
            try simp only [Act.put, List.getElem_toArray, List.getElem_cons_succ, List.getElem_cons_zero, List.setIfInBounds_toArray, List.set_cons_zero, List.set_cons_succ]
            refine GoG.take (i := 6) (v := ?_) [] rfl (by kernel_rfl) (by kernel_rfl) (by kernel_rfl) (by kernel_rfl) (by kernel_rfl) (by kernel_rfl) (fun _ _ _ h => h) (yields_free (by rfl) (fun w => ?_)) ?_
            rotate_left
            · go_simp; try (with_reducible rfl)
            try simp only [Act.put, List.getElem_toArray, List.getElem_cons_succ, List.getElem_cons_zero, List.setIfInBounds_toArray, List.set_cons_zero, List.set_cons_succ]
            refine GoG.take (i := 7) (v := ?_) [] rfl (by kernel_rfl) (by kernel_rfl) (by kernel_rfl) (by kernel_rfl) (by kernel_rfl) (by kernel_rfl) (fun _ _ _ h => h) (yields_free (by rfl) (fun w => ?_)) ?_
            rotate_left
            · go_simp; try (with_reducible rfl)
            try simp only [Act.put, List.getElem_toArray, List.getElem_cons_succ, List.getElem_cons_zero, List.setIfInBounds_toArray, List.set_cons_zero, List.set_cons_succ]
            refine GoG.take (i := 8) (v := ?_) [] rfl (by kernel_rfl) (by kernel_rfl) (by kernel_rfl) (by kernel_rfl) (by kernel_rfl) (by kernel_rfl) (fun _ _ _ h => h) (yields_free (by rfl) (fun w => ?_)) ?_
            rotate_left
            · go_simp; try (with_reducible rfl)
            try simp only [Act.put, List.getElem_toArray, List.getElem_cons_succ, List.getElem_cons_zero, List.setIfInBounds_toArray, List.set_cons_zero, List.set_cons_succ]
            refine GoG.take (i := 9) (v := ?_) [10, 12, 13] rfl (by kernel_rfl) (by kernel_rfl) (by kernel_rfl) (by kernel_rfl) (by kernel_rfl) (by kernel_rfl) (fun _ _ _ h => h) (yields_load 13 ⟨nb, z, none⟩ (.int .i64 y0) (by simp) (by decide) (by rfl) (fun w hw => ?_)) ?_
            rotate_left
            · go_simp; try (with_reducible rfl)
            try simp only [Act.put, List.getElem_toArray, List.getElem_cons_succ, List.getElem_cons_zero, List.setIfInBounds_toArray, List.set_cons_zero, List.set_cons_succ]
            refine GoG.take (i := 10) (v := ?_) [] rfl (by kernel_rfl) (by kernel_rfl) (by kernel_rfl) (by kernel_rfl) (by kernel_rfl) (by kernel_rfl) (fun _ _ _ h => h) (yields_free (by rfl) (fun w => ?_)) ?_
            rotate_left
            · go_simp; try (with_reducible rfl)
            try simp only [Act.put, List.getElem_toArray, List.getElem_cons_succ, List.getElem_cons_zero, List.setIfInBounds_toArray, List.set_cons_zero, List.set_cons_succ]
            refine GoG.take (i := 11) (v := ?_) [] rfl (by kernel_rfl) (by kernel_rfl) (by kernel_rfl) (by kernel_rfl) (by kernel_rfl) (by kernel_rfl) (fun _ _ _ h => h) (yields_free (by rfl) (fun w => ?_)) ?_
            rotate_left
            · go_simp; try (with_reducible rfl)
            try simp only [Act.put, List.getElem_toArray, List.getElem_cons_succ, List.getElem_cons_zero, List.setIfInBounds_toArray, List.set_cons_zero, List.set_cons_succ]
            refine GoG.one (i := 12) rfl (by kernel_rfl) (fun K hK => ?_)
            go_simp
            refine hK.out _ _ (Keeps.up (by rfl) (Keeps.cons (by go_simp) (Keeps.nil))) ?_
            clear hK K
            refine GoG.done (by kernel_rfl) ?_ _
            clear cx cz hff ck2 Hmax
            go_wp2_with fail
            go_roundw
            case rel => exact ⟨q + 1, by omega, by go_num, KQ2, BQ2⟩
            case measure => first | (simp [intOf]; done) | (simp [intOf]; omega)
          · have HQM := Lib.hid (show x.kids.take q = x.kids from List.take_of_length_le (by rw [HM.out]; omega))
            have KN2 := Lib.hid (show BlockAt wr nb (rowZ (i + 1) (askD f (k + 1))) 3 from by
              rw [HN0.out, ← HQM.out]
              exact KQ.out)
            go_wp2_with fail
            go_roundw
            case rel => exact ⟨k + 1, by omega, by go_num, KN2, HQ⟩
            case measure => first | (simp [intOf]; done) | (simp [intOf]; omega)
      · have hq : (x.kind == 9) = false := by rw [beq_eq_false_iff_ne]; exact h9
        have HS0 := Lib.hid (show ask0 x = 0 by unfold ask0; rw [if_neg h9])
        have K4 := Lib.hid (show BlockAt wn nb (rowZ (i + 1) (updI A k (askF A (ask0 x) (x.kids.take 0)))) 3 from by
          rw [HS0.out, List.take_zero]
          show BlockAt wn nb (rowZ (i + 1) (updI A k 0)) 3
          rw [updI_self A k 0 HZ.out]
          exact KN.out)
        have B4 := BN
        clear h9
        go_wp2_with fail
        clear c0 c1 c2 c3 c4 hwn a0 a1 a2 a3 a4
        go_loopw [35] (fun v wq => ∃ q : Nat, q ≤ m ∧ v = .int .i64 q ∧ Hid (BlockAt wq nb (rowZ (i + 1) (updI A k (askF A (ask0 x) (x.kids.take q)))) 3) ∧ Hid (Below w.heap.size w wq)) (fun v _ => m - (intOf v).toNat)
        case atStart => exact ⟨0, Nat.zero_le _, rfl, K4, B4⟩
        case round =>
          obtain ⟨q, hq, rfl, KQ, HQ⟩ := hrel
          by_cases hql : q < m
          · have hqx : q < x.kids.length := by rw [HM.out]; exact hql
            obtain ⟨kb, kof, rfl, hkb, hkcell⟩ := HKR.out.cells (by omega)
            have ck := hkcell q hqx
            obtain ⟨g1, g2⟩ := HKP.out _ (getD_mem hqx)
            obtain ⟨z, hz⟩ : ∃ z : Nat, x.kids.getD q 0 = (z : Int) := ⟨(x.kids.getD q 0).toNat, by omega⟩
            have hsn := askF_snoc (A := A) (n := ask0 x) hqx
            rw [hz] at ck g2 hsn
            rw [Int.toNat_natCast] at hsn
            have hzp : z < k := by omega
            have hzi : z < i + 1 := by omega
            have hzI : (z : Int) < (i : Int) + 1 := by omega
            have hck2 : ¬ k = z := by omega
            have ck2 : wr.cell? ⟨kb, kof + q, none⟩ = some (.int .i64 (z : Int)) := by rw [HQ.out.cell (p := ⟨kb, kof + q, none⟩) hkb]; exact ck
            obtain ⟨x1, hx1⟩ := HA0.out (x.kids.take q)
            obtain ⟨y1, hy1⟩ := HAA.out z
            have cx := KQ.out.cell k
            have cz := KQ.out.cell z
            rw [rowZ_get hkl, updI_at] at cx
            rw [rowZ_get hzi, updI_ne (by omega)] at cz
            have hff := KQ.out.free k
            obtain ⟨x0, hx0⟩ : ∃ v, askF A (ask0 x) (x.kids.take q) = v := ⟨_, rfl⟩
            obtain ⟨y0, hy0⟩ : ∃ v, A z = v := ⟨_, rfl⟩
            obtain ⟨z0, hz0⟩ : ∃ v, max x0 y0 = v := ⟨_, rfl⟩
            rw [hx0] at cx x1 hx1 hsn
            rw [hy0] at cz y1 hy1 hsn
            rw [hz0] at hsn
            have HSN := Lib.hid hsn
            have Hmax : ∀ (ts : Array TypeId) (t : TypeId) (W : World), (Builtin.max_ ts t #[.int .i64 x0, .int .i64 y0]).run Tryz.prog W = .ok (.int .i64 z0) W := fun ts t W => by rw [run_max_int2, show (if y0 > x0 then y0 else x0) = z0 by rw [← hz0]; split <;> omega]
            have KQ2 := Lib.hid (show BlockAt (wr.setCell ⟨nb, k, none⟩ (.int .i64 z0)).drew nb (rowZ (i + 1) (updI A k (askF A (ask0 x) (x.kids.take (q + 1))))) 3 from by
              rw [HSN.out, ← updI_set (x := askF A (ask0 x) (x.kids.take q))]
              exact KQ.out.set k _)
            have BQ2 := Lib.hid (show Below w.heap.size w (wr.setCell ⟨nb, k, none⟩ (.int .i64 z0)).drew from (set_below HQ.out HNB.out).drew)
            clear hsn hz hx0 hy0 hz0 ck hkcell hkb g1
            go_upto_region 10 with fail
            refine GoG.start [(12, ⟨nb, k, none⟩, .int .i64 x0), (13, ⟨nb, z, none⟩, .int .i64 y0)] (by kernel_rfl) ?_ ?_
            · exact Keeps.cons (by first | assumption | simp [*]) (Keeps.cons (by first | assumption | simp [*]) (Keeps.nil))
            refine GoG.take (i := 0) (v := ?_) [] rfl (by kernel_rfl) (by kernel_rfl) (by kernel_rfl) (by kernel_rfl) (by kernel_rfl) (by kernel_rfl) (fun _ _ _ h => h) (yields_free (by rfl) (fun w => ?_)) ?_
            rotate_left
            · go_simp; try (with_reducible rfl)
            try simp only [Act.put, List.getElem_toArray, List.getElem_cons_succ, List.getElem_cons_zero, List.setIfInBounds_toArray, List.set_cons_zero, List.set_cons_succ]
            refine GoG.take (i := 1) (v := ?_) [] rfl (by kernel_rfl) (by kernel_rfl) (by kernel_rfl) (by kernel_rfl) (by kernel_rfl) (by kernel_rfl) (fun _ _ _ h => h) (yields_free (by rfl) (fun w => ?_)) ?_
            rotate_left
            · go_simp; try (with_reducible rfl)
            try simp only [Act.put, List.getElem_toArray, List.getElem_cons_succ, List.getElem_cons_zero, List.setIfInBounds_toArray, List.set_cons_zero, List.set_cons_succ]
            refine GoG.take (i := 2) (v := ?_) [] rfl (by kernel_rfl) (by kernel_rfl) (by kernel_rfl) (by kernel_rfl) (by kernel_rfl) (by kernel_rfl) (fun _ _ _ h => h) (yields_free (by rfl) (fun w => ?_)) ?_
            rotate_left
            · go_simp; try (with_reducible rfl)
            try simp only [Act.put, List.getElem_toArray, List.getElem_cons_succ, List.getElem_cons_zero, List.setIfInBounds_toArray, List.set_cons_zero, List.set_cons_succ]
            refine GoG.take (i := 3) (v := ?_) [] rfl (by kernel_rfl) (by kernel_rfl) (by kernel_rfl) (by kernel_rfl) (by kernel_rfl) (by kernel_rfl) (fun _ _ _ h => h) (yields_free (by rfl) (fun w => ?_)) ?_
            rotate_left
            · go_simp; try (with_reducible rfl)
            try simp only [Act.put, List.getElem_toArray, List.getElem_cons_succ, List.getElem_cons_zero, List.setIfInBounds_toArray, List.set_cons_zero, List.set_cons_succ]
            refine GoG.take (i := 4) (v := ?_) [] rfl (by kernel_rfl) (by kernel_rfl) (by kernel_rfl) (by kernel_rfl) (by kernel_rfl) (by kernel_rfl) (fun _ _ _ h => h) (yields_free (by rfl) (fun w => ?_)) ?_
            rotate_left
            · go_simp; try (with_reducible rfl)
            try simp only [Act.put, List.getElem_toArray, List.getElem_cons_succ, List.getElem_cons_zero, List.setIfInBounds_toArray, List.set_cons_zero, List.set_cons_succ]
            refine GoG.take (i := 5) (v := ?_) [10, 12] rfl (by kernel_rfl) (by kernel_rfl) (by kernel_rfl) (by kernel_rfl) (by kernel_rfl) (by kernel_rfl) (fun _ _ _ h => h) (yields_load 12 ⟨nb, k, none⟩ (.int .i64 x0) (by simp) (by decide) (by rfl) (fun w hw => ?_)) ?_
            rotate_left
            · go_simp; try (with_reducible rfl)
            try simp only [Act.put, List.getElem_toArray, List.getElem_cons_succ, List.getElem_cons_zero, List.setIfInBounds_toArray, List.set_cons_zero, List.set_cons_succ]
            refine GoG.take (i := 6) (v := ?_) [] rfl (by kernel_rfl) (by kernel_rfl) (by kernel_rfl) (by kernel_rfl) (by kernel_rfl) (by kernel_rfl) (fun _ _ _ h => h) (yields_free (by rfl) (fun w => ?_)) ?_
            rotate_left
            · go_simp; try (with_reducible rfl)
            try simp only [Act.put, List.getElem_toArray, List.getElem_cons_succ, List.getElem_cons_zero, List.setIfInBounds_toArray, List.set_cons_zero, List.set_cons_succ]
            refine GoG.take (i := 7) (v := ?_) [] rfl (by kernel_rfl) (by kernel_rfl) (by kernel_rfl) (by kernel_rfl) (by kernel_rfl) (by kernel_rfl) (fun _ _ _ h => h) (yields_free (by rfl) (fun w => ?_)) ?_
            rotate_left
            · go_simp; try (with_reducible rfl)
            try simp only [Act.put, List.getElem_toArray, List.getElem_cons_succ, List.getElem_cons_zero, List.setIfInBounds_toArray, List.set_cons_zero, List.set_cons_succ]
            refine GoG.take (i := 8) (v := ?_) [] rfl (by kernel_rfl) (by kernel_rfl) (by kernel_rfl) (by kernel_rfl) (by kernel_rfl) (by kernel_rfl) (fun _ _ _ h => h) (yields_free (by rfl) (fun w => ?_)) ?_
            rotate_left
            · go_simp; try (with_reducible rfl)
            try simp only [Act.put, List.getElem_toArray, List.getElem_cons_succ, List.getElem_cons_zero, List.setIfInBounds_toArray, List.set_cons_zero, List.set_cons_succ]
            refine GoG.take (i := 9) (v := ?_) [10, 12, 13] rfl (by kernel_rfl) (by kernel_rfl) (by kernel_rfl) (by kernel_rfl) (by kernel_rfl) (by kernel_rfl) (fun _ _ _ h => h) (yields_load 13 ⟨nb, z, none⟩ (.int .i64 y0) (by simp) (by decide) (by rfl) (fun w hw => ?_)) ?_
            rotate_left
            · go_simp; try (with_reducible rfl)
            try simp only [Act.put, List.getElem_toArray, List.getElem_cons_succ, List.getElem_cons_zero, List.setIfInBounds_toArray, List.set_cons_zero, List.set_cons_succ]
            refine GoG.take (i := 10) (v := ?_) [] rfl (by kernel_rfl) (by kernel_rfl) (by kernel_rfl) (by kernel_rfl) (by kernel_rfl) (by kernel_rfl) (fun _ _ _ h => h) (yields_free (by rfl) (fun w => ?_)) ?_
            rotate_left
            · go_simp; try (with_reducible rfl)
            try simp only [Act.put, List.getElem_toArray, List.getElem_cons_succ, List.getElem_cons_zero, List.setIfInBounds_toArray, List.set_cons_zero, List.set_cons_succ]
            refine GoG.take (i := 11) (v := ?_) [] rfl (by kernel_rfl) (by kernel_rfl) (by kernel_rfl) (by kernel_rfl) (by kernel_rfl) (by kernel_rfl) (fun _ _ _ h => h) (yields_free (by rfl) (fun w => ?_)) ?_
            rotate_left
            · go_simp; try (with_reducible rfl)
            try simp only [Act.put, List.getElem_toArray, List.getElem_cons_succ, List.getElem_cons_zero, List.setIfInBounds_toArray, List.set_cons_zero, List.set_cons_succ]
            refine GoG.one (i := 12) rfl (by kernel_rfl) (fun K hK => ?_)
            go_simp
            refine hK.out _ _ (Keeps.up (by rfl) (Keeps.cons (by go_simp) (Keeps.nil))) ?_
            clear hK K
            refine GoG.done (by kernel_rfl) ?_ _
            clear cx cz hff ck2 Hmax
            go_wp2_with fail
            go_roundw
            case rel => exact ⟨q + 1, by omega, by go_num, KQ2, BQ2⟩
            case measure => first | (simp [intOf]; done) | (simp [intOf]; omega)
          · have HQM := Lib.hid (show x.kids.take q = x.kids from List.take_of_length_le (by rw [HM.out]; omega))
            have KN2 := Lib.hid (show BlockAt wr nb (rowZ (i + 1) (askD f (k + 1))) 3 from by
              rw [HN0.out, ← HQM.out]
              exact KQ.out)
            go_wp2_with fail
            go_roundw
            case rel => exact ⟨k + 1, by omega, by go_num, KN2, HQ⟩
            case measure => first | (simp [intOf]; done) | (simp [intOf]; omega)
    · obtain rfl : k = i + 1 := by omega
      go_wp2_with fail
      go_ret
      exact row_done KB.out HNB.out HB.out
set_option maxHeartbeats 16000000 in
set_option maxRecDepth 100000 in
theorem parts_any (l : List Ty) (ao : Option Addr) (ac i : Nat) (w : World) (hl : ARow w ao l) (hr : rightT l = true) (hac : l.length ≤ ac) (hi : i < l.length) :
    Calls Tryz.prog 85 #[.slice ao l.length ac, .int .i64 i] w (RowBP w (i + 1) (needD (funT l) i (i + 1))) := by
  have hlen := (right_step hr).1
  obtain ⟨f, hf⟩ : ∃ f : Nat → Ty, funT l = f := ⟨_, rfl⟩
  rw [hf]
  have HF := Lib.hid (show ∀ j (hj : j < l.length), f j = l[j] from fun j hj => by rw [← hf]; exact getD_of hj)
  have HK := Lib.hid (show ∀ j (hj : j < l.length), ∀ k ∈ (f j).kids, 0 ≤ k ∧ k < (j : Int) from fun j hj => by rw [HF.out j hj]; exact right_kids hr hj)
  obtain ⟨n, hn⟩ : ∃ n, l.length = n := ⟨_, rfl⟩
  have HN := Lib.hid hn
  have HA := Lib.hid hl
  rw [hn] at hlen hac hi ⊢
  obtain ⟨nb, hnb⟩ : ∃ nb, w.heap.size = nb := ⟨_, rfl⟩
  have HNB := Lib.hid (show w.heap.size ≤ nb by omega)
  have hmk := make_boolsT (i + 1) (by omega) w
  obtain ⟨w2, h2⟩ : ∃ w2, w.alloc (.cells (rowB (i + 1) fun _ => false) 4) = w2 := ⟨_, rfl⟩
  obtain ⟨k2, q2, z2⟩ := box_new h2
  rw [h2, hnb, show ((i + 1 : Nat) : Int) = (i : Int) + 1 by omega] at hmk
  rw [hnb] at k2
  have B2 := Lib.hid q2
  obtain ⟨w3, h3⟩ : ∃ w3, w2.setCell ⟨nb, i, none⟩ (.bool true) = w3 := ⟨_, rfl⟩
  have K3 := Lib.hid (show BlockAt w3 nb (rowB (i + 1) (needD f i 0)) 4 from by rw [← h3, ← need_start f]; exact k2.set i _)
  have B3 := Lib.hid (show Below w.heap.size w w3 from by rw [← h3]; exact set_below B2.out HNB.out)
  have ci := k2.cell i
  rw [rowB_get (by omega)] at ci
  have fi := k2.free i
  clear hl hr hf hn h2 k2 q2 z2 hnb
  go_enter Tryz.func85, Tryz.ntmps85
  go_wp2_with fail
  clear hmk ci fi h3
  go_loopw [6] (fun v wr => ∃ c j : Nat, c + j = i + 1 ∧ v = .int .i64 ((j : Int) - 1) ∧ Hid (BlockAt wr nb (rowB (i + 1) (needD f i c)) 4) ∧ Hid (Below w.heap.size w wr)) (fun v _ => (intOf v + 1).toNat)
  case atStart => exact ⟨0, i + 1, by omega, by (rw [show ((i + 1 : Nat) : Int) - 1 = (i : Int) by omega]), K3, B3⟩
  case round =>
    obtain ⟨c, j, hcj, rfl, KB, HB⟩ := hrel
    by_cases hj0 : j = 0
    · have hneg : (j : Int) - 1 < 0 := by omega
      obtain rfl : c = i + 1 := by omega
      clear hj0
      go_wp2_with fail
      go_ret
      exact rowb_done KB.out HNB.out HB.out
    · obtain ⟨p, rfl⟩ : ∃ p, j = p + 1 := ⟨j - 1, by omega⟩
      have hpi : p ≤ i := by omega
      have HP := Lib.hid (show i - c = p by omega)
      have hpx : p < l.length := by rw [HN.out]; omega
      obtain ⟨ab, aof, rfl, hab, hcl⟩ := HA.out.cells (by omega)
      have hat := hcl p hpx
      rw [← HF.out p hpx] at hat
      have HKP := Lib.hid (HK.out p hpx)
      obtain ⟨x, hx⟩ : ∃ x, f p = x := ⟨_, rfl⟩
      rw [hx] at hat HKP
      have HX := Lib.hid hx
      obtain ⟨xw, xwc, xk, xkc, a0, a1, a2, a3, a4, hwc, hkc, hxc⟩ := hat
      have HXC := Lib.hid hxc
      have a4 : wr.cell? ⟨ab, aof + p * 5 + 4, none⟩ = some (.slice xk x.kids.length xkc) := by rw [HB.out.cell (p := ⟨ab, aof + p * 5 + 4, none⟩) hab]; exact a4
      obtain ⟨m, hm⟩ : ∃ m, x.kids.length = m := ⟨_, rfl⟩
      have HM := Lib.hid hm
      have hml := hxc.ok.kl
      rw [hm] at a4 hml
      have hsub : ((p + 1 : Nat) : Int) - 1 = (p : Int) := by omega
      rw [hsub]
      have hsub1 : (p : Int) - 1 = (p : Int) + 1 - 1 - 1 := by omega
      obtain ⟨wo2, hwo2⟩ : ∃ wo2, wo2 = wr := ⟨_, rfl⟩
      subst hwo2
      clear hx hcl hab hwc hkc hxc hm hsub1 hsub a0 a1 a2 a3
      go_wp2_with fail
      clear a4
      go_loopw [26] (fun v wr => ∃ q : Nat, q ≤ m ∧ v = .int .i64 q ∧ Hid (BlockAt wr nb (rowB (i + 1) (kmark (needD f i c) p (x.kids.take q))) 4) ∧ Hid (Below w.heap.size w wr)) (fun v _ => m - (intOf v).toNat)
      case atStart => exact ⟨0, Nat.zero_le _, rfl, by (rw [List.take_zero, kmark_nil]; exact KB), HB⟩
      case round =>
        obtain ⟨q, hq, rfl, KQ, HQ⟩ := hrel
        by_cases hql : q < m
        · have hqx : q < x.kids.length := by rw [HM.out]; exact hql
          obtain ⟨kb, kof, rfl, hkb, hkcell⟩ := HXC.out.kids.cells (by omega)
          have ck := hkcell q hqx
          obtain ⟨g1, g2⟩ := HKP.out _ (getD_mem hqx)
          obtain ⟨z, hz⟩ : ∃ z : Nat, x.kids.getD q 0 = (z : Int) := ⟨(x.kids.getD q 0).toNat, by omega⟩
          rw [hz] at ck g2
          have hzp : z < p := by omega
          have HST := Lib.hid (kmark_step (nd := needD f i c) (j := p) hqx hz (by omega))
          have HKM := Lib.hid (show kmark (needD f i c) p (x.kids.take q) p = needD f i c p from kmark_self _ _ _)
          obtain ⟨nd, hnd⟩ : ∃ nd, kmark (needD f i c) p (x.kids.take q) = nd := ⟨_, rfl⟩
          rw [hnd] at KQ HST
          have HND := Lib.hid hnd
          have cz := KQ.out.cell z
          have cp := KQ.out.cell p
          rw [rowB_get (by omega)] at cz cp
          have fz := KQ.out.free z
          have ck2 : wr.cell? ⟨kb, kof + q, none⟩ = some (.int .i64 (z : Int)) := by rw [HQ.out.cell (p := ⟨kb, kof + q, none⟩) hkb]; exact ck
          clear hnd hz ck hkcell hkb g1
          cases hnz : nd z
          · rw [hnz] at cz
            have HZ := Lib.hid hnz
            clear hnz
            obtain ⟨bp, hbp⟩ : ∃ bp, nd p = bp := ⟨_, rfl⟩
            rw [hbp] at cp
            obtain ⟨w7, h7⟩ : ∃ w7, wr.setCell ⟨nb, z, none⟩ (.bool bp) = w7 := ⟨_, rfl⟩
            have KQ7 := Lib.hid (show BlockAt w7 nb (rowB (i + 1) (kmark (needD f i c) p (x.kids.take (q + 1)))) 4 from by
              rw [← HST.out, HZ.out, hbp, Bool.false_or, ← rowB_set, ← h7]
              exact KQ.out.set z _)
            have B7 := Lib.hid (show Below w.heap.size w w7 from by rw [← h7]; exact set_below HQ.out HNB.out)
            clear hbp
            go_wp2_with fail
            go_roundw
            case rel => exact ⟨q + 1, by omega, by go_num, KQ7, B7⟩
            case measure => first | (simp [intOf]; done) | (simp [intOf]; omega)
          · rw [hnz] at cz
            have HZ := Lib.hid hnz
            clear hnz
            obtain ⟨w7, h7⟩ : ∃ w7, wr.setCell ⟨nb, z, none⟩ (.bool true) = w7 := ⟨_, rfl⟩
            have KQ7 := Lib.hid (show BlockAt w7 nb (rowB (i + 1) (kmark (needD f i c) p (x.kids.take (q + 1)))) 4 from by
              rw [← HST.out, HZ.out, Bool.true_or, ← rowB_set, ← h7]
              exact KQ.out.set z _)
            have B7 := Lib.hid (show Below w.heap.size w w7 from by rw [← h7]; exact set_below HQ.out HNB.out)
            go_wp2_with fail
            go_roundw
            case rel => exact ⟨q + 1, by omega, by go_num, KQ7, B7⟩
            case measure => first | (simp [intOf]; done) | (simp [intOf]; omega)
        · have HQM := Lib.hid (show x.kids.take q = x.kids from List.take_of_length_le (by rw [HM.out]; omega))
          rw [HQM.out] at KQ
          have KN := Lib.hid (show BlockAt wr nb (rowB (i + 1) (needD f i (c + 1))) 4 from by
            show BlockAt wr nb (rowB (i + 1) (kmark (needD f i c) (i - c) (f (i - c)).kids)) 4
            rw [HP.out, HX.out]
            exact KQ.out)
          go_wp2_with fail
          go_roundw
          case rel => exact ⟨c + 1, p, by omega, by first | rfl | go_num, KN, HQ⟩
          case measure => first | (simp [intOf]; done) | (simp [intOf]; omega)
end Go.Proofs.YtkmnfkhchcoamaaGreatDoor
/- The program's there and Params. -/
namespace Go.Proofs.YtkmnfkhchcoamaaGreatDoor
open Go.RowKit
set_option linter.unusedSimpArgs false
set_option linter.unusedVariables false

/-- What is wrong with an arena, or the place of a type. -/
def thereT (l : List Ty) (i : Int) : Int := if rightT l = false then 1 else if i < 0 ∨ (l.length : Int) ≤ i then 8 else 0
theorem there_wrong {l : List Ty} {i : Int} (h : rightT l = false) : thereT l i = 1 := by unfold thereT; rw [if_pos h]
theorem there_none {l : List Ty} {i : Int} (h : rightT l = true) (h2 : i < 0 ∨ (l.length : Int) ≤ i) : thereT l i = 8 := by unfold thereT; rw [if_neg (by rw [h]; decide), if_pos h2]
theorem there_ok {l : List Ty} {i : Int} (h : rightT l = true) (h2 : 0 ≤ i) (h3 : i < (l.length : Int)) : thereT l i = 0 := by unfold thereT; rw [if_neg (by rw [h]; decide), if_neg (by omega)]
theorem there_zero {l : List Ty} {i : Int} (h : thereT l i = 0) : rightT l = true ∧ 0 ≤ i ∧ i < (l.length : Int) := by
  unfold thereT at h
  split at h
  · cases h
  · rename_i h1
    split at h
    · cases h
    · exact ⟨by cases hr : rightT l; exact absurd hr h1; rfl, by omega, by omega⟩
set_option maxHeartbeats 4000000 in
theorem there_any (l : List Ty) (ao : Option Addr) (ac : Nat) (i : Int) (w : World) (hl : ARow w ao l) (ll : l.length ≤ 1000) (hac : l.length ≤ ac) (hE : Env w) :
    Calls Tryz.prog 83 #[.slice ao l.length ac, .int .i64 i] w fun e w' => e = .returned (.int .i64 (thereT l i)) ∧ Below w.heap.size w w' := by
  have HR := Lib.hid (pright_any l ao ac w hl ll hac hE)
  cases hr : rightT l
  · rw [there_wrong hr]
    rw [hr] at HR
    obtain ⟨n, hn⟩ : ∃ n, l.length = n := ⟨_, rfl⟩
    rw [hn] at HR ⊢
    clear hr hn hl hE ll hac
    go_enter Tryz.func83, Tryz.ntmps83
    go_wp2_with fail
    refine HR.out.mono ?_
    rintro e w' ⟨rfl, b⟩
    have B := Lib.hid b
    clear b
    go_wp2_with fail
    go_ret
    exact ⟨rfl, B.out⟩
  · rw [hr] at HR
    by_cases h0 : i < 0
    · rw [there_none hr (.inl h0)]
      obtain ⟨n, hn⟩ : ∃ n, l.length = n := ⟨_, rfl⟩
      rw [hn] at HR ⊢
      clear hr hn hl hE ll hac
      have hd : decide (i < 0) = true := decide_eq_true h0
      go_enter Tryz.func83, Tryz.ntmps83
      go_wp2_with fail
      refine HR.out.mono ?_
      rintro e w' ⟨rfl, b⟩
      have B := Lib.hid b
      clear b
      go_wp2_with fail
      go_ret
      exact ⟨rfl, B.out⟩
    · by_cases h1 : (l.length : Int) ≤ i
      · rw [there_none hr (.inr h1)]
        obtain ⟨n, hn⟩ : ∃ n, l.length = n := ⟨_, rfl⟩
        rw [hn] at HR h1 ⊢
        clear hr hn hl hE ll hac
        have hd : decide (i < 0) = false := decide_eq_false h0
        have hd2 : decide ((n : Int) ≤ i) = true := decide_eq_true h1
        go_enter Tryz.func83, Tryz.ntmps83
        go_wp2_with fail
        refine HR.out.mono ?_
        rintro e w' ⟨rfl, b⟩
        have B := Lib.hid b
        clear b
        go_wp2_with fail
        go_ret
        exact ⟨rfl, B.out⟩
      · rw [there_ok hr (by omega) (by omega)]
        obtain ⟨n, hn⟩ : ∃ n, l.length = n := ⟨_, rfl⟩
        rw [hn] at HR h1 ⊢
        clear hr hn hl hE ll hac
        have hd : decide (i < 0) = false := decide_eq_false h0
        have hd2 : decide ((n : Int) ≤ i) = false := decide_eq_false h1
        go_enter Tryz.func83, Tryz.ntmps83
        go_wp2_with fail
        refine HR.out.mono ?_
        rintro e w' ⟨rfl, b⟩
        have B := Lib.hid b
        clear b
        go_wp2_with fail
        go_ret
        exact ⟨rfl, B.out⟩
/-- How many params a type asks for, and the error. -/
def paramsT (l : List Ty) (i : Int) : Int × Int := if thereT l i = 0 then (askD (funT l) (i.toNat + 1) i.toNat, 0) else (0, thereT l i)
end Go.Proofs.YtkmnfkhchcoamaaGreatDoor

