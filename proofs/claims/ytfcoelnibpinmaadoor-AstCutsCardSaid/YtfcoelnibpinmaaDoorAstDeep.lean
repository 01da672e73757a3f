/- The program's Deep. -/
import Derived.Test.YtfcoelnibpinmaaDoorAstDeepM
import Derived.Test.YtfcoelnibpinmaaDoorRegG
import Derived.Test.YtfcoelnibpinmaaDoorAstLike2
import Derived.Deep.DeepCutAuto
namespace Go.Proofs.YtfcoelnibpinmaaDoor
open Go.RowKit
set_option linter.unusedSimpArgs false

theorem info_ints : (Tryd.prog.info? 3).map (fun i => (i.zero, i.size, i.bytes)) = some (some (.int .i64 0), 1, 8) := by kernel_rfl
theorem make_ints (ns : List Nd) (n : Nat) (hn : n ≤ 1000000) (w : World) :
    (Instr.makeSlice 35 (.int .i64 (n : Int)) (.int .i64 (n : Int))).run Tryd.prog w = .ok (.slice (some ⟨w.heap.size, 0, none⟩) n n) (w.alloc (.cells (depCells ns n 0 0) 3)) := by
  rw [← depCells_made]
  exact run_make_row' 35 3 (.int .i64 0) 8 Tryd.underlying35 info_ints rfl .i64 .i64 n (by omega) (by omega) w
theorem tree_of {ns : List Nd} (h : treeB ns = true) : TreeP ns := by
  simpa [treeB] using h
theorem ret_pair {a b c d : Int} (h1 : a = c) (h2 : b = d) : Ending.returned (.tuple #[.int .i64 a, .int .i64 b]) = .returned (.tuple #[.int .i64 c, .int .i64 d]) := by rw [h1, h2]
set_option maxHeartbeats 4000000 in
theorem deep_bad (ao : Option Addr) (cap : Nat) (ns : List Nd) (w : World) (hr : NRow w ao ns) (hC : Counts w) (hk : ∀ n ∈ ns, n.kids.length ≤ 2000) (hl : ns.length ≤ 100000) (ht : treeB ns = false) :
    Calls Tryd.prog 12 #[.slice ao ns.length cap] w fun e w' => e = .returned (.tuple #[.int .i64 0, .int .i64 1]) ∧ Below w.heap.size w w' := by
  have HR := Lib.hid (right_any ao cap ns w hr hC hk hl)
  have Ht := Lib.hid ht
  generalize ns.length = L at *
  clear hr hC hk hl ht
  go_enter Tryd.func12, Tryd.ntmps12
  go_wp2_with fail
  refine HR.out.mono ?_
  rintro e w1 ⟨rfl, b1⟩
  rw [Ht.out]
  go_wp2_with fail
  go_ret2
  exact ⟨rfl, b1⟩
set_option maxHeartbeats 16000000 in
set_option maxRecDepth 100000 in
theorem deep_ok (ao : Option Addr) (cap : Nat) (ns : List Nd) (w : World) (hr : NRow w ao ns) (hC : Counts w) (hk : ∀ n ∈ ns, n.kids.length ≤ 2000) (hl : ns.length ≤ 2000) (ht : treeB ns = true) :
    Calls Tryd.prog 12 #[.slice ao ns.length cap] w fun e w' => e = .returned (.tuple #[.int .i64 ((dep ns (ns.length - 1) : Nat) : Int), .int .i64 0]) ∧ Below w.heap.size w w' := by
  have HR := Lib.hid (right_any ao cap ns w hr hC hk (by omega))
  have tp := tree_of ht
  have h0 := tp.1
  have Hin := Lib.hid (kids_in tp)
  have Hdl := Lib.hid (dep_le ns (kids_in tp))
  obtain ⟨b, off, rfl, hlt, hc⟩ := hr.nodes h0
  have Ht := Lib.hid ht
  obtain ⟨L, hL⟩ : ∃ L, ns.length = L := ⟨_, rfl⟩
  have HL := Lib.hid hL
  have Hc := Lib.hid hc
  have Hk := Lib.hid hk
  rw [hL] at h0 hl HR ⊢
  clear hr hc hC hk hL ht tp
  have hmk := fun wx => make_ints ns L (by omega) wx
  go_enter Tryd.func12, Tryd.ntmps12
  go_wp2_with fail
  refine HR.out.mono ?_
  rintro e w1 ⟨rfl, b1⟩
  rw [Ht.out]
  have B := b1.trans (((Below.refl w1.heap.size w1).alloc (Nat.le_refl _) (.cells (depCells ns L 0 0) 3)).mono b1.size)
  have hd := BlockAt.new w1 (depCells ns L 0 0) 3
  have l0 := b1.size
  clear b1 HR
  go_wp2_with fail
  obtain ⟨db, edb⟩ : ∃ p, w1.heap.size = p := ⟨_, rfl⟩
  rw [edb] at l0
  simp only [edb] at hd ⊢
  clear edb hmk
  go_loopw [17] (fun i wr => ∃ k : Nat, k ≤ L ∧ i = .int .i64 k ∧ Hid (BlockAt wr db (depCells ns L k 0) 3) ∧ Hid (Below w.heap.size w wr)) (fun i _ => L - (intOf i).toNat)
  case atStart => exact ⟨0, Nat.zero_le _, rfl, Lib.hid hd, Lib.hid B⟩
  case round =>
    clear hd B
    obtain ⟨k, hk, rfl, Hd, HB⟩ := hrel
    have hd := Hd.out
    have B := HB.out
    clear Hd HB
    by_cases hkl : k < L
    · obtain ⟨nd, hnd⟩ : ∃ nd, ns[k]'(by rw [HL.out]; exact hkl) = nd := ⟨_, rfl⟩
      have hda := Hc.out k (by rw [HL.out]; exact hkl)
      have hkk := Hk.out _ (List.getElem_mem (show k < ns.length by rw [HL.out]; exact hkl))
      rw [hnd] at hda hkk
      have Hnd := Lib.hid (show kidsAt ns k = nd.kids by rw [kidsAt_get (show k < ns.length by rw [HL.out]; exact hkl), hnd])
      clear hnd
      obtain ⟨kd, tx, ks, pl⟩ := nd
      have hdb := hda.below hlt B
      obtain ⟨d0, d1, ⟨ka, kc, d2, d3, -⟩, d5⟩ := hdb
      obtain ⟨-, -, ⟨ka2, kc2, e2, -, hrow⟩, -⟩ := hda
      have d2' := d2
      rw [B.cell (p := ⟨b, off + k * 4 + 2, none⟩) hlt, e2] at d2'
      obtain ⟨rfl, rfl⟩ : ka2 = ka ∧ kc2 = kc := by simpa using d2'
      have Hrow := Lib.hid hrow
      clear d2' e2 hrow
      simp only at d0 d1 d2 d3 d5 hkk Hnd
      have b4 : Below wr.heap.size wr (wr.alloc (.cells #[.int .i64 kd, .string tx, .slice ka2 ks.length kc2, .int .i64 pl] 37)) := (Below.refl _ _).alloc (Nat.le_refl _) _
      have hd := hd.below b4
      have B := B.trans (b4.mono B.size)
      clear b4
      go_wp2_with fail
      go_loopw [25] (fun p wr2 => ∃ q : Nat, q ≤ ks.length ∧ p = .int .i64 q ∧ Hid (BlockAt wr2 db (depCells ns L k (maxl (dep ns) (ks.take q))) 3) ∧ Hid (Below w.heap.size w wr2)) (fun p _ => ks.length - (intOf p).toNat)
      case atStart =>
        exact ⟨0, Nat.zero_le _, rfl, Lib.hid (by rw [List.take_zero, maxl_nil]; exact hd), Lib.hid B⟩
      case round =>
        clear hd B
        obtain ⟨q, hq, rfl, Hd, HB⟩ := hrel
        have hd := Hd.out
        have B := HB.out
        clear Hd HB
        by_cases hql : q < ks.length
        · obtain ⟨kb, ko, rfl, hkb, hkc⟩ := Hrow.out.cells (by omega)
          have hcell : wr.cell? ⟨kb, ko + q, none⟩ = some (.int .i64 (ks.getD q 0)) := by rw [B.cell (p := ⟨kb, ko + q, none⟩) hkb]; exact hkc q hql
          clear hkc
          have hg : ks.getD q 0 = ks[q] := by rw [List.getD_eq_getElem?_getD, List.getElem?_eq_getElem hql]; rfl
          rw [hg] at hcell
          have hin := Hin.out k ks[q] (by rw [Hnd.out]; exact List.getElem_mem hql)
          have hts : ks.take (q + 1) = ks.take q ++ [ks[q]] := List.take_succ_eq_append_getElem hql
          obtain ⟨ci, hci⟩ : ∃ ci, ks[q] = ci := ⟨_, rfl⟩
          rw [hci] at hcell hin hts
          obtain ⟨c, rfl⟩ : ∃ c : Nat, ci = (c : Int) := ⟨ci.toNat, by omega⟩
          have hck : c < k := by omega
          have hck2 : ¬ k = c := by omega
          have hcL : c < L := by omega
          have Hts := Lib.hid hts
          clear hg hci hts hin
          obtain ⟨x, hx⟩ : ∃ x, maxl (dep ns) (ks.take q) = x := ⟨_, rfl⟩
          obtain ⟨y, hy⟩ : ∃ y, dep ns c = y := ⟨_, rfl⟩
          have hmx : maxl (dep ns) (ks.take (q + 1)) = max x y := by rw [Hts.out, maxl_snoc, hx]; show max x (dep ns ((c : Int).toNat)) = _; rw [Int.toNat_natCast, hy]
          obtain ⟨z, hz⟩ : ∃ z, max x y = z := ⟨_, rfl⟩
          rw [hz] at hmx
          have Hmx := Lib.hid hmx
          rw [hx] at hd
          have hcx := hd.cell k
          rw [depCells_get hkl] at hcx
          simp only [Nat.lt_irrefl, if_false, if_true] at hcx
          have hcy := hd.cell c
          rw [depCells_get (by omega), if_pos hck, hy] at hcy
          have hyb : y ≤ 2000 := by have := Hdl.out c; rw [hy] at this; omega
          have hff := hd.free k
          have Hmax : ∀ (ts : Array TypeId) (t : TypeId) (W : World), (Builtin.max_ ts t #[.int .i64 (x : Int), .int .i64 (y : Int)]).run Tryd.prog W = .ok (.int .i64 (z : Int)) W := fun ts t W => by rw [run_max_int2, show (if (y : Int) > (x : Int) then (y : Int) else (x : Int)) = (z : Int) by rw [← hz]; split <;> omega]
          clear hmx hx hy hz Hts
          go_upto_region 10 with fail
          refine GoG.start [(12, ⟨db, k, none⟩, .int .i64 ((x : Nat) : Int)), (13, ⟨db, c, none⟩, .int .i64 ((y : Nat) : Int))] (by kernel_rfl) ?_ ?_
          · exact Keeps.cons (by first | assumption | simp [*]) (Keeps.cons (by first | assumption | simp [*]) (Keeps.nil))
          refine GoG.take (i := 0) (v := ?_) [] rfl (by kernel_rfl) (by kernel_rfl) (by kernel_rfl) (by kernel_rfl) (by kernel_rfl) (by kernel_rfl) (fun _ _ _ h => h) (yields_free (by rfl) (fun w => ?_)) ?_
          rotate_left
          · go_simp; try (with_reducible rfl)
          try simp only [Act.put, List.setIfInBounds_toArray, List.set_cons_zero, List.set_cons_succ]
          refine GoG.take (i := 1) (v := ?_) [] rfl (by kernel_rfl) (by kernel_rfl) (by kernel_rfl) (by kernel_rfl) (by kernel_rfl) (by kernel_rfl) (fun _ _ _ h => h) (yields_free (by rfl) (fun w => ?_)) ?_
          rotate_left
          · go_simp; try (with_reducible rfl)
          try simp only [Act.put, List.setIfInBounds_toArray, List.set_cons_zero, List.set_cons_succ]
          refine GoG.take (i := 2) (v := ?_) [] rfl (by kernel_rfl) (by kernel_rfl) (by kernel_rfl) (by kernel_rfl) (by kernel_rfl) (by kernel_rfl) (fun _ _ _ h => h) (yields_free (by rfl) (fun w => ?_)) ?_
          rotate_left
          · go_simp; try (with_reducible rfl)
          try simp only [Act.put, List.setIfInBounds_toArray, List.set_cons_zero, List.set_cons_succ]
          refine GoG.take (i := 3) (v := ?_) [] rfl (by kernel_rfl) (by kernel_rfl) (by kernel_rfl) (by kernel_rfl) (by kernel_rfl) (by kernel_rfl) (fun _ _ _ h => h) (yields_free (by rfl) (fun w => ?_)) ?_
          rotate_left
          · go_simp; try (with_reducible rfl)
          try simp only [Act.put, List.setIfInBounds_toArray, List.set_cons_zero, List.set_cons_succ]
          refine GoG.take (i := 4) (v := ?_) [] rfl (by kernel_rfl) (by kernel_rfl) (by kernel_rfl) (by kernel_rfl) (by kernel_rfl) (by kernel_rfl) (fun _ _ _ h => h) (yields_free (by rfl) (fun w => ?_)) ?_
          rotate_left
          · go_simp; try (with_reducible rfl)
          try simp only [Act.put, List.setIfInBounds_toArray, List.set_cons_zero, List.set_cons_succ]
          refine GoG.take (i := 5) (v := ?_) [10, 12] rfl (by kernel_rfl) (by kernel_rfl) (by kernel_rfl) (by kernel_rfl) (by kernel_rfl) (by kernel_rfl) (fun _ _ _ h => h) (yields_load 12 ⟨db, k, none⟩ (.int .i64 ((x : Nat) : Int)) (by simp) (by decide) (by rfl) (fun w hw => ?_)) ?_
          rotate_left
          · go_simp; try (with_reducible rfl)
          try simp only [Act.put, List.setIfInBounds_toArray, List.set_cons_zero, List.set_cons_succ]
          refine GoG.take (i := 6) (v := ?_) [] rfl (by kernel_rfl) (by kernel_rfl) (by kernel_rfl) (by kernel_rfl) (by kernel_rfl) (by kernel_rfl) (fun _ _ _ h => h) (yields_free (by rfl) (fun w => ?_)) ?_
          rotate_left
          · go_simp; try (with_reducible rfl)
          try simp only [Act.put, List.setIfInBounds_toArray, List.set_cons_zero, List.set_cons_succ]
          refine GoG.take (i := 7) (v := ?_) [] rfl (by kernel_rfl) (by kernel_rfl) (by kernel_rfl) (by kernel_rfl) (by kernel_rfl) (by kernel_rfl) (fun _ _ _ h => h) (yields_free (by rfl) (fun w => ?_)) ?_
          rotate_left
          · go_simp; try (with_reducible rfl)
          try simp only [Act.put, List.setIfInBounds_toArray, List.set_cons_zero, List.set_cons_succ]
          refine GoG.take (i := 8) (v := ?_) [] rfl (by kernel_rfl) (by kernel_rfl) (by kernel_rfl) (by kernel_rfl) (by kernel_rfl) (by kernel_rfl) (fun _ _ _ h => h) (yields_free (by rfl) (fun w => ?_)) ?_
          rotate_left
          · go_simp; try (with_reducible rfl)
          try simp only [Act.put, List.setIfInBounds_toArray, List.set_cons_zero, List.set_cons_succ]
          refine GoG.take (i := 9) (v := ?_) [10, 12, 13] rfl (by kernel_rfl) (by kernel_rfl) (by kernel_rfl) (by kernel_rfl) (by kernel_rfl) (by kernel_rfl) (fun _ _ _ h => h) (yields_load 13 ⟨db, c, none⟩ (.int .i64 ((y : Nat) : Int)) (by simp) (by decide) (by rfl) (fun w hw => ?_)) ?_
          rotate_left
          · go_simp; try (with_reducible rfl)
          try simp only [Act.put, List.setIfInBounds_toArray, List.set_cons_zero, List.set_cons_succ]
          refine GoG.take (i := 10) (v := ?_) [] rfl (by kernel_rfl) (by kernel_rfl) (by kernel_rfl) (by kernel_rfl) (by kernel_rfl) (by kernel_rfl) (fun _ _ _ h => h) (yields_free (by rfl) (fun w => ?_)) ?_
          rotate_left
          · go_simp; try (with_reducible rfl)
          try simp only [Act.put, List.setIfInBounds_toArray, List.set_cons_zero, List.set_cons_succ]
          refine GoG.take (i := 11) (v := ?_) [] rfl (by kernel_rfl) (by kernel_rfl) (by kernel_rfl) (by kernel_rfl) (by kernel_rfl) (by kernel_rfl) (fun _ _ _ h => h) (yields_free (by rfl) (fun w => ?_)) ?_
          rotate_left
          · go_simp; try (with_reducible rfl)
          try simp only [Act.put, List.setIfInBounds_toArray, List.set_cons_zero, List.set_cons_succ]
          refine GoG.one (i := 12) rfl (by kernel_rfl) (fun K hK => ?_)
          go_simp
          refine hK.out _ _ (Keeps.up (by rfl) (Keeps.cons (by go_simp) (Keeps.nil))) ?_
          clear hK K
          refine GoG.done (by kernel_rfl) ?_ _
          have Hd2 := Lib.hid (show BlockAt (wr.setCell ⟨db, k, none⟩ (.int .i64 (z : Int))).drew db (depCells ns L k (maxl (dep ns) (ks.take (q + 1)))) 3 from by rw [Hmx.out, ← depCells_set (c := x)]; exact hd.set k _)
          have B2 := Lib.hid (show Below w.heap.size w (wr.setCell ⟨db, k, none⟩ (.int .i64 (z : Int))).drew from (B.setCell l0 _).drew)
          clear hd B hcx hcy hff
          go_wp2_with fail
          go_roundw
          case rel => exact ⟨q + 1, by omega, by go_num, Hd2, B2⟩
          case measure => simp [intOf]; omega
        · obtain rfl : q = ks.length := by omega
          rw [List.take_length] at hd
          have hcx := hd.cell k
          rw [depCells_get hkl] at hcx
          simp only [Nat.lt_irrefl, if_false, if_true] at hcx
          have hff := hd.free k
          have hrec : dep ns k = 1 + maxl (dep ns) ks := by rw [dep_rec ns k (Hin.out k), Hnd.out]
          have hdk := Hdl.out k
          rw [hrec] at hdk
          have Hrec := Lib.hid hrec
          obtain ⟨x, hx⟩ : ∃ x, maxl (dep ns) ks = x := ⟨_, rfl⟩
          rw [hx] at hcx hd Hrec hdk
          clear hx hrec
          have Hd2 := Lib.hid (show BlockAt (wr.setCell ⟨db, k, none⟩ (.int .i64 ((x : Int) + 1))) db (depCells ns L (k + 1) 0) 3 from by
            rw [← depCells_next, Hrec.out, ← depCells_set (c := x), show ((1 + x : Nat) : Int) = (x : Int) + 1 by omega]; exact hd.set k _)
          have B2 := Lib.hid (show Below w.heap.size w (wr.setCell ⟨db, k, none⟩ (.int .i64 ((x : Int) + 1))) from B.setCell l0 _)
          clear hd B
          go_wp2_with fail
          go_roundw
          case rel => exact ⟨k + 1, by omega, by go_num, Hd2, B2⟩
          case measure => simp [intOf]; omega
    · obtain rfl : k = L := by omega
      have hcx := hd.cell (k - 1)
      rw [depCells_get (by omega), if_pos (by omega)] at hcx
      have hw : IntKind.i64.wrap ((k : Int) - 1) = ((k - 1 : Nat) : Int) := by rw [IntWalk.i64_in _ (by omega)]; omega
      obtain ⟨j, hj⟩ : ∃ j, k - 1 = j := ⟨_, rfl⟩
      have hj2 : j < k := by omega
      have hj3 : (k : Int) - 1 = (j : Int) := by omega
      have Hj := Lib.hid hj
      rw [hj] at hcx hw
      clear hd hj
      go_wp2_with fail
      go_ret2
      exact ⟨by rw [Hj.out]; rfl, B⟩
end Go.Proofs.YtfcoelnibpinmaaDoor
