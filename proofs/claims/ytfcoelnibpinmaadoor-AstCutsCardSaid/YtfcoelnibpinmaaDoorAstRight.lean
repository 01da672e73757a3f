/- The program's Right. -/
import Derived.Test.YtfcoelnibpinmaaDoorAstMarks
import Derived.Deep.OwnRows
import Derived.Deep.LoopGhost
namespace Go.Proofs.YtfcoelnibpinmaaDoor
open Go.RowKit

/-- What was seen of the nodes ahead of i. -/
def SeenP (ns : List Nd) (i : Nat) : Prop := (∀ j (h : j < ns.length), j < i → NodeOk ns[j] j) ∧ (kidsTo ns i).Nodup
theorem info_bool : (Tryd.prog.info? 4).map (fun i => (i.zero, i.size, i.bytes)) = some (some (.bool false), 1, 1) := by kernel_rfl
theorem marks_made (n : Nat) : madeCells #[.bool false] n = marks n [] := by
  apply Array.toList_inj.1
  rw [toList_madeCells_one]
  unfold marks
  simp [List.map_const']
theorem make_bools (n : Nat) (hn : n ≤ 1000000) (w : World) :
    (Instr.makeSlice 38 (.int .i64 (n : Int)) (.int .i64 (n : Int))).run Tryd.prog w = .ok (.slice (some ⟨w.heap.size, 0, none⟩) n n) (w.alloc (.cells (marks n []) 4)) := by
  rw [← marks_made]
  exact run_make_row' 38 4 (.bool false) 1 Tryd.underlying38 info_bool rfl .i64 .i64 n (by omega) (by omega) w
set_option maxHeartbeats 16000000 in
set_option maxRecDepth 100000 in
theorem right_any (ao : Option Addr) (cap : Nat) (ns : List Nd) (w : World) (hr : NRow w ao ns) (hC : Counts w) (hk : ∀ n ∈ ns, n.kids.length ≤ 2000) (hl : ns.length ≤ 100000) :
    Calls Tryd.prog 8 #[.slice ao ns.length cap] w fun e w' => e = .returned (.bool (treeB ns)) ∧ Below w.heap.size w w' := by
  by_cases h0 : ns.length = 0
  · have Hn := Lib.hid (treeB_no (ns := ns) (fun h => by have := h.1; omega))
    rw [h0]
    clear hr hk hl
    go_enter Tryd.func8, Tryd.ntmps8
    go_wp2_with fail
    go_ret
    exact ⟨ret_bool Hn.out.symm, Below.refl _ _⟩
  by_cases h2 : 2000 < ns.length
  · have Hn := Lib.hid (treeB_no (ns := ns) (fun h => by have := h.2.1; omega))
    have hz : ((ns.length : Int) == 0) = false := by rw [beq_eq_false_iff_ne]; omega
    generalize ns.length = L at *
    clear hr hk hl
    go_enter Tryd.func8, Tryd.ntmps8
    go_wp2_with fail
    go_ret
    exact ⟨ret_bool Hn.out.symm, Below.refl _ _⟩
  obtain ⟨b, off, rfl, hlt, hc⟩ : ∃ b off, ao = some ⟨b, off, none⟩ ∧ b < w.heap.size ∧ ∀ i (h : i < ns.length), NdAt w b (off + i * 4) ns[i] := by
    rcases hr with h | h
    · rw [h] at h0; exact absurd rfl h0
    · exact h
  have hz : ((ns.length : Int) == 0) = false := by rw [beq_eq_false_iff_ne]; omega
  obtain ⟨L, hL⟩ : ∃ L, ns.length = L := ⟨_, rfl⟩
  have HL := Lib.hid hL
  have Hc := Lib.hid hc
  have HC := Lib.hid hC
  have Hk := Lib.hid hk
  rw [hL] at h0 h2 hz ⊢
  clear hr hc hC hk hl hL
  have hmk := fun wx => make_bools L (by omega) wx
  have B : Below w.heap.size w (w.alloc (.cells (marks L []) 4)) := (Below.refl _ _).alloc (Nat.le_refl _) _
  have ht := BlockAt.new w (marks L []) 4
  go_enter Tryd.func8, Tryd.ntmps8
  go_wp2_with fail
  obtain ⟨tb, etb⟩ : ∃ p, w.heap.size = p := ⟨_, rfl⟩
  have l0 : w.heap.size ≤ tb := by omega
  simp only [etb] at ht ⊢
  clear etb
  have hkz := kidsTo_zero ns
  rw [← hkz] at ht
  clear hkz hmk
  go_loopw [21] (fun i wr => ∃ k : Nat, k ≤ L ∧ i = .int .i64 k ∧ Hid (SeenP ns k) ∧ Hid (BlockAt wr tb (marks L (kidsTo ns k)) 4) ∧ Hid (Below w.heap.size w wr)) (fun i _ => L - (intOf i).toNat)
  case atStart => exact ⟨0, Nat.zero_le _, rfl, Lib.hid ⟨fun j _ hj => absurd hj (Nat.not_lt_zero _), by rw [kidsTo_zero]; exact List.nodup_nil⟩, Lib.hid ht, Lib.hid B⟩
  case round =>
    clear ht B
    obtain ⟨k, hk, rfl, Hseen, Ht, HB⟩ := hrel
    have ht := Ht.out
    have B := HB.out
    clear Ht HB
    by_cases hkl : k < L
    · obtain ⟨nd, hnd⟩ : ∃ nd, ns[k]'(by rw [HL.out]; exact hkl) = nd := ⟨_, rfl⟩
      have hda := Hc.out k (by rw [HL.out]; exact hkl)
      have hkk := Hk.out _ (List.getElem_mem (show k < ns.length by rw [HL.out]; exact hkl))
      rw [hnd] at hda hkk
      have Hnd := Lib.hid hnd
      clear hnd
      obtain ⟨kd, tx, ks, pl⟩ := nd
      have hdb := hda.below hlt B
      obtain ⟨d0, d1, ⟨ka, kc, d2, d3, -⟩, d5⟩ := hdb
      obtain ⟨-, -, ⟨ka2, kc2, e2, -, hrow⟩, -⟩ := hda
      have d2' := d2
      rw [B.cell (p := ⟨b, off + k * 4 + 2, none⟩) hlt, e2] at d2'
      obtain ⟨rfl, rfl⟩ : ka2 = ka ∧ kc2 = kc := by simpa using d2'
      have Hrow := Lib.hid hrow
      clear d2' e2 hrow
      simp only at d0 d1 d2 d3 d5 hkk
      rcases Hrow.out with hnil | ⟨kb, ko, hka, hkb, hkc0⟩
      · have Hnil := Lib.hid hnil
        clear hnil Hrow
        have b4 : Below wr.heap.size wr (wr.alloc (.cells #[.int .i64 kd, .string tx, .slice ka2 ks.length kc2, .int .i64 pl] 37)) := (Below.refl _ _).alloc (Nat.le_refl _) _
        have hn := BlockAt.new wr #[.int .i64 kd, .string tx, .slice ka2 ks.length kc2, .int .i64 pl] 37
        have ht := ht.below b4
        have B := B.trans (b4.mono B.size)
        have HA := Lib.hid (alone_any kd tx ks pl ka2 kc2 _ (HC.out.below B) hkk)
        clear b4
        go_wp2_with fail
        refine HA.out.mono ?_
        rintro e W1 ⟨rfl, bq⟩
        have hn := hn.below bq
        have ht := ht.below bq
        have B := B.trans (bq.mono B.size)
        clear bq HA d0 d1 d2 d5
        cases hal : aloneB ⟨kd, tx, ks, pl⟩
        · have Hn := Lib.hid (treeB_no (ns := ns) (fun h => by
            have h1 := (h.2.2.1 k (by rw [HL.out]; exact hkl)).1
            rw [Hnd.out, hal] at h1
            cases h1))
          clear hal
          go_wp2_with fail
          go_ret
          exact ⟨ret_bool Hn.out.symm, B⟩
        · have Hal := Lib.hid hal
          clear hal
          have d2 := hn.cell 2
          simp at d2
          have hn2 := hn.lt
          obtain ⟨nb, enb⟩ : ∃ p, wr.heap.size = p := ⟨_, rfl⟩
          rw [enb] at hn d2 hn2
          go_wp2_with fail
          go_loopw [32] (fun p wr2 => ∃ q : Nat, q ≤ ks.length ∧ p = .int .i64 q ∧ Hid (∀ j (h : j < ks.length), j < q → 0 ≤ ks[j] ∧ ks[j] < (k : Int)) ∧ Hid ((kidsTo ns k ++ ks.take q).Nodup) ∧ Hid (BlockAt wr2 tb (marks L (kidsTo ns k ++ ks.take q)) 4) ∧ Hid (Below w.heap.size w wr2)) (fun p _ => ks.length - (intOf p).toNat)
          case atStart =>
            refine ⟨0, Nat.zero_le _, rfl, Lib.hid (fun j _ hj => absurd hj (Nat.not_lt_zero _)), Lib.hid ?_, Lib.hid ?_, Lib.hid B⟩
            · rw [List.take_zero, List.append_nil]; exact Hseen.out.2
            · rw [List.take_zero, List.append_nil]; exact ht
          case round =>
            clear ht B hn d2 hn2
            obtain ⟨q, hq, rfl, Hin, Hnd2, Ht, HB⟩ := hrel
            have ht := Ht.out
            have B := HB.out
            clear Ht HB
            by_cases hql : q < ks.length
            · exfalso
              have h9 := Hnil.out
              rw [h9] at hql
              exact absurd hql (by simp)
            · obtain rfl : q = ks.length := by omega
              have hks : kidsTo ns (k + 1) = kidsTo ns k ++ ks := by
                rw [kidsTo_succ (show k < ns.length by rw [HL.out]; exact hkl), Hnd.out]
              rw [List.take_length, ← hks] at ht
              have Hs := Lib.hid (show SeenP ns (k + 1) from ⟨fun j h hj => by
                rcases Nat.lt_or_eq_of_le (Nat.le_of_lt_succ hj) with h4 | h4
                · exact Hseen.out.1 j h h4
                · subst h4
                  rw [Hnd.out]
                  refine ⟨Hal.out, fun x hx => ?_⟩
                  obtain ⟨i, hi, rfl⟩ := List.getElem_of_mem hx
                  exact Hin.out i hi hi, by
                have h5 := Hnd2.out
                rw [List.take_length] at h5
                rw [hks]
                exact h5⟩)
              have Ht2 := Lib.hid ht
              have B2 := Lib.hid B
              clear ht hks
              go_wp2_with fail
              go_roundw
              case rel => exact ⟨k + 1, by omega, by go_num, Hs, Ht2, B2⟩
              case measure => simp [intOf]; omega
      · subst hka
        have Hkc0 := Lib.hid hkc0
        clear hkc0 Hrow
        have b4 : Below wr.heap.size wr (wr.alloc (.cells #[.int .i64 kd, .string tx, .slice (some ⟨kb, ko, none⟩) ks.length kc2, .int .i64 pl] 37)) := (Below.refl _ _).alloc (Nat.le_refl _) _
        have hn := BlockAt.new wr #[.int .i64 kd, .string tx, .slice (some ⟨kb, ko, none⟩) ks.length kc2, .int .i64 pl] 37
        have ht := ht.below b4
        have B := B.trans (b4.mono B.size)
        have HA := Lib.hid (alone_any kd tx ks pl (some ⟨kb, ko, none⟩) kc2 _ (HC.out.below B) hkk)
        clear b4
        go_wp2_with fail
        refine HA.out.mono ?_
        rintro e W1 ⟨rfl, bq⟩
        have hn := hn.below bq
        have ht := ht.below bq
        have B := B.trans (bq.mono B.size)
        clear bq HA d0 d1 d2 d5
        cases hal : aloneB ⟨kd, tx, ks, pl⟩
        · have Hn := Lib.hid (treeB_no (ns := ns) (fun h => by
            have h1 := (h.2.2.1 k (by rw [HL.out]; exact hkl)).1
            rw [Hnd.out, hal] at h1
            cases h1))
          clear hal
          go_wp2_with fail
          go_ret
          exact ⟨ret_bool Hn.out.symm, B⟩
        · have Hal := Lib.hid hal
          clear hal
          have d2 := hn.cell 2
          simp at d2
          have hn2 := hn.lt
          obtain ⟨nb, enb⟩ : ∃ p, wr.heap.size = p := ⟨_, rfl⟩
          rw [enb] at hn d2 hn2
          go_wp2_with fail
          go_loopw [32] (fun p wr2 => ∃ q : Nat, q ≤ ks.length ∧ p = .int .i64 q ∧ Hid (∀ j (h : j < ks.length), j < q → 0 ≤ ks[j] ∧ ks[j] < (k : Int)) ∧ Hid ((kidsTo ns k ++ ks.take q).Nodup) ∧ Hid (BlockAt wr2 tb (marks L (kidsTo ns k ++ ks.take q)) 4) ∧ Hid (Below w.heap.size w wr2)) (fun p _ => ks.length - (intOf p).toNat)
          case atStart =>
            refine ⟨0, Nat.zero_le _, rfl, Lib.hid (fun j _ hj => absurd hj (Nat.not_lt_zero _)), Lib.hid ?_, Lib.hid ?_, Lib.hid B⟩
            · rw [List.take_zero, List.append_nil]; exact Hseen.out.2
            · rw [List.take_zero, List.append_nil]; exact ht
          case round =>
            clear ht B hn d2 hn2
            obtain ⟨q, hq, rfl, Hin, Hnd2, Ht, HB⟩ := hrel
            have ht := Ht.out
            have B := HB.out
            clear Ht HB
            by_cases hql : q < ks.length
            · have hkc := Hkc0.out
              have hcell : wr.cell? ⟨kb, ko + q, none⟩ = some (.int .i64 (ks.getD q 0)) := by rw [B.cell (p := ⟨kb, ko + q, none⟩) hkb]; exact hkc q hql
              have hg : ks.getD q 0 = ks[q] := by rw [List.getD_eq_getElem?_getD, List.getElem?_eq_getElem hql]; rfl
              rw [hg] at hcell
              have Hkc := Lib.hid hkc
              obtain ⟨c, hc2⟩ : ∃ c, ks[q] = c := ⟨_, rfl⟩
              rw [hc2] at hcell
              have Hc2 := Lib.hid hc2
              clear hkc hg hc2
              have hno : ¬ (0 ≤ c ∧ c < (k : Int)) → treeB ns = false := fun h => treeB_no fun ht => by
                have h1 := (ht.2.2.1 k (by rw [HL.out]; exact hkl)).2 c (by rw [Hnd.out, ← Hc2.out]; exact List.getElem_mem hql)
                exact h h1
              have Hno := Lib.hid hno
              clear hno
              rcases Int.lt_or_le c 0 with h1 | h1
              · have Hn := Lib.hid (Hno.out (by omega))
                clear ht
                go_wp2_with fail
                go_ret
                exact ⟨ret_bool Hn.out.symm, B⟩
              rcases Int.lt_or_le c (k : Int) with h3 | h3
              · obtain ⟨m, rfl⟩ : ∃ m : Nat, c = (m : Int) := ⟨c.toNat, by omega⟩
                have hm : m < L := by omega
                have tc := ht.cell m
                rw [marks_get hm] at tc
                by_cases hin : (m : Int) ∈ kidsTo ns k ++ ks.take q
                · have Hn := Lib.hid (treeB_no (ns := ns) (fun h => twice_no (i := k) (p := q) (by rw [HL.out]; exact hkl) (by simp only [Hnd.out]; exact hql) (by simp only [Hnd.out]; rw [Hc2.out]; exact hin) h.2.2.2.1))
                  rw [decide_eq_true hin] at tc
                  clear hin ht
                  go_wp2_with fail
                  go_ret
                  exact ⟨ret_bool Hn.out.symm, B⟩
                · have Hnd3 := Lib.hid (show (kidsTo ns k ++ ks.take (q + 1)).Nodup by
                    rw [List.take_succ_eq_append_getElem hql, Hc2.out, ← List.append_assoc]
                    exact List.nodup_append.2 ⟨Hnd2.out, by simp, fun a ha b hb => by
                      rw [List.mem_singleton.1 hb]
                      rintro rfl
                      exact hin ha⟩)
                  have Hin3 := Lib.hid (show ∀ j (h : j < ks.length), j < q + 1 → 0 ≤ ks[j] ∧ ks[j] < (k : Int) from fun j h hj => by
                    rcases Nat.lt_or_eq_of_le (Nat.le_of_lt_succ hj) with h4 | h4
                    · exact Hin.out j h h4
                    · subst h4
                      rw [Hc2.out]
                      exact ⟨h1, h3⟩)
                  rw [decide_eq_false hin] at tc
                  have ht2 := ht.set m (.bool true)
                  rw [marks_set] at ht2
                  have Ht2 := Lib.hid (show BlockAt (wr.setCell ⟨tb, m, none⟩ (.bool true)) tb (marks L (kidsTo ns k ++ ks.take (q + 1))) 4 by
                    rw [List.take_succ_eq_append_getElem hql, Hc2.out, ← List.append_assoc]
                    exact ht2)
                  have B2 := Lib.hid (B.setCell (p := ⟨tb, m, none⟩) l0 (.bool true))
                  have tf := ht.free m
                  have tl := ht.lt
                  clear hin ht ht2 Hno
                  go_wp2_with fail
                  go_roundw
                  case rel => exact ⟨q + 1, by omega, by go_num, Hin3, Hnd3, Ht2, B2⟩
                  case measure => simp [intOf]; omega
              · have Hn := Lib.hid (Hno.out (by omega))
                clear ht
                go_wp2_with fail
                go_ret
                exact ⟨ret_bool Hn.out.symm, B⟩
            · obtain rfl : q = ks.length := by omega
              have hks : kidsTo ns (k + 1) = kidsTo ns k ++ ks := by
                rw [kidsTo_succ (show k < ns.length by rw [HL.out]; exact hkl), Hnd.out]
              rw [List.take_length, ← hks] at ht
              have Hs := Lib.hid (show SeenP ns (k + 1) from ⟨fun j h hj => by
                rcases Nat.lt_or_eq_of_le (Nat.le_of_lt_succ hj) with h4 | h4
                · exact Hseen.out.1 j h h4
                · subst h4
                  rw [Hnd.out]
                  refine ⟨Hal.out, fun x hx => ?_⟩
                  obtain ⟨i, hi, rfl⟩ := List.getElem_of_mem hx
                  exact Hin.out i hi hi, by
                have h5 := Hnd2.out
                rw [List.take_length] at h5
                rw [hks]
                exact h5⟩)
              have Ht2 := Lib.hid ht
              have B2 := Lib.hid B
              clear ht hks
              go_wp2_with fail
              go_roundw
              case rel => exact ⟨k + 1, by omega, by go_num, Hs, Ht2, B2⟩
              case measure => simp [intOf]; omega
    · obtain rfl : k = L := by omega
      have HCF := Lib.hid (contains_false tb k (k - 1) k (kidsTo ns k) 4 wr ht (by omega) (by omega))
      have Hres := Lib.hid (show (!decide (∃ j, j < k - 1 ∧ ((j : Nat) : Int) ∉ kidsTo ns k)) = treeB ns by
        by_cases hex : ∃ j, j < k - 1 ∧ ((j : Nat) : Int) ∉ kidsTo ns k
        · rw [decide_eq_true hex, treeB_no]
          · rfl
          · intro h
            obtain ⟨j, hj, hnj⟩ := hex
            have := h.2.2.2.2 j (by rw [HL.out]; omega)
            rw [HL.out] at this
            exact hnj this
        · rw [decide_eq_false hex, treeB_yes]
          · rfl
          · refine ⟨by rw [HL.out]; omega, by rw [HL.out]; omega, fun i hi => Hseen.out.1 i hi (by rw [HL.out] at hi; exact hi), by rw [HL.out]; exact Hseen.out.2, fun j hj => ?_⟩
            rw [HL.out] at hj ⊢
            by_cases hm : ((j : Nat) : Int) ∈ kidsTo ns k
            · exact hm
            · exact absurd ⟨j, by omega, hm⟩ hex)
      have hsub : (k : Int) - 1 = ((k - 1 : Nat) : Int) := by omega
      clear ht
      go_wp2_with fail
      refine HCF.out.mono ?_
      rintro e W9 ⟨rfl, rfl⟩
      go_wp2_with fail
      go_ret
      exact ⟨ret_bool Hres.out, B⟩
end Go.Proofs.YtfcoelnibpinmaaDoor
