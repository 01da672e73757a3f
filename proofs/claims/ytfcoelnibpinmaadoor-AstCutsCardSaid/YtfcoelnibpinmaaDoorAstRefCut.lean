/- The reference's Cut. -/
import Derived.Test.YtfcoelnibpinmaaDoorAstRefCutM
import Derived.Test.YtfcoelnibpinmaaDoorAstPart
namespace Go.Proofs.YtfcoelnibpinmaaDoor
open Go.RowKit
set_option linter.unusedSimpArgs false

theorem own_irow {w : World} {base g cap : Nat} {l : List Nat} (h : w.ownsRow base 3 1 (.slice (some ⟨g, 0, none⟩) l.length cap) l.length (IV l)) : g < w.heap.size ∧ ∀ j, j < l.length → w.cell? ⟨g, j, none⟩ = some (.int .i64 ((l.getD j 0 : Nat) : Int)) := by
  refine ⟨(h.lt g rfl).2, fun j hj => ?_⟩
  have hcell := h.cells rfl j (.int .i64 ((l[j] : Nat) : Int)) (by simp [IV, hj])
  have hadd : (⟨g, 0, none⟩ : Addr).add j = ⟨g, j, none⟩ := by unfold Addr.add; split <;> simp_all
  rw [hadd] at hcell
  rw [hcell, List.getD_eq_getElem?_getD, List.getElem?_eq_getElem hj]
  rfl
def rks (ns : List Nd) (i : Nat) (ks : List Int) (q : Nat) : List Nat := (ks.take q).map fun x => rank ns i x.toNat
theorem own_setk {w : World} {base e s : Nat} {v : Value} {n : Nat} {xs : List Value} (h : w.ownsRow base e s v n xs) {b : Nat} (hb : b < base) (k : Nat) (u : Value) : (w.setCell ⟨b, k, none⟩ u).ownsRow base e s v n xs := by
  obtain ⟨h1, h2 | ⟨g, cap, cur, e1, hg, hh, r⟩⟩ := h
  · exact ⟨h1, .inl h2⟩
  · exact ⟨h1, .inr ⟨g, cap, cur, e1, hg, by rw [Below.heap_setCell _ _ _ _ (show g ≠ b by omega)]; exact hh, r⟩⟩
set_option maxHeartbeats 16000000 in
set_option maxRecDepth 100000 in
theorem refcut_any (ns : List Nd) (tp : TreeP ns) (i : Nat) (hi : i < ns.length) (w : World) (b off cap : Nat) (hb : b < w.heap.size) (hc : ∀ i (h : i < ns.length), NdAt w b (off + i * 4) ns[i]) (hk : ∀ n ∈ ns, n.kids.length ≤ 2000) :
    Calls Tryd.prog 15 #[.slice (some ⟨b, off, none⟩) ns.length cap, .int .i64 (i : Int)] w fun e w' => (∃ v, e = .returned v ∧ Nds w' v (cutNs ns i)) ∧ Below w.heap.size w w' := by
  obtain ⟨i0, hi0, hz0, hz1, hz2⟩ := info_parts info_int
  obtain ⟨i1, hi1, hy0, hy1, hy2⟩ := info_parts info_node
  have HP := Lib.hid (refpart_any ns tp w b off cap hb hc hk i hi w (Below.refl _ _))
  have hpl := part_len tp hi
  have hpp := part_pos tp i
  have hL2 := tp.2.1
  have Htp := Lib.hid tp
  have Hi := Lib.hid hi
  have Hc := Lib.hid hc
  have Hk := Lib.hid hk
  obtain ⟨L, hL⟩ : ∃ L, ns.length = L := ⟨_, rfl⟩
  have HL := Lib.hid hL
  obtain ⟨ps, hps⟩ : ∃ ps, part ns i = ps := ⟨_, rfl⟩
  have Hps := Lib.hid hps
  rw [hL] at hi hL2 HP ⊢
  rw [hps] at HP hpl hpp
  obtain ⟨pn, hpn⟩ : ∃ pn, ps.length = pn := ⟨_, rfl⟩
  have Hpn := Lib.hid hpn
  rw [hpn] at HP hpl hpp
  clear tp hc hk hL hps hpn
  go_enter Tryd.func15, Tryd.ntmps15
  go_wp2_with fail
  refine HP.out.mono ?_
  rintro e w1 ⟨⟨v, rfl, ho⟩, b1⟩
  obtain ⟨pg, pc, rfl⟩ : ∃ g pc, v = .slice (some ⟨g, 0, none⟩) pn pc := by
    rcases ho.2 with ⟨_, h⟩ | ⟨g, cap, cur, e, _⟩
    · omega
    · exact ⟨g, cap, e⟩
  rw [← Hpn.out] at ho
  obtain ⟨hpg, hpc⟩ := own_irow ho
  have Hpc := Lib.hid hpc
  have B1 := Lib.hid b1
  have bo : Below w1.heap.size w1 (w1.alloc (.cells #[] 37)) := (Below.refl _ _).alloc (Nat.le_refl _) _
  have O0 := Lib.hid (show OutR (w1.alloc (.cells #[] 37)) w1.heap.size (.slice (some ⟨w1.heap.size, 0, none⟩) 0 0) (cutTo ns i 0) from ⟨[], World.ownsRow_made w1 #[] 0 (Nat.le_refl _) (by unfold maxLen; omega) rfl, fun s hs => absurd hs (by simp [cutTo])⟩)
  have Bo := Lib.hid bo
  clear ho hpc b1 bo HP
  go_wp2_with fail
  go_loopw [6, 7] (fun vo p wr => ∃ k : Nat, k ≤ i + 1 ∧ p = .int .i64 k ∧ Hid (OutR wr w1.heap.size vo (cutTo ns i k)) ∧ Hid (Below w1.heap.size w1 wr)) (fun _ p _ => i + 1 - (intOf p).toNat)
  case atStart => exact ⟨0, Nat.zero_le _, rfl, O0, Bo⟩
  case round =>
    clear O0 Bo
    obtain ⟨k, hk, rfl, HO, HB⟩ := hrel
    by_cases hki : k ≤ i
    · have hkL : k < L := by omega
      have hII : ∀ (wx : World), Below w1.heap.size w1 wx → IRow wx (some ⟨pg, 0, none⟩) (ps.map fun j => ((j : Nat) : Int)) := fun wx hx => .inr ⟨pg, 0, rfl, Nat.lt_of_lt_of_le hpg hx.size, fun j hj => by
        rw [List.length_map] at hj
        rw [Nat.zero_add, hx.cell (p := ⟨pg, j, none⟩) hpg, Hpc.out j hj]
        simp only [List.getD_eq_getElem?_getD, List.getElem?_map]
        rw [List.getElem?_eq_getElem hj]
        rfl⟩
      have HN := Lib.hid (in_any (k : Int) (some ⟨pg, 0, none⟩) pc (ps.map fun j => ((j : Nat) : Int)) wr (hII wr HB.out) (by rw [List.length_map, Hpn.out]; omega))
      rw [List.length_map, Hpn.out, hasB_part] at HN
      have hki2 : (k : Int) ≤ (i : Int) := by omega
      clear hII
      by_cases hin : k ∈ ps
      · rw [decide_eq_true hin] at HN
        have Hnext := Lib.hid (cutTo_yes (by rw [Hps.out]; exact hin : k ∈ part ns i))
        clear hin
        have hkN : k < ns.length := by rw [HL.out]; exact hkL
        obtain ⟨nd, hnd⟩ : ∃ nd, ns[k] = nd := ⟨_, rfl⟩
        have hda := Hc.out k hkN
        have hkk := Hk.out _ (List.getElem_mem hkN)
        rw [hnd] at hda hkk
        have Hnd := Lib.hid (show kidsAt ns k = nd.kids by rw [kidsAt_get hkN, hnd])
        have HnC := Lib.hid (show nodeC ns i k = ⟨nd.kind, nd.text, nd.kids.map (rankI ns i), nd.place⟩ by
          unfold nodeC
          rw [List.getD_eq_getElem?_getD, List.getElem?_eq_getElem hkN, kidsAt_get hkN]
          simp only [Option.getD_some, hnd])
        have Hin := Lib.hid (kids_in Htp.out k)
        obtain ⟨kd, tx, ks, pl⟩ := nd
        have HBw := Lib.hid (B1.out.trans (HB.out.mono B1.out.size))
        have hdb := hda.below hb HBw.out
        obtain ⟨d0, d1, ⟨ka, kc, d2, d3, -⟩, d5⟩ := hdb
        obtain ⟨-, -, ⟨ka2, kc2, e2, -, hrow⟩, -⟩ := hda
        have d2' := d2
        rw [HBw.out.cell (p := ⟨b, off + k * 4 + 2, none⟩) hb, e2] at d2'
        obtain ⟨rfl, rfl⟩ : ka2 = ka ∧ kc2 = kc := by simpa using d2'
        have Hrow := Lib.hid hrow
        clear d2' e2 hrow hnd
        simp only at d0 d1 d2 d3 d5 hkk Hnd HnC
        have hbr : b < wr.heap.size := Nat.lt_of_lt_of_le hb HBw.out.size
        obtain ⟨wo, rfl⟩ : ∃ wo : World, wo = wr := ⟨_, rfl⟩
        have hxb := (BlockAt.new wo #[.int .i64 kd, .string tx, .slice (some ⟨wo.heap.size + 1, 0, none⟩) 0 0, .int .i64 pl] 37).below ((Below.refl _ _).alloc (Nat.le_refl _) (.cells #[] 3))
        have x1 : Below wo.heap.size wo (wo.alloc (.cells #[.int .i64 kd, .string tx, .slice (some ⟨wo.heap.size + 1, 0, none⟩) 0 0, .int .i64 pl] 37)) := (Below.refl _ _).alloc (Nat.le_refl _) _
        have hz : (wo.alloc (.cells #[.int .i64 kd, .string tx, .slice (some ⟨wo.heap.size + 1, 0, none⟩) 0 0, .int .i64 pl] 37)).heap.size = wo.heap.size + 1 := by simp
        have x2 := x1.alloc (by rw [hz]; omega) (.cells #[] 3)
        have hv0 := World.ownsRow_made (base := wo.heap.size + 1) (e := 3) (size := 1) (wo.alloc (.cells #[.int .i64 kd, .string tx, .slice (some ⟨wo.heap.size + 1, 0, none⟩) 0 0, .int .i64 pl] 37)) #[] 0 (by rw [hz]; exact Nat.le_refl _) (by unfold maxLen; omega) rfl
        rw [hz] at hv0
        clear x1 hz
        go_wp2_with fail
        refine HN.out.mono ?_
        rintro e w2 ⟨rfl, rfl⟩
        go_wp2_with fail
        obtain ⟨xb, exb⟩ : ∃ p, wo.heap.size = p := ⟨_, rfl⟩
        have hwx : wo.heap.size ≤ xb := by omega
        have Hwx := Lib.hid exb
        simp only [exb] at hxb hv0 x2 ⊢
        rw [exb] at hbr
        clear exb
        have hpx : pg < xb := Nat.lt_of_lt_of_le hpg (by rw [← Hwx.out]; exact HB.out.size)
        have hwb1 : w1.heap.size ≤ xb := by rw [← Hwx.out]; exact HB.out.size
        clear d0 d1 d2 d5 HN
        go_loopw [39] (fun z wr => ∃ (q : Nat) (v : Value), q ≤ ks.length ∧ z = .int .i64 q ∧ Hid (BlockAt wr xb #[.int .i64 kd, .string tx, v, .int .i64 pl] 37) ∧ Hid (wr.ownsRow (xb + 1) 3 1 v q (IV (rks ns i ks q))) ∧ Hid (∃ g cap, v = .slice (some ⟨g, 0, none⟩) q cap) ∧ Hid (Below xb wo wr)) (fun z _ => ks.length - (intOf z).toNat)
        case atStart => exact ⟨0, _, Nat.zero_le _, rfl, Lib.hid hxb, Lib.hid hv0, Lib.hid ⟨_, _, rfl⟩, Lib.hid x2⟩
        case round =>
          clear hxb hv0 x2
          obtain ⟨q, v, hq, rfl, H1, H2, H3, H4⟩ := hrel
          have HBq := Lib.hid (HBw.out.trans ((show Below wo.heap.size wo wr by rw [Hwx.out]; exact H4.out).mono HBw.out.size))
          have HB1q := Lib.hid (HB.out.trans ((show Below wo.heap.size wo wr by rw [Hwx.out]; exact H4.out).mono HB.out.size))
          by_cases hql : q < ks.length
          · obtain ⟨sb, so, rfl, hsb, hkc⟩ := Hrow.out.cells (by omega)
            have hcell : wr.cell? ⟨sb, so + q, none⟩ = some (.int .i64 (ks.getD q 0)) := by rw [HBq.out.cell (p := ⟨sb, so + q, none⟩) hsb]; exact hkc q hql
            clear hkc
            have hg : ks.getD q 0 = ks[q] := by rw [List.getD_eq_getElem?_getD, List.getElem?_eq_getElem hql]; rfl
            rw [hg] at hcell
            have hin := Hin.out ks[q] (by rw [Hnd.out]; exact List.getElem_mem hql)
            have hts : ks.take (q + 1) = ks.take q ++ [ks[q]] := List.take_succ_eq_append_getElem hql
            obtain ⟨ci, hci⟩ : ∃ ci, ks[q] = ci := ⟨_, rfl⟩
            rw [hci] at hcell hin hts
            obtain ⟨c, rfl⟩ : ∃ c : Nat, ci = (c : Int) := ⟨ci.toNat, by omega⟩
            have Hrk := Lib.hid (show rks ns i ks (q + 1) = rks ns i ks q ++ [rank ns i c] by unfold rks; rw [hts, List.map_append]; simp)
            clear hg hci hts hin
            obtain ⟨vg, vc, rfl⟩ := H3.out
            obtain ⟨wq, rfl⟩ : ∃ wq : World, wq = wr := ⟨_, rfl⟩
            have b2 := cell_of H1.out (k := 2) rfl
            have f2 := H1.out.free 2
            have hlt1 := H1.out.lt
            have hown2 := Lib.hid (H2.out.alloc (.cells #[.int .i64 ((rank ns i c : Nat) : Int)] 3))
            go_wp2_with fail
            go_loopw [11, 45] (fun ah z wr => ∃ y : Nat, y ≤ pn ∧ ah = .int .i64 ((aheadTo ps c y : Nat) : Int) ∧ z = .int .i64 y ∧ wr = wq) (fun _ z _ => pn - (intOf z).toNat)
            case atStart => exact ⟨0, Nat.zero_le _, by simp [aheadTo], rfl, rfl⟩
            case round =>
              clear hcell
              obtain ⟨y, hy, rfl, rfl, rfl⟩ := hrel
              by_cases hyp : y < pn
              · have hyl : y < ps.length := by rw [Hpn.out]; exact hyp
                have hpcell : wr.cell? ⟨pg, y, none⟩ = some (.int .i64 ((ps[y] : Nat) : Int)) := by
                  rw [HB1q.out.cell (p := ⟨pg, y, none⟩) hpg, Hpc.out y hyl, List.getD_eq_getElem?_getD, List.getElem?_eq_getElem hyl]
                  rfl
                have hal := aheadTo_le ps c y
                obtain ⟨py, hpy⟩ : ∃ py, ps[y] = py := ⟨_, rfl⟩
                rw [hpy] at hpcell
                by_cases hlt : py < c
                · have e1 := Lib.hid (aheadTo_yes (x := c) hyl (by rw [hpy]; exact hlt))
                  have hlt2 : (py : Int) < (c : Int) := by omega
                  obtain ⟨av, hav⟩ : ∃ av, aheadTo ps c y = av := ⟨_, rfl⟩
                  rw [hav] at e1 hal ⊢
                  clear hpy hav b2 f2
                  go_wp2_with fail
                  go_roundw
                  case rel => exact ⟨y + 1, by omega, by rw [e1.out]; go_num, by go_num, by first | rfl | trivial⟩
                  case measure => simp [intOf]; omega
                · have e1 := Lib.hid (aheadTo_no (x := c) hyl (by rw [hpy]; exact hlt))
                  have hlt2 : ¬ (py : Int) < (c : Int) := by omega
                  obtain ⟨av, hav⟩ : ∃ av, aheadTo ps c y = av := ⟨_, rfl⟩
                  rw [hav] at e1 hal ⊢
                  clear hpy hav b2 f2
                  go_wp2_with fail
                  go_roundw
                  case rel => exact ⟨y + 1, by omega, by rw [e1.out], by go_num, by first | rfl | trivial⟩
                  case measure => simp [intOf]; omega
              · obtain rfl : y = pn := by omega
                have hra : aheadTo ps c y = rank ns i c := by rw [← Hpn.out, ← Hps.out]; exact aheadTo_all ns i c
                rw [hra]
                obtain ⟨rk, hrk⟩ : ∃ rk, rank ns i c = rk := ⟨_, rfl⟩
                rw [hrk] at Hrk hown2 ⊢
                clear hra hrk
                have hvl := (H2.out.lt vg rfl).1
                have hrkl : (rks ns i ks q).length = q := by unfold rks; rw [List.length_map, List.length_take]; omega
                go_wp2_with (at_builtin; refine wpList_append_own_at _ rfl _ _ 35 rfl (xb + 1) 3 i0 (.int .i64 0) 1 8 Tryd.underlying35 hi0 hz0 hz1 hz2 rfl (by decide) (.slice (some ⟨vg, 0, none⟩) q vc) q (IV (rks ns i ks q)) rfl hown2.out ⟨wr.heap.size, 0, none⟩ 1 1 [.int .i64 (rk : Int)] rfl ?c1 ?c2 ?c3 ?c4 ?c5 ?c6 ?_)
                case c1 => rfl
                case c2 => exact cell_new1 _ _ _
                case c3 => intro u hu; simp at hu; subst hu; rfl
                case c4 => unfold maxLen; omega
                case c5 => omega
                case c6 => simp; omega
                intro v' w3 hown3 hgrow _ _
                obtain ⟨gq, cq, rfl⟩ : ∃ g cq, v' = .slice (some ⟨g, 0, none⟩) (q + 1) cq := by
                  rcases hown3.2 with ⟨_, h⟩ | ⟨g, cap, cur, e, _⟩
                  · omega
                  · exact ⟨g, cap, e⟩
                have ba : Below wr.heap.size wr (wr.alloc (.cells #[.int .i64 (rk : Int)] 3)) := (Below.refl _ _).alloc (Nat.le_refl _) _
                have a1 := block_grown hgrow (H1.out.below ba) (show some vg ≠ some xb by intro h; have := Option.some.inj h; omega)
                have c1' := cell_of a1 (k := 2) rfl
                have f1' := a1.free 2
                have N1 := Lib.hid (show BlockAt (w3.setCell ⟨xb, 2, none⟩ (.slice (some ⟨gq, 0, none⟩) (q + 1) cq)) xb #[.int .i64 kd, .string tx, .slice (some ⟨gq, 0, none⟩) (q + 1) cq, .int .i64 pl] 37 from a1.set 2 _)
                have N2 := Lib.hid (show (w3.setCell ⟨xb, 2, none⟩ (.slice (some ⟨gq, 0, none⟩) (q + 1) cq)).ownsRow (xb + 1) 3 1 (.slice (some ⟨gq, 0, none⟩) (q + 1) cq) (q + 1) (IV (rks ns i ks (q + 1))) from by
                  rw [IV_snoc, ← Hrk.out] at hown3
                  exact own_setk hown3 (by omega) 2 _)
                have N4 := Lib.hid (show Below xb wo (w3.setCell ⟨xb, 2, none⟩ (.slice (some ⟨gq, 0, none⟩) (q + 1) cq)) from ((H4.out.trans (ba.mono (by omega))).grown hgrow (by have := ba.size; omega) (fun g hgk => by have h5 : vg = g := Option.some.inj hgk; omega)).setCell (Nat.le_refl _) _)
                clear a1 ba hown3 hgrow b2 f2 hown2 Hrk
                go_wp2_with fail
                go_roundw
                case rel => exact ⟨q + 1, _, by omega, by go_num, N1, N2, Lib.hid ⟨_, _, rfl⟩, N4⟩
                case measure => simp [intOf]; omega
          · obtain rfl : q = ks.length := by omega
            obtain ⟨xs, o1, o2⟩ := HO.out
            obtain ⟨vg, vc, hvs⟩ := H3.out
            have hcn := cutTo_len ns i k
            have hbw : Below wo.heap.size wo wr := by rw [Hwx.out]; exact H4.out
            have hlt1 := H1.out.lt
            have O1 := Lib.hid ((own_below o1 hbw).alloc (.cells #[.int .i64 kd, .string tx, v, .int .i64 pl] 37))
            have O0 := Lib.hid o1
            have O2 := Lib.hid o2
            have hb0 := cell_of H1.out (k := 0) rfl
            have hb1 := cell_of H1.out (k := 1) rfl
            have hb2 := cell_of H1.out (k := 2) rfl
            have hb3 := cell_of H1.out (k := 3) rfl
            have Hbw := Lib.hid hbw
            obtain ⟨cn, hcne⟩ : ∃ cn, (cutTo ns i k).length = cn := ⟨_, rfl⟩
            have Hcn := Lib.hid hcne
            rw [hcne] at hcn O1
            have hrl : (rks ns i ks ks.length).length = ks.length := by unfold rks; rw [List.length_map, List.length_take]; omega
            have Hrl := Lib.hid hrl
            subst hvs
            clear o1 o2 hcne hbw hrl
            go_wp2_with (at_builtin; refine wpList_append_own_at _ rfl _ _ 22 rfl w1.heap.size 37 i1 (.agg #[.int .i64 0, .string ⟨#[]⟩, .slice none 0 0, .int .i64 0]) 4 56 Tryd.underlying22 hi1 hy0 hy1 hy2 rfl (by decide) u6 cn xs rfl O1.out ⟨wr.heap.size, 0, none⟩ 1 1 [.int .i64 kd, .string tx, .slice (some ⟨vg, 0, none⟩) ks.length vc, .int .i64 pl] rfl rfl ?c1 ?c2 ?c3 ?c4 ?c5 ?_)
            case c1 => exact cell_new4 _ _ _ _ _ _
            case c2 => intro u hu; simp at hu; rcases hu with rfl | rfl | rfl | rfl <;> rfl
            case c3 => unfold maxLen; omega
            case c4 => omega
            case c5 => simp; omega
            intro v' w3 hown3 hgrow _ hob
            have P1 := Lib.hid (show OutR w3 w1.heap.size v' (cutTo ns i (k + 1)) by
              have hh := OutR.push (nd := nodeC ns i k) (ks := rks ns i ks ks.length) O0.out O2.out Hbw.out hwx (by rw [Hrl.out]; exact H2.out) (by rw [HnC.out]; unfold rks; rw [List.take_length, List.map_map]; rfl) (by rw [Hrl.out]) (by rw [HnC.out, Hcn.out]; exact hown3) hgrow (by rw [show (wr.alloc _).heap.size = wr.heap.size + 1 by simp]; exact hob)
              rw [Hnext.out]
              exact hh)
            have P2 := Lib.hid (show Below w1.heap.size w1 w3 from ((HB1q.out.alloc HB1q.out.size _).grown hgrow (by have := HB1q.out.size; simp; omega) (fun g hgk => (O0.out.lt g hgk).1)))
            clear hown3 hgrow hob O1 hb0 hb1 hb2 hb3
            go_wp2_with fail
            go_roundw
            case rel => exact ⟨k + 1, by omega, by go_num, P1, P2⟩
            case measure => simp [intOf]; omega
      · rw [decide_eq_false hin] at HN
        have Hnext := Lib.hid (cutTo_no (by rw [Hps.out]; exact hin : k ∉ part ns i))
        clear hin
        go_wp2_with fail
        refine HN.out.mono ?_
        rintro e w2 ⟨rfl, rfl⟩
        have HO2 := Lib.hid (show OutR wr w1.heap.size u6 (cutTo ns i (k + 1)) by rw [Hnext.out]; exact HO.out)
        go_wp2_with fail
        go_roundw
        case rel => exact ⟨k + 1, by omega, by go_num, HO2, HB⟩
        case measure => simp [intOf]; omega
    · obtain rfl : k = i + 1 := by omega
      rw [cutTo_all] at HO
      have Hres := Lib.hid HO.out.nds
      have B9 := Lib.hid (B1.out.trans (HB.out.mono B1.out.size))
      have hki2 : ¬ ((i + 1 : Nat) : Int) ≤ (i : Int) := by omega
      go_wp2_with fail
      go_ret
      exact ⟨⟨_, rfl, Hres.out⟩, B9.out⟩
end Go.Proofs.YtfcoelnibpinmaaDoor
