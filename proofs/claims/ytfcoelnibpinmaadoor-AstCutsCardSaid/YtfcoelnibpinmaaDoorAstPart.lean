/- The program's part: the nodes of places that rise. -/
import Derived.Test.YtfcoelnibpinmaaDoorAstPartM
import Derived.Deep.DeepCutAuto
namespace Go.Proofs.YtfcoelnibpinmaaDoor
open Go.RowKit

def II (l : List Nat) : List Int := l.map fun j => ((j : Nat) : Int)
/-- The kids' new places, the first q of them. -/
def kidF (ns : List Nd) (i : Nat) (ks : List Int) (q j : Nat) : Nat := if j < q then rank ns i (ks.getD j 0).toNat else 0
theorem kidF_next (ns : List Nd) (i : Nat) (ks : List Int) (q c : Nat) (hc : ks.getD q 0 = (c : Int)) : (fun j => if j = q then rank ns i c else kidF ns i ks q j) = kidF ns i ks (q + 1) := by
  funext j
  unfold kidF
  by_cases e : j = q
  · rw [if_pos e, if_pos (by omega), e, hc, Int.toNat_natCast]
  · rw [if_neg e]
    by_cases h : j < q
    · rw [if_pos h, if_pos (by omega)]
    · rw [if_neg h, if_neg (by omega)]
theorem cut_node (ns : List Nd) (i t : Nat) (h2 : t < (srt ns i).length) {p : Nat} (hp : (srt ns i)[t] = p) (hpl : p < ns.length) {nd : Nd} (hnd : ns[p] = nd) : (cutNs ns i)[t]? = some ⟨nd.kind, nd.text, nd.kids.map fun x => ((rank ns i x.toNat : Nat) : Int), nd.place⟩ := by
  unfold cutNs
  rw [List.getElem?_map, List.getElem?_eq_getElem h2, hp, Option.map_some, List.getD_eq_getElem?_getD, List.getElem?_eq_getElem hpl, kidsAt_get hpl]
  simp only [Option.getD_some, hnd]
theorem cell_of {w : World} {b k : Nat} {xs : Array Value} {t : TypeId} {v : Value} (h : BlockAt w b xs t) (hv : xs[k]? = some v) : w.cell? ⟨b, k, none⟩ = some v := by rw [h.cell]; exact hv
/-- Behind the node's store into the cut. -/
theorem part_end {ns : List Nd} (_tp : TreeP ns) {i L n t q xb nb : Nat} (_hi : i < ns.length) {w wo W2 : World} {cur : Array Value} {kd pl : Int} {tx : ByteArray} {ks : List Int} {f : Nat → Nat} (hcut : CutTo wo nb (nb + 1) n (cutNs ns i) t cur) (htn : t < n)
    (hms : (cutNs ns i)[t]? = some ⟨kd, tx, ks.map fun x => ((rank ns i x.toNat : Nat) : Int), pl⟩) (hm : ks.length = q) (h1 : BlockAt W2 nb (rowOf L f) 3) (h2 : BlockAt W2 (nb + 1) cur 37) (h4 : BlockAt W2 (xb + 1) (rowOf q (kidF ns i ks q)) 3)
    (hk : Kp nb (nb + 1) wo W2) (hb : Below w.heap.size w W2) (n1 : nb + 1 < xb) (n2 : w.heap.size ≤ nb) (_n3 : nb < xb) (_n4 : nb ≠ nb + 1) :
    ∃ cur2, BlockAt ((((W2.setCell ⟨nb + 1, t * 4, none⟩ (.int .i64 kd)).setCell ⟨nb + 1, t * 4 + 1, none⟩ (.string tx)).setCell ⟨nb + 1, t * 4 + 2, none⟩ (.slice (some ⟨xb + 1, 0, none⟩) q q)).setCell ⟨nb + 1, t * 4 + 3, none⟩ (.int .i64 pl)) nb (rowOf L f) 3 ∧
      BlockAt ((((W2.setCell ⟨nb + 1, t * 4, none⟩ (.int .i64 kd)).setCell ⟨nb + 1, t * 4 + 1, none⟩ (.string tx)).setCell ⟨nb + 1, t * 4 + 2, none⟩ (.slice (some ⟨xb + 1, 0, none⟩) q q)).setCell ⟨nb + 1, t * 4 + 3, none⟩ (.int .i64 pl)) (nb + 1) cur2 37 ∧
      CutTo ((((W2.setCell ⟨nb + 1, t * 4, none⟩ (.int .i64 kd)).setCell ⟨nb + 1, t * 4 + 1, none⟩ (.string tx)).setCell ⟨nb + 1, t * 4 + 2, none⟩ (.slice (some ⟨xb + 1, 0, none⟩) q q)).setCell ⟨nb + 1, t * 4 + 3, none⟩ (.int .i64 pl)) nb (nb + 1) n (cutNs ns i) (t + 1) cur2 ∧
      Below w.heap.size w ((((W2.setCell ⟨nb + 1, t * 4, none⟩ (.int .i64 kd)).setCell ⟨nb + 1, t * 4 + 1, none⟩ (.string tx)).setCell ⟨nb + 1, t * 4 + 2, none⟩ (.slice (some ⟨xb + 1, 0, none⟩) q q)).setCell ⟨nb + 1, t * 4 + 3, none⟩ (.int .i64 pl)) := by
  have hp := hcut.push (((((hk.two (.inr (.inl rfl)) (t * 4) (.int .i64 kd)).two (.inr (.inl rfl)) (t * 4 + 1) (.string tx)).two (.inr (.inl rfl)) (t * 4 + 2) (.slice (some ⟨xb + 1, 0, none⟩) q q)).two (.inr (.inl rfl)) (t * 4 + 3) (.int .i64 pl))) htn hms (kb := xb + 1) (by omega) (by omega)
    ((((h4.other (by omega) (t * 4) (.int .i64 kd)).other (by omega) (t * 4 + 1) (.string tx)).other (by omega) (t * 4 + 2) (.slice (some ⟨xb + 1, 0, none⟩) q q)).other (by omega) (t * 4 + 3) (.int .i64 pl)) (fun j hj => by
      have hj2 : j < q := by simpa [hm] using hj
      rw [rowOf_get hj2]
      unfold kidF
      rw [if_pos hj2]
      simp only [List.getD_eq_getElem?_getD, List.getElem?_map]
      rw [List.getElem?_eq_getElem (by omega)]
      rfl)
  simp only [List.length_map, hm] at hp
  exact ⟨_, (((h1.other (by omega) _ _).other (by omega) _ _).other (by omega) _ _).other (by omega) _ _, (((h2.set _ _).set _ _).set _ _).set _ _, hp, (((hb.setCell (by show w.heap.size ≤ nb + 1; omega) _).setCell (by show w.heap.size ≤ nb + 1; omega) _).setCell (by show w.heap.size ≤ nb + 1; omega) _).setCell (by show w.heap.size ≤ nb + 1; omega) _⟩
set_option maxHeartbeats 16000000 in
set_option maxRecDepth 100000 in
theorem part_any (ns : List Nd) (tp : TreeP ns) (i : Nat) (hi : i < ns.length) (w : World) (b off cap pg pc : Nat) (hb : b < w.heap.size) (hc : ∀ i (h : i < ns.length), NdAt w b (off + i * 4) ns[i]) (hk : ∀ n ∈ ns, n.kids.length ≤ 2000)
    (hpg : pg < w.heap.size) (hpl : ∀ j, j < (srt ns i).length → w.cell? ⟨pg, j, none⟩ = some (.int .i64 (((srt ns i).getD j 0 : Nat) : Int))) :
    Calls Tryd.prog 25 #[.slice (some ⟨b, off, none⟩) ns.length cap, .slice (some ⟨pg, 0, none⟩) (srt ns i).length pc] w fun e w' => (∃ v, e = .returned v ∧ Nds w' v (cutNs ns i)) ∧ Below w.heap.size w w' := by
  obtain ⟨L, hL⟩ : ∃ L, ns.length = L := ⟨_, rfl⟩
  obtain ⟨n, hn⟩ : ∃ n, (srt ns i).length = n := ⟨_, rfl⟩
  have hL2 : L ≤ 2000 := by rw [← hL]; exact tp.2.1
  have hnL : n ≤ L := by
    rw [← hn, ← hL]
    have h1 := List.length_filter_le (fun j => decide (j ∈ part ns i)) (List.range (i + 1))
    rw [List.length_range] at h1
    unfold srt
    omega
  have Htp := Lib.hid tp
  have Hi := Lib.hid hi
  have HL := Lib.hid hL
  have Hn := Lib.hid hn
  have Hc := Lib.hid hc
  have Hk := Lib.hid hk
  have Hpl := Lib.hid hpl
  rw [hL, hn]
  have hmk := fun wx => make_rowOf L (by omega) wx
  clear tp hi hc hk hpl hL hn
  obtain ⟨cur0, hcs, hmn⟩ := make_nodes n (by omega) (w.alloc (.cells (rowOf L fun _ => 0) 3))
  have B : Below w.heap.size w ((w.alloc (.cells (rowOf L fun _ => 0) 3)).alloc (.cells cur0 37)) := ((Below.refl _ _).alloc (Nat.le_refl _) _).alloc (by simp) _
  have hb1 := (BlockAt.new w (rowOf L fun _ => 0) 3).below ((Below.refl _ _).alloc (Nat.le_refl _) (.cells cur0 37))
  have hb2 := BlockAt.new (w.alloc (.cells (rowOf L fun _ => 0) 3)) cur0 37
  have hz : (w.alloc (.cells (rowOf L fun _ => 0) 3)).heap.size = w.heap.size + 1 := by simp
  rw [hz] at hb2 hmn
  clear hz
  have Hcs := Lib.hid hcs
  clear hcs
  go_enter Tryd.func25, Tryd.ntmps25
  go_wp2_with fail
  obtain ⟨nb, enb⟩ : ∃ p, w.heap.size = p := ⟨_, rfl⟩
  have l0 : w.heap.size ≤ nb := by omega
  simp only [enb] at hb1 hb2 ⊢
  clear enb hmk hmn
  have hb1' : BlockAt ((w.alloc (.cells (rowOf L fun _ => 0) 3)).alloc (.cells cur0 37)) nb (rowOf L (nowF ns i 0)) 3 := by
    have e : (fun _ : Nat => 0) = nowF ns i 0 := by funext j; unfold nowF; simp
    rw [← e]
    exact hb1
  clear hb1
  go_loopw [21] (fun p wr => ∃ (t : Nat) (cur : Array Value), t ≤ n ∧ p = .int .i64 t ∧ Hid (BlockAt wr nb (rowOf L (nowF ns i t)) 3) ∧ Hid (BlockAt wr (nb + 1) cur 37) ∧ Hid (CutTo wr nb (nb + 1) n (cutNs ns i) t cur) ∧ Hid (Below w.heap.size w wr)) (fun p _ => n - (intOf p).toNat)
  case atStart => exact ⟨0, cur0, Nat.zero_le _, rfl, Lib.hid hb1', Lib.hid hb2, Lib.hid ⟨Hcs.out, fun s _ hs => absurd hs (Nat.not_lt_zero _)⟩, Lib.hid B⟩
  case round =>
    clear hb1' hb2 B Hcs
    obtain ⟨t, cur, ht, rfl, Hb1, Hb2, Hcut, HB⟩ := hrel
    by_cases htn : t < n
    · have hts : t < (srt ns i).length := by rw [Hn.out]; exact htn
      obtain ⟨p, hp⟩ : ∃ p, (srt ns i)[t] = p := ⟨_, rfl⟩
      have hpm := (mem_srt.1 (List.getElem_mem hts)).1
      rw [hp] at hpm
      have hpL : p < L := by have := Hi.out; rw [HL.out] at this; omega
      have hpN : p < ns.length := by rw [HL.out]; exact hpL
      have hpc : wr.cell? ⟨pg, t, none⟩ = some (.int .i64 (p : Int)) := by
        rw [HB.out.cell (p := ⟨pg, t, none⟩) hpg, Hpl.out t hts, List.getD_eq_getElem?_getD, List.getElem?_eq_getElem hts, Option.getD_some, hp]
      obtain ⟨nd, hnd⟩ : ∃ nd, ns[p] = nd := ⟨_, rfl⟩
      have Hms := Lib.hid (cut_node ns i t hts hp hpN hnd)
      have hda := Hc.out p hpN
      have hkk := Hk.out _ (List.getElem_mem hpN)
      have Hnow := Lib.hid (show ∀ x ∈ kidsAt ns p, nowF ns i (t + 1) x.toNat = rank ns i x.toNat from fun x hx => now_kid Htp.out hts (by rw [hp]; exact hx))
      have Hin := Lib.hid (kids_in Htp.out p)
      have Hf := nowF_next Htp.out Hi.out hts
      rw [hp] at Hf
      have HF := Lib.hid Hf
      have Hnd := Lib.hid (show kidsAt ns p = nd.kids by rw [kidsAt_get hpN, hnd])
      rw [hnd] at hda hkk
      have c1 := cell_of Hb1.out (rowOf_get hpL)
      have f1 := Hb1.out.free p
      clear hpm hnd Hf hts hp hpN
      go_upto_region 7 with fail
      obtain ⟨W1, hW1⟩ : ∃ W1, wr.setCell ⟨nb, p, none⟩ (.int .i64 (t : Int)) = W1 := ⟨_, rfl⟩
      have Hb1' := Lib.hid (show BlockAt W1 nb (rowOf L (nowF ns i (t + 1))) 3 by rw [← hW1, ← HF.out, ← rowOf_set]; exact Hb1.out.set p _)
      have Hb2' := Lib.hid (show BlockAt W1 (nb + 1) cur 37 by rw [← hW1]; exact Hb2.out.other (by omega) p _)
      have Hkp := Lib.hid (show Kp nb (nb + 1) wr W1 by rw [← hW1]; exact (Kp.refl _ _ _).two (.inl rfl) p _)
      have HB' := Lib.hid (show Below w.heap.size w W1 by rw [← hW1]; exact HB.out.setCell l0 _)
      rw [hW1]
      clear hW1 Hb1 Hb2 HB c1 f1 hpc HF
      obtain ⟨kd, tx, ks, pl⟩ := nd
      have hdb := hda.below hb HB'.out
      obtain ⟨d0, d1, ⟨ka, kc, d2, d3, -⟩, d5⟩ := hdb
      obtain ⟨-, -, ⟨ka2, kc2, e2, -, hrow⟩, -⟩ := hda
      have d2' := d2
      rw [HB'.out.cell (p := ⟨b, off + p * 4 + 2, none⟩) hb, e2] at d2'
      obtain ⟨rfl, rfl⟩ : ka2 = ka ∧ kc2 = kc := by simpa using d2'
      have Hrow := Lib.hid hrow
      clear d2' e2 hrow
      simp only at d0 d1 d2 d3 d5 hkk Hnd Hms
      obtain ⟨m, hm⟩ : ∃ m, ks.length = m := ⟨_, rfl⟩
      have Hm := Lib.hid hm
      rw [hm] at d2 d3 hkk
      clear hm
      have hmk2 := fun wx => make_rowOf m (by omega) wx
      have x1 : Below W1.heap.size W1 (W1.alloc (.cells #[.int .i64 kd, .string tx, .slice ka2 m kc2, .int .i64 pl] 37)) := (Below.refl _ _).alloc (Nat.le_refl _) _
      have x2 : Below (W1.heap.size + 1) (W1.alloc (.cells #[.int .i64 kd, .string tx, .slice ka2 m kc2, .int .i64 pl] 37)) ((W1.alloc (.cells #[.int .i64 kd, .string tx, .slice ka2 m kc2, .int .i64 pl] 37)).alloc (.cells (rowOf m fun _ => 0) 3)) := (Below.refl _ _).alloc (by simp) _
      have hz : (W1.alloc (.cells #[.int .i64 kd, .string tx, .slice ka2 m kc2, .int .i64 pl] 37)).heap.size = W1.heap.size + 1 := by simp
      have hxb := (BlockAt.new W1 #[.int .i64 kd, .string tx, .slice ka2 m kc2, .int .i64 pl] 37).below (by rw [hz]; exact x2)
      have hkb := BlockAt.new (W1.alloc (.cells #[.int .i64 kd, .string tx, .slice ka2 m kc2, .int .i64 pl] 37)) (rowOf m fun _ => 0) 3
      rw [hz] at hkb
      have x3 := x1.trans (x2.mono (Nat.le_succ _))
      have hn1 := Hb1'.out.below x3
      have hn2 := Hb2'.out.below x3
      have hkp := (Hkp.out.alloc (.cells #[.int .i64 kd, .string tx, .slice ka2 m kc2, .int .i64 pl] 37)).alloc (.cells (rowOf m fun _ => 0) 3)
      have hbl := HB'.out.trans (x3.mono HB'.out.size)
      have hlt1 := Hb2'.out.lt
      have hws := Hkp.out.1
      clear x1 x2 x3 hz
      go_wp2_with fail
      obtain ⟨xb, exb⟩ : ∃ p, W1.heap.size = p := ⟨_, rfl⟩
      rw [exb] at hlt1 hws
      simp only [exb] at hxb hkb hmk2 ⊢
      have hb3 := HB'.out.size
      rw [exb] at hb3
      clear exb hmk2 Hb1' Hb2' Hkp HB'
      have hkb' : BlockAt ((W1.alloc (.cells #[.int .i64 kd, .string tx, .slice ka2 m kc2, .int .i64 pl] 37)).alloc (.cells (rowOf m fun _ => 0) 3)) (xb + 1) (rowOf m (kidF ns i ks 0)) 3 := by
        have e : (fun _ : Nat => 0) = kidF ns i ks 0 := by funext j; unfold kidF; simp
        rw [← e]
        exact hkb
      clear hkb
      obtain ⟨wo, rfl⟩ : ∃ wo : World, wo = wr := ⟨_, rfl⟩
      go_loopw [41] (fun z wr2 => ∃ q : Nat, q ≤ m ∧ z = .int .i64 q ∧ Hid (BlockAt wr2 nb (rowOf L (nowF ns i (t + 1))) 3) ∧ Hid (BlockAt wr2 (nb + 1) cur 37) ∧ Hid (BlockAt wr2 xb #[.int .i64 kd, .string tx, .slice ka2 m kc2, .int .i64 pl] 37) ∧ Hid (BlockAt wr2 (xb + 1) (rowOf m (kidF ns i ks q)) 3) ∧ Hid (Kp nb (nb + 1) wo wr2) ∧ Hid (Below w.heap.size w wr2)) (fun z _ => m - (intOf z).toNat)
      case atStart => exact ⟨0, Nat.zero_le _, rfl, Lib.hid hn1, Lib.hid hn2, Lib.hid hxb, Lib.hid hkb', Lib.hid hkp, Lib.hid hbl⟩
      case round =>
        clear hn1 hn2 hxb hkb' hkp hbl d0 d1 d2 d5
        obtain ⟨q, hq, rfl, H1, H2, H3, H4, HK, HB⟩ := hrel
        by_cases hqm : q < m
        · have hql : q < ks.length := by rw [Hm.out]; exact hqm
          obtain ⟨sb, so, rfl, hsb, hkc⟩ := Hrow.out.cells (by omega)
          have hcell : wr.cell? ⟨sb, so + q, none⟩ = some (.int .i64 (ks.getD q 0)) := by rw [HB.out.cell (p := ⟨sb, so + q, none⟩) hsb]; exact hkc q hql
          clear hkc
          have hmem : ks.getD q 0 ∈ ks := getD_mem hql
          have hin := Hin.out (ks.getD q 0) (by rw [Hnd.out]; exact hmem)
          have hnw := Hnow.out (ks.getD q 0) (by rw [Hnd.out]; exact hmem)
          obtain ⟨ci, hci⟩ : ∃ ci, ks.getD q 0 = ci := ⟨_, rfl⟩
          rw [hci] at hcell hin hnw
          obtain ⟨c, rfl⟩ : ∃ c : Nat, ci = (c : Int) := ⟨ci.toNat, by omega⟩
          rw [Int.toNat_natCast] at hnw
          have hcp : c < p := by omega
          have hcL : c < L := by omega
          have Hkn := Lib.hid (kidF_next ns i ks q c hci)
          have c1 := cell_of H1.out (rowOf_get hcL)
          rw [hnw] at c1
          have c4 := cell_of H4.out (rowOf_get hqm)
          have f4 := H4.out.free q
          obtain ⟨rk, hrk⟩ : ∃ rk, rank ns i c = rk := ⟨_, rfl⟩
          rw [hrk] at c1
          have N1 := Lib.hid (show BlockAt (wr.setCell ⟨xb + 1, q, none⟩ (.int .i64 (rk : Int))) nb (rowOf L (nowF ns i (t + 1))) 3 from H1.out.other (by omega) q _)
          have N2 := Lib.hid (show BlockAt (wr.setCell ⟨xb + 1, q, none⟩ (.int .i64 (rk : Int))) (nb + 1) cur 37 from H2.out.other (by omega) q _)
          have N3 := Lib.hid (show BlockAt (wr.setCell ⟨xb + 1, q, none⟩ (.int .i64 (rk : Int))) xb #[.int .i64 kd, .string tx, .slice (some ⟨sb, so, none⟩) m kc2, .int .i64 pl] 37 from H3.out.other (by omega) q _)
          have N4 := Lib.hid (show BlockAt (wr.setCell ⟨xb + 1, q, none⟩ (.int .i64 (rk : Int))) (xb + 1) (rowOf m (kidF ns i ks (q + 1))) 3 by rw [← Hkn.out, ← hrk, ← rowOf_set]; exact H4.out.set q _)
          have NK := Lib.hid (show Kp nb (nb + 1) wo (wr.setCell ⟨xb + 1, q, none⟩ (.int .i64 (rk : Int))) from HK.out.two (.inr (.inr (by omega))) q _)
          have NB := Lib.hid (show Below w.heap.size w (wr.setCell ⟨xb + 1, q, none⟩ (.int .i64 (rk : Int))) from HB.out.setCell (by show w.heap.size ≤ xb + 1; omega) _)
          clear hci hin hnw hmem hrk H1 H2 H3 H4 HK HB
          go_wp2_with fail
          go_roundw
          case rel => exact ⟨q + 1, by omega, by go_num, N1, N2, N3, N4, NK, NB⟩
          case measure => simp [intOf]; omega
        · obtain rfl : q = m := by omega
          have b0 := cell_of H3.out (k := 0) rfl
          have b1 := cell_of H3.out (k := 1) rfl
          have b2 := cell_of H3.out (k := 2) rfl
          have b3 := cell_of H3.out (k := 3) rfl
          have f2 := H3.out.free 2
          go_upto_region 15 with fail
          obtain ⟨W2, hW2⟩ : ∃ W2, wr.setCell ⟨xb, 2, none⟩ (.slice (some ⟨xb + 1, 0, none⟩) q q) = W2 := ⟨_, rfl⟩
          have N1 := Lib.hid (show BlockAt W2 nb (rowOf L (nowF ns i (t + 1))) 3 by rw [← hW2]; exact H1.out.other (by omega) 2 _)
          have N2 := Lib.hid (show BlockAt W2 (nb + 1) cur 37 by rw [← hW2]; exact H2.out.other (by omega) 2 _)
          have N3 := Lib.hid (show BlockAt W2 xb #[.int .i64 kd, .string tx, .slice (some ⟨xb + 1, 0, none⟩) q q, .int .i64 pl] 37 by rw [← hW2]; exact H3.out.set 2 _)
          have N4 := Lib.hid (show BlockAt W2 (xb + 1) (rowOf q (kidF ns i ks q)) 3 by rw [← hW2]; exact H4.out.other (by omega) 2 _)
          have NK := Lib.hid (show Kp nb (nb + 1) wo W2 by rw [← hW2]; exact HK.out.two (.inr (.inr (by omega))) 2 _)
          have NB := Lib.hid (show Below w.heap.size w W2 by rw [← hW2]; exact HB.out.setCell (by show w.heap.size ≤ xb; omega) _)
          rw [hW2]
          clear hW2 H1 H2 H3 H4 HK HB b0 b1 b2 b3 f2
          have b0 := cell_of N3.out (k := 0) rfl
          have b1 := cell_of N3.out (k := 1) rfl
          have b2 := cell_of N3.out (k := 2) rfl
          have b3 := cell_of N3.out (k := 3) rfl
          have hcz := Hcut.out.1
          obtain ⟨y0, hy0⟩ : ∃ y, cur[t * 4]? = some y := ⟨_, Array.getElem?_eq_getElem (by omega)⟩
          obtain ⟨y1, hy1⟩ : ∃ y, cur[t * 4 + 1]? = some y := ⟨_, Array.getElem?_eq_getElem (by omega)⟩
          obtain ⟨y2, hy2⟩ : ∃ y, cur[t * 4 + 2]? = some y := ⟨_, Array.getElem?_eq_getElem (by omega)⟩
          obtain ⟨y3, hy3⟩ : ∃ y, cur[t * 4 + 3]? = some y := ⟨_, Array.getElem?_eq_getElem (by omega)⟩
          have e0 := cell_of N2.out hy0
          have e1 := cell_of N2.out hy1
          have e2 := cell_of N2.out hy2
          have e3 := cell_of N2.out hy3
          have g0 := N2.out.free (t * 4)
          have g1 := N2.out.free (t * 4 + 1)
          have g2 := N2.out.free (t * 4 + 2)
          have g3 := N2.out.free (t * 4 + 3)
          have Hend := Lib.hid (part_end Htp.out Hi.out Hcut.out htn Hms.out Hm.out N1.out N2.out N4.out NK.out NB.out (by omega) (by omega) (by omega) (by omega))
          clear hcz hy0 hy1 hy2 hy3
          go_wp2_with fail
          obtain ⟨cur2, E1, E2, E3, E4⟩ := Hend.out
          go_roundw
          case rel => exact ⟨t + 1, cur2, by omega, by go_num, Lib.hid E1, Lib.hid E2, Lib.hid E3, Lib.hid E4⟩
          case measure => simp [intOf]; omega
    · obtain rfl : t = n := by omega
      have Hres := Lib.hid (Hcut.out.nds Hb2.out (by unfold cutNs; rw [List.length_map]; exact Hn.out) (Nat.le_refl _))
      go_wp2_with fail
      go_ret
      exact ⟨⟨_, rfl, Hres.out⟩, HB.out⟩
end Go.Proofs.YtfcoelnibpinmaaDoor
