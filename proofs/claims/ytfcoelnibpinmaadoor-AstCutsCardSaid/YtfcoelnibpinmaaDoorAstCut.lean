/- The program's Cut. -/
import Derived.Test.YtfcoelnibpinmaaDoorAstSort
import Derived.Test.YtfcoelnibpinmaaDoorAstDeep
import Derived.Laws.EntriesVeiled
namespace Go.Proofs.YtfcoelnibpinmaaDoor
open Go.RowKit Go.Sort

theorem part_len {ns : List Nd} (tp : TreeP ns) {i : Nat} (hi : i < ns.length) : (part ns i).length ≤ 4000 := by
  rw [← srt_length tp hi]
  have h1 := List.length_filter_le (fun j => decide (j ∈ part ns i)) (List.range (i + 1))
  rw [List.length_range] at h1
  have := tp.2.1
  unfold srt
  omega
theorem part_pos {ns : List Nd} (tp : TreeP ns) (i : Nat) : 0 < (part ns i).length := List.length_pos_of_mem (self_part tp i)
set_option maxHeartbeats 4000000 in
theorem cut_bad (ao : Option Addr) (cap : Nat) (ns : List Nd) (i : Int) (w : World) (hr : NRow w ao ns) (hC : Counts w) (hk : ∀ n ∈ ns, n.kids.length ≤ 2000) (hl : ns.length ≤ 100000) (ht : treeB ns = false) :
    Calls Tryd.prog 13 #[.slice ao ns.length cap, .int .i64 i] w fun e w' => e = .returned (.tuple #[.slice none 0 0, .int .i64 1]) ∧ Below w.heap.size w w' := by
  have b0 : Below w.heap.size w (w.alloc (.cells #[.slice ao ns.length cap] 22)) := (Below.refl _ _).alloc (Nat.le_refl _) _
  have HR := Lib.hid (right_any ao cap ns _ (hr.below b0) (hC.below b0) hk hl)
  have Ht := Lib.hid ht
  generalize ns.length = L at *
  have B0 := Lib.hid b0
  clear hr hC hk hl ht b0
  go_enter Tryd.func13, Tryd.ntmps13
  go_wp2_with fail
  refine HR.out.mono ?_
  rintro e w1 ⟨rfl, b1⟩
  rw [Ht.out]
  have B := B0.out.trans (b1.mono B0.out.size)
  clear b1
  go_wp2_with fail
  go_ret2
  exact ⟨rfl, B⟩
set_option maxHeartbeats 4000000 in
theorem cut_none (ao : Option Addr) (cap : Nat) (ns : List Nd) (i : Int) (w : World) (hr : NRow w ao ns) (hC : Counts w) (hk : ∀ n ∈ ns, n.kids.length ≤ 2000) (hl : ns.length ≤ 100000) (ht : treeB ns = true) (hi : i < 0 ∨ (ns.length : Int) ≤ i) :
    Calls Tryd.prog 13 #[.slice ao ns.length cap, .int .i64 i] w fun e w' => e = .returned (.tuple #[.slice none 0 0, .int .i64 8]) ∧ Below w.heap.size w w' := by
  have b0 : Below w.heap.size w (w.alloc (.cells #[.slice ao ns.length cap] 22)) := (Below.refl _ _).alloc (Nat.le_refl _) _
  have HR := Lib.hid (right_any ao cap ns _ (hr.below b0) (hC.below b0) hk hl)
  have k0 := BlockAt.new w #[.slice ao ns.length cap] 22
  have Ht := Lib.hid ht
  generalize ns.length = L at *
  have B0 := Lib.hid b0
  have K0 := Lib.hid k0
  clear hr hC hk ht b0 k0
  go_enter Tryd.func13, Tryd.ntmps13
  go_wp2_with fail
  refine HR.out.mono ?_
  rintro e w1 ⟨rfl, b1⟩
  rw [Ht.out]
  have B := B0.out.trans (b1.mono B0.out.size)
  have c1 := (K0.out.below b1).cell 0
  simp only [List.getElem?_toArray, List.getElem?_cons_zero] at c1
  clear b1
  by_cases hneg : i < 0
  · clear hi
    go_wp2_with fail
    go_ret2
    exact ⟨rfl, B⟩
  · have hge : (L : Int) ≤ i := by omega
    have hd : decide (i < 0) = false := by simpa using hneg
    clear hi
    go_wp2_with fail
    go_ret2
    exact ⟨rfl, B⟩
set_option maxHeartbeats 8000000 in
set_option maxRecDepth 100000 in
theorem cut_ok (ao : Option Addr) (cap : Nat) (ns : List Nd) (i : Nat) (w : World) (hr : NRow w ao ns) (hC : Counts w) (hk : ∀ n ∈ ns, n.kids.length ≤ 2000) (ht : treeB ns = true) (hi : i < ns.length) :
    Calls Tryd.prog 13 #[.slice ao ns.length cap, .int .i64 (i : Int)] w fun e w' => (∃ v, e = .returned (.tuple #[v, .int .i64 0]) ∧ Nds w' v (cutNs ns i)) ∧ Below w.heap.size w w' := by
  have tp := tree_of ht
  obtain ⟨b, off, rfl, hb, hc⟩ := hr.nodes tp.1
  have b0 : Below w.heap.size w (w.alloc (.cells #[.slice (some ⟨b, off, none⟩) ns.length cap] 22)) := (Below.refl _ _).alloc (Nat.le_refl _) _
  have HR := Lib.hid (right_any (some ⟨b, off, none⟩) cap ns _ (hr.below b0) (hC.below b0) hk (by have := tp.2.1; omega))
  have k0 := BlockAt.new w #[.slice (some ⟨b, off, none⟩) ns.length cap] 22
  have Ht := Lib.hid ht
  have Hi := Lib.hid hi
  have hL2 : ns.length ≤ 2000 := tp.2.1
  have Htp := Lib.hid tp
  have Hc := Lib.hid hc
  have Hk := Lib.hid hk
  obtain ⟨L, hL⟩ : ∃ L, ns.length = L := ⟨_, rfl⟩
  have HL := Lib.hid hL
  rw [hL] at HR k0 b0 hi hL2 ⊢
  have B0 := Lib.hid b0
  have K0 := Lib.hid k0
  clear hr hC hk ht b0 k0 hc tp hL
  go_enter Tryd.func13, Tryd.ntmps13
  go_wp2_with fail
  refine HR.out.mono ?_
  rintro e w1 ⟨rfl, b1⟩
  rw [Ht.out]
  have B := B0.out.trans (b1.mono B0.out.size)
  have k1 := K0.out.below b1
  have c1 := k1.cell 0
  simp only [List.getElem?_toArray, List.getElem?_cons_zero] at c1
  have hd : decide ((i : Int) < 0) = false := by simp
  have hlb : w.heap.size < w1.heap.size := k1.lt
  have K1 := Lib.hid k1
  have HB := Lib.hid B
  clear b1 k1 B K0 B0 HR
  go_upto_region 8 with fail
  obtain ⟨pb, hpb⟩ : ∃ p, w1.heap.size = p := ⟨_, rfl⟩
  obtain ⟨lb, hlbe⟩ : ∃ p, w.heap.size = p := ⟨_, rfl⟩
  have p2 := (BlockAt.new w1 #[.slice none 0 0] 35).below ((Below.refl _ _).alloc (Nat.le_refl _) (.cells #[gatherFn pb lb (pb + 1)] 45))
  have g2 := BlockAt.new (w1.alloc (.cells #[.slice none 0 0] 35)) #[gatherFn pb lb (pb + 1)] 45
  have b2 : Below w1.heap.size w1 ((w1.alloc (.cells #[.slice none 0 0] 35)).alloc (.cells #[gatherFn pb lb (pb + 1)] 45)) := ((Below.refl _ _).alloc (Nat.le_refl _) _).alloc (by simp) _
  have hz : (w1.alloc (.cells #[.slice none 0 0] 35)).heap.size = pb + 1 := by simp [hpb]
  have l2 := K1.out.below b2
  rw [hz] at g2
  rw [hpb] at p2
  rw [hlbe] at l2
  have hp : w.heap.size ≤ pb := by rw [← hpb]; exact HB.out.size
  have G2 := Lib.hid (show GS _ pb lb (pb + 1) (.slice (some ⟨b, off, none⟩) ns.length cap) [] from ⟨⟨_, p2, World.ownsRow_nil _ _ _ _⟩, by rw [HL.out]; exact l2, g2⟩)
  have B2 := Lib.hid (HB.out.trans (b2.mono HB.out.size))
  have HG := Lib.hid (gather_any ns Htp.out w b off cap pb lb (pb + 1) hb Hc.out Hk.out hp (by omega) (by omega) (by omega) i Hi.out [] _ (by have := part_len Htp.out Hi.out; simp; omega) B2.out G2.out)
  rw [List.nil_append] at HG
  unfold gatherFn at HG
  have cg := g2.cell 0
  simp only [List.getElem?_toArray, List.getElem?_cons_zero] at cg
  unfold gatherFn at cg
  have h9 : pb ≠ lb := by omega
  have h10 : lb < pb + 1 := by omega
  clear p2 g2 b2 hz l2 G2 B2 K1 c1
  rw [hpb, hlbe]
  clear hpb hlbe
  generalize (w1.alloc (.cells #[.slice none 0 0] 35)).alloc (.cells #[.func (.func 23) #[] #[.pointer (some ⟨pb, 0, none⟩), .pointer (some ⟨lb, 0, none⟩), .pointer (some ⟨pb + 1, 0, none⟩)]] 45) = W2 at *
  clear HB hlb
  go_wp2_with fail
  refine HG.out.mono ?_
  rintro e w3 ⟨rfl, g3, b3⟩
  obtain ⟨⟨v, v3, o3⟩, l3, -⟩ := g3
  rw [HL.out] at l3
  have hlen := part_pos Htp.out i
  obtain ⟨g, pc, rfl⟩ : ∃ g pc, v = .slice (some ⟨g, 0, none⟩) (part ns i).length pc := by
    rcases o3.2 with ⟨_, h⟩ | ⟨g, cap, cur, e, _⟩
    · omega
    · exact ⟨g, cap, e⟩
  have hg := o3.lt g rfl
  have HS := Lib.hid (sort_part ns Htp.out i Hi.out _ g pc w3 o3)
  have V3 := Lib.hid v3
  have L3 := Lib.hid l3
  have B3 := Lib.hid b3
  have c3 := v3.cell 0
  simp only [List.getElem?_toArray, List.getElem?_cons_zero] at c3
  clear v3 l3 b3 o3 cg HG
  obtain ⟨n, hn⟩ : ∃ n, (part ns i).length = n := ⟨_, rfl⟩
  have Hn := Lib.hid hn
  rw [hn] at HS V3 c3
  clear hn hlen
  go_wp2_with fail
  refine HS.out.mono ?_
  rintro e w4 ⟨rfl, gr, hs⟩
  have v4 := block_grown gr V3.out (show some g ≠ some pb by intro h; have := Option.some.inj h; omega)
  have l4 := block_grown gr L3.out (show some g ≠ some lb by intro h; have := Option.some.inj h; omega)
  have b4 : Below w.heap.size w w4 := B3.out.grown gr B3.out.size (fun k hk => by have := Option.some.inj hk; omega)
  have hg4 : g < w4.heap.size := Nat.lt_of_lt_of_le hg.2 gr.size
  have hsn : (srt ns i).length = n := by rw [srt_length Htp.out Hi.out]; exact Hn.out
  have HP := Lib.hid (part_any ns Htp.out i Hi.out w4 b off cap g pc (Nat.lt_of_lt_of_le hb b4.size) (fun j hj => (Hc.out j hj).below hb b4) Hk.out hg4 hs)
  rw [hsn, HL.out] at HP
  have cv := v4.cell 0
  have cl := l4.cell 0
  simp only [List.getElem?_toArray, List.getElem?_cons_zero] at cv cl
  have B4 := Lib.hid b4
  clear gr hs v4 l4 b4 hsn c3 HS V3 L3 B3
  go_wp2_with fail
  refine HP.out.mono ?_
  rintro e w5 ⟨⟨v, rfl, hv⟩, b5⟩
  have Hv := Lib.hid hv
  have B5 := Lib.hid (B4.out.trans (b5.mono B4.out.size))
  clear hv b5
  go_wp2_with fail
  go_ret2
  exact ⟨⟨_, rfl, Hv.out⟩, B5.out⟩
end Go.Proofs.YtfcoelnibpinmaaDoor
