/- What the reference's Cut keeps. -/
import Derived.Test.YtfcoelnibpinmaaDoorAstRefPart
import Derived.Test.YtfcoelnibpinmaaDoorAstFew
import Derived.Test.YtfcoelnibpinmaaDoorAstCutM
import Derived.Deep.Slices
namespace Go.Proofs.YtfcoelnibpinmaaDoor
open Go.RowKit

def nodeC (ns : List Nd) (i k : Nat) : Nd := ⟨(ns.getD k ⟨0, ⟨#[]⟩, [], 0⟩).kind, (ns.getD k ⟨0, ⟨#[]⟩, [], 0⟩).text, (kidsAt ns k).map (rankI ns i), (ns.getD k ⟨0, ⟨#[]⟩, [], 0⟩).place⟩
/-- The cut's nodes of the first k places. -/
def cutTo (ns : List Nd) (i k : Nat) : List Nd := ((List.range k).filter fun j => decide (j ∈ part ns i)).map (nodeC ns i)
theorem cutTo_all (ns : List Nd) (i : Nat) : cutTo ns i (i + 1) = cutNs ns i := rfl
theorem cutTo_yes {ns : List Nd} {i k : Nat} (h : k ∈ part ns i) : cutTo ns i (k + 1) = cutTo ns i k ++ [nodeC ns i k] := by
  unfold cutTo
  rw [List.range_succ, List.filter_append, List.filter_cons_of_pos (by simpa using h), List.filter_nil, List.map_append]
  rfl
theorem cutTo_no {ns : List Nd} {i k : Nat} (h : k ∉ part ns i) : cutTo ns i (k + 1) = cutTo ns i k := by
  unfold cutTo
  rw [List.range_succ, List.filter_append, List.filter_cons_of_neg (by simpa using h), List.filter_nil, List.append_nil]
theorem cutTo_len (ns : List Nd) (i k : Nat) : (cutTo ns i k).length ≤ k := by
  unfold cutTo
  rw [List.length_map]
  have := List.length_filter_le (fun j => decide (j ∈ part ns i)) (List.range k)
  rw [List.length_range] at this
  exact this
/-- A row of kids, apart from the row of nodes. -/
def KR (w : World) (vo : Value) (ka : Option Addr) (zs : List Int) : Prop :=
  zs = [] ∨ ∃ b off, ka = some ⟨b, off, none⟩ ∧ b < w.heap.size ∧ vo.ownBlock ≠ some b ∧ ∀ i, i < zs.length → w.cell? ⟨b, off + i, none⟩ = some (.int .i64 (zs.getD i 0))
theorem KR.irow {w : World} {vo : Value} {ka : Option Addr} {zs : List Int} (h : KR w vo ka zs) : IRow w ka zs := by
  rcases h with h | ⟨b, off, h1, h2, _, h4⟩
  · exact .inl h
  · exact .inr ⟨b, off, h1, h2, h4⟩
theorem KR.below {w w' : World} {vo : Value} {ka : Option Addr} {zs : List Int} (h : KR w vo ka zs) (hb : Below w.heap.size w w') : KR w' vo ka zs := by
  rcases h with h | ⟨b, off, h1, h2, h3, h4⟩
  · exact .inl h
  · exact .inr ⟨b, off, h1, Nat.lt_of_lt_of_le h2 hb.size, h3, fun i hi => by rw [hb.cell (p := ⟨b, off + i, none⟩) h2]; exact h4 i hi⟩
theorem KR.grown {w w' : World} {vo v' : Value} {ka : Option Addr} {zs : List Int} (h : KR w vo ka zs) (hg : w.grownBy w' vo.ownBlock) (hv : v'.ownBlock = vo.ownBlock ∨ v'.ownBlock = some w.heap.size) : KR w' v' ka zs := by
  rcases h with h | ⟨b, off, h1, h2, h3, h4⟩
  · exact .inl h
  · refine .inr ⟨b, off, h1, Nat.lt_of_lt_of_le h2 hg.size, ?_, fun i hi => ?_⟩
    · rcases hv with hv | hv
      · rw [hv]; exact h3
      · rw [hv]; intro e; have := Option.some.inj e; omega
    · rw [World.cell?_of_block (w := w) (a := ⟨b, off + i, none⟩) (hg.block b h2 (fun e => h3 e.symm))]
      exact h4 i hi
/-- The nodes that were appended. -/
def OutR (w : World) (base : Nat) (vo : Value) (ms : List Nd) : Prop := ∃ xs, w.ownsRow base 37 4 vo ms.length xs ∧ ∀ s (h : s < ms.length), ∃ ka kc, (xs.drop (s * 4)).take 4 = ndCells ms[s] ka kc ∧ ms[s].kids.length ≤ kc ∧ KR w vo ka ms[s].kids
theorem OutR.below {w w' : World} {base : Nat} {vo : Value} {ms : List Nd} (h : OutR w base vo ms) (hb : Below w.heap.size w w') : OutR w' base vo ms := by
  obtain ⟨xs, h1, h2⟩ := h
  refine ⟨xs, own_below h1 hb, fun s hs => ?_⟩
  obtain ⟨ka, kc, e1, e2, e3⟩ := h2 s hs
  exact ⟨ka, kc, e1, e2, e3.below hb⟩
theorem OutR.nds {w : World} {base : Nat} {vo : Value} {ms : List Nd} (h : OutR w base vo ms) : Nds w vo ms := by
  obtain ⟨xs, h1, h2⟩ := h
  have : Inhabited (Nd × Option Addr × Nat) := ⟨⟨⟨0, ⟨#[]⟩, [], 0⟩, none, 0⟩⟩
  obtain ⟨f, hf⟩ := Go.Deep.choose_lt (α := Nd × Option Addr × Nat) (n := ms.length) (p := fun s x => ∃ h : s < ms.length, x.1 = ms[s] ∧ (xs.drop (s * 4)).take 4 = ndCells x.1 x.2.1 x.2.2 ∧ x.1.kids.length ≤ x.2.2 ∧ IRow w x.2.1 x.1.kids) (fun s hs => by
    obtain ⟨ka, kc, e1, e2, e3⟩ := h2 s hs
    exact ⟨(ms[s], ka, kc), hs, rfl, e1, e2, e3.irow⟩)
  have hn := nds_own h1 f (fun j hj => by
    obtain ⟨_, _, e1, e2, e3⟩ := hf j hj
    exact ⟨e1, e2, e3⟩)
  have e : ((List.range ms.length).map fun j => (f j).1) = ms := by
    apply List.ext_getElem?
    intro j
    by_cases hj : j < ms.length
    · obtain ⟨_, e0, _⟩ := hf j hj
      simp [hj, e0]
    · rw [List.getElem?_eq_none (by simp; omega), List.getElem?_eq_none (by omega)]
  rw [e] at hn
  exact hn
/-- One node more. -/
theorem OutR.push {wo W2 w3 : World} {base xb : Nat} {vo v v' : Value} {ms : List Nd} {xs : List Value} {nd : Nd} {ks : List Nat} {cs : Array Value} {T : TypeId}
    (h1 : wo.ownsRow base 37 4 vo ms.length xs) (h2 : ∀ s (h : s < ms.length), ∃ ka kc, (xs.drop (s * 4)).take 4 = ndCells ms[s] ka kc ∧ ms[s].kids.length ≤ kc ∧ KR wo vo ka ms[s].kids)
    (hb : Below wo.heap.size wo W2) (hxb : wo.heap.size ≤ xb) (hv : W2.ownsRow (xb + 1) 3 1 v ks.length (IV ks)) (hks : nd.kids = ks.map fun j => ((j : Nat) : Int)) {g cap : Nat} (hvs : v = .slice (some ⟨g, 0, none⟩) ks.length cap)
    (hown : w3.ownsRow base 37 4 v' (ms.length + 1) (xs ++ [.int .i64 nd.kind, .string nd.text, v, .int .i64 nd.place])) (hgr : (W2.alloc (.cells cs T)).grownBy w3 vo.ownBlock) (hob : v'.ownBlock = vo.ownBlock ∨ v'.ownBlock = some (W2.alloc (.cells cs T)).heap.size) :
    OutR w3 base v' (ms ++ [nd]) := by
  have hl : xs.length = ms.length * 4 := h1.1
  have ba : Below W2.heap.size W2 (W2.alloc (.cells cs T)) := (Below.refl _ _).alloc (Nat.le_refl _) _
  refine ⟨_, by rw [List.length_append]; exact hown, fun s hs => ?_⟩
  rw [List.length_append, List.length_singleton] at hs
  by_cases hsm : s < ms.length
  · obtain ⟨ka, kc, e1, e2, e3⟩ := h2 s hsm
    refine ⟨ka, kc, ?_, ?_, ?_⟩
    · rw [List.drop_append_of_le_length (by omega), List.take_append_of_le_length (by simp; omega), List.getElem_append_left hsm]
      exact e1
    · rw [List.getElem_append_left hsm]; exact e2
    · rw [List.getElem_append_left hsm]
      exact ((e3.below hb).below ba).grown hgr hob
  · obtain rfl : s = ms.length := by omega
    have hg := hv.lt g (by rw [hvs]; rfl)
    have hvo : ∀ b, vo.ownBlock = some b → b < wo.heap.size := fun b hb => (h1.lt b hb).2
    have hlen : nd.kids.length = ks.length := by rw [hks, List.length_map]
    refine ⟨some ⟨g, 0, none⟩, cap, ?_, ?_, ?_⟩
    · rw [← hl, List.drop_left, List.getElem_append_right (by omega)]
      simp only [Nat.sub_self, List.getElem_singleton]
      unfold ndCells
      rw [hlen, ← hvs]
      rfl
    · rw [List.getElem_append_right (by omega)]
      simp only [Nat.sub_self, List.getElem_singleton]
      rw [hlen]
      rcases hv.2 with ⟨e, _⟩ | ⟨g', cap', cur, e, _, _, hc, _⟩
      · rw [hvs] at e; cases e
      · rw [hvs] at e; cases e; exact hc
    · rw [List.getElem_append_right (by omega)]
      simp only [Nat.sub_self, List.getElem_singleton]
      have hW : (W2.alloc (.cells cs T)).heap.size = W2.heap.size + 1 := by simp
      refine .inr ⟨g, 0, rfl, Nat.lt_of_lt_of_le hg.2 (Nat.le_trans ba.size hgr.size), ?_, fun j hj => ?_⟩
      · rcases hob with e | e
        · rw [e]; intro e2; have := hvo g e2; omega
        · rw [e, hW]; intro e2; have := Option.some.inj e2; omega
      · rw [hlen] at hj
        rw [Nat.zero_add, World.cell?_of_block (w := W2.alloc (.cells cs T)) (a := ⟨g, j, none⟩) (hgr.block g (Nat.lt_of_lt_of_le hg.2 ba.size) (fun e => by have := hvo g e.symm; omega)), ba.cell (p := ⟨g, j, none⟩) hg.2]
        have hcell := (show W2.ownsRow (xb + 1) 3 1 (.slice (some ⟨g, 0, none⟩) ks.length cap) ks.length (IV ks) from hvs ▸ hv).cells rfl j (.int .i64 ((ks[j] : Nat) : Int)) (by simp [IV, hj])
        have hadd : (⟨g, 0, none⟩ : Addr).add j = ⟨g, j, none⟩ := by unfold Addr.add; split <;> simp_all
        rw [hadd] at hcell
        rw [hcell, hks]
        simp [hj]
/-- How many of the first z places of the part are ahead of x. -/
def aheadTo (ps : List Nat) (x z : Nat) : Nat := ((ps.take z).filter fun p => decide (p < x)).length
theorem aheadTo_yes {ps : List Nat} {x z : Nat} (h : z < ps.length) (hx : ps[z] < x) : aheadTo ps x (z + 1) = aheadTo ps x z + 1 := by
  unfold aheadTo
  rw [List.take_succ_eq_append_getElem h, List.filter_append, List.filter_cons_of_pos (by simpa using hx), List.filter_nil, List.length_append]
  rfl
theorem aheadTo_no {ps : List Nat} {x z : Nat} (h : z < ps.length) (hx : ¬ ps[z] < x) : aheadTo ps x (z + 1) = aheadTo ps x z := by
  unfold aheadTo
  rw [List.take_succ_eq_append_getElem h, List.filter_append, List.filter_cons_of_neg (by simpa using hx), List.filter_nil, List.append_nil]
theorem aheadTo_le (ps : List Nat) (x z : Nat) : aheadTo ps x z ≤ z := by
  unfold aheadTo
  have := List.length_filter_le (fun p => decide (p < x)) (ps.take z)
  rw [List.length_take] at this
  omega
theorem aheadTo_all (ns : List Nd) (i x : Nat) : aheadTo (part ns i) x (part ns i).length = rank ns i x := by
  unfold aheadTo rank
  rw [List.take_length]
theorem hasB_part (l : List Nat) (k : Nat) : hasB (k : Int) (l.map fun j => ((j : Nat) : Int)) = decide (k ∈ l) := by
  unfold hasB
  rw [Bool.eq_iff_iff, decide_eq_true_iff, decide_eq_true_iff, List.mem_map]
  constructor
  · rintro ⟨j, hj, e⟩
    have : j = k := by omega
    exact this ▸ hj
  · intro h
    exact ⟨k, h, rfl⟩
end Go.Proofs.YtfcoelnibpinmaaDoor
