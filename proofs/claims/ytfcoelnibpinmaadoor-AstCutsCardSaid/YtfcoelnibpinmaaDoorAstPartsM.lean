/- The parts of the root's kids, and the root: the mathematics. -/
import Derived.Test.YtfcoelnibpinmaaDoorAstCutM
namespace Go.Proofs.YtfcoelnibpinmaaDoor
open Go.RowKit
set_option linter.unusedSectionVars false

section
variable {ns : List Nd} (tp : TreeP ns)
include tp
theorem srt_root : srt ns (ns.length - 1) = List.range ns.length := by
  have h0 := tp.1
  unfold srt
  rw [show ns.length - 1 + 1 = ns.length by omega, List.filter_eq_self]
  intro j hj
  rw [decide_eq_true_eq]
  exact all_in_root tp ns.length (by omega) (List.mem_range.1 hj)
theorem rank_root {x : Nat} (h : x < ns.length) : rank ns (ns.length - 1) x = x := by
  have h0 := tp.1
  have hs : (srt ns (ns.length - 1)).length = ns.length := by rw [srt_root tp, List.length_range]
  have h1 := rank_at tp (i := ns.length - 1) (by omega) (t := x) (by omega)
  have h2 : (srt ns (ns.length - 1))[x]'(by omega) = x := by simp [srt_root tp]
  rw [h2] at h1
  exact h1
theorem cut_root : cutNs ns (ns.length - 1) = ns := by
  have h0 := tp.1
  have hi : ns.length - 1 < ns.length := by omega
  have hs : (srt ns (ns.length - 1)).length = ns.length := by rw [srt_root tp, List.length_range]
  apply List.ext_getElem?
  intro t
  by_cases ht : t < ns.length
  · have h2 : (srt ns (ns.length - 1))[t]'(by omega) = t := by simp [srt_root tp]
    have h3 := cut_node ns (ns.length - 1) t (by omega) h2 ht rfl
    rw [h3, List.getElem?_eq_getElem ht]
    congr 1
    obtain ⟨nd, hnd⟩ : ∃ nd, ns[t] = nd := ⟨_, rfl⟩
    have hk : nd.kids.map (fun x => ((rank ns (ns.length - 1) x.toNat : Nat) : Int)) = nd.kids := by
      have : ∀ x ∈ nd.kids, ((rank ns (ns.length - 1) x.toNat : Nat) : Int) = x := fun x hx => by
        have h4 := kids_in tp t x (by rw [kidsAt_get ht, hnd]; exact hx)
        rw [rank_root tp (by omega)]
        omega
      rw [List.map_congr_left this]
      exact List.map_id' _
    rw [hnd, hk]
  · rw [List.getElem?_eq_none (show (cutNs ns (ns.length - 1)).length ≤ t by rw [cut_length]; omega), List.getElem?_eq_none (by omega)]
theorem root_kid {k : Int} (h : k ∈ kidsAt ns (ns.length - 1)) : 0 ≤ k ∧ k.toNat < ns.length ∧ k = ((k.toNat : Nat) : Int) := by
  have := kids_in tp _ k h
  have := tp.1
  omega
theorem kid_less {k : Int} (h : k ∈ kidsAt ns (ns.length - 1)) : dep ns k.toNat < dep ns (ns.length - 1) := by
  rw [dep_rec ns (ns.length - 1) (kids_in tp _)]
  have := maxl_mem (f := dep ns) h
  omega
theorem srt_top {i : Nat} (hi : i < ns.length) : ∃ h : (srt ns i).length - 1 < (srt ns i).length, (srt ns i)[(srt ns i).length - 1] = i := by
  obtain ⟨s, hs, e, _⟩ := srt_idx tp hi (self_part tp i)
  have hl : (srt ns i).length - 1 < (srt ns i).length := by omega
  refine ⟨hl, ?_⟩
  by_cases h : s + 1 < (srt ns i).length
  · exact absurd e (srt_last tp hi h)
  · have : s = (srt ns i).length - 1 := by omega
    subst this
    exact e
theorem cut_top {i : Nat} (hi : i < ns.length) : ∃ nd, (cutNs ns i)[(cutNs ns i).length - 1]? = some nd ∧ nd.kind = ns[i].kind := by
  obtain ⟨hl, e⟩ := srt_top tp hi
  rw [cut_length]
  have h2 := cut_node ns i _ hl e hi rfl
  exact ⟨_, h2, rfl⟩
theorem dep_top {i : Nat} (hi : i < ns.length) : dep (cutNs ns i) ((cutNs ns i).length - 1) = dep ns i := by
  obtain ⟨hl, e⟩ := srt_top tp hi
  rw [cut_length, dep_cut tp hi hl, e]
theorem cut_pos {i : Nat} (hi : i < ns.length) : 0 < (cutNs ns i).length ∧ (cutNs ns i).length ≤ 2000 := ⟨(cut_tree tp hi).1, (cut_tree tp hi).2.1⟩
/-- How many nodes the first kids' parts have. -/
def sumTo (ns : List Nd) (ks : List Int) : Nat := (ks.flatMap fun k => part ns k.toNat).length
omit tp in
theorem sumTo_snoc (ks : List Int) (k : Int) : sumTo ns (ks ++ [k]) = sumTo ns ks + (part ns k.toNat).length := by
  unfold sumTo
  rw [List.flatMap_append, List.length_append, List.flatMap_cons, List.flatMap_nil, List.append_nil]
theorem sum_all : sumTo ns (kidsAt ns (ns.length - 1)) + 1 = ns.length := by
  have h0 := tp.1
  have h1 := srt_length tp (i := ns.length - 1) (by omega)
  rw [srt_root tp, List.length_range, part_rec ns _ (kids_in tp _), List.length_cons] at h1
  unfold sumTo
  omega
theorem cut_len {i : Nat} (hi : i < ns.length) : (cutNs ns i).length = (part ns i).length := by rw [cut_length, srt_length tp hi]
end
end Go.Proofs.YtfcoelnibpinmaaDoor
