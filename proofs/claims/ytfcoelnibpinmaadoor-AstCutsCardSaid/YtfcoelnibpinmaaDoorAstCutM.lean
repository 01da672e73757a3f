/- A part of a tree is a tree: the mathematics. -/
import Derived.Test.YtfcoelnibpinmaaDoorAstCut
namespace Go.Proofs.YtfcoelnibpinmaaDoor
open Go.RowKit
set_option linter.unusedSectionVars false

theorem nodup_flatG {α β : Type} {f : α → List β} : ∀ (ks : List α), ks.Nodup → (∀ k ∈ ks, (f k).Nodup) → (∀ a ∈ ks, ∀ b ∈ ks, a ≠ b → ∀ j, j ∈ f a → j ∈ f b → False) → (ks.flatMap f).Nodup
  | [], _, _, _ => by simp
  | k :: ks, h1, h2, h3 => by
    rw [List.flatMap_cons, List.nodup_append]
    rw [List.nodup_cons] at h1
    refine ⟨h2 k (List.mem_cons_self ..), nodup_flatG ks h1.2 (fun x hx => h2 x (List.mem_cons_of_mem _ hx)) (fun a ha b hb => h3 a (List.mem_cons_of_mem _ ha) b (List.mem_cons_of_mem _ hb)), ?_⟩
    intro j hj j' hj' e
    subst e
    obtain ⟨b, hb, hjb⟩ := List.mem_flatMap.1 hj'
    exact h3 k (List.mem_cons_self ..) b (List.mem_cons_of_mem _ hb) (fun e => h1.1 (e ▸ hb)) j hj hjb
theorem nodup_mapG {α β : Type} {f : α → β} : ∀ (ks : List α), ks.Nodup → (∀ a ∈ ks, ∀ b ∈ ks, f a = f b → a = b) → (ks.map f).Nodup
  | [], _, _ => List.nodup_nil
  | k :: ks, h1, h2 => by
    rw [List.nodup_cons] at h1
    rw [List.map_cons, List.nodup_cons]
    refine ⟨fun hm => ?_, nodup_mapG ks h1.2 fun a ha b hb => h2 a (List.mem_cons_of_mem _ ha) b (List.mem_cons_of_mem _ hb)⟩
    obtain ⟨x, hx, e⟩ := List.mem_map.1 hm
    exact h1.1 (h2 x (List.mem_cons_of_mem _ hx) k (List.mem_cons_self ..) e ▸ hx)
theorem foldl_same {f g : Int → Nat} : ∀ {ks : List Int} {m : Nat}, (∀ k ∈ ks, f k = g k) → ks.foldl (fun m k => max m (f k)) m = ks.foldl (fun m k => max m (g k)) m
  | [], _, _ => rfl
  | k :: ks, m, h => by
    rw [List.foldl_cons, List.foldl_cons, h k (List.mem_cons_self ..)]
    exact foldl_same fun x hx => h x (List.mem_cons_of_mem _ hx)
def rankI (ns : List Nd) (i : Nat) (x : Int) : Int := ((rank ns i x.toNat : Nat) : Int)
theorem cut_length (ns : List Nd) (i : Nat) : (cutNs ns i).length = (srt ns i).length := by unfold cutNs; rw [List.length_map]
theorem srt_short (ns : List Nd) (i : Nat) : (srt ns i).length ≤ i + 1 := by
  have h1 := List.length_filter_le (fun j => decide (j ∈ part ns i)) (List.range (i + 1))
  rw [List.length_range] at h1
  exact h1

section
variable {ns : List Nd} (tp : TreeP ns) {i : Nat} (hi : i < ns.length)
include tp hi
theorem srt_mem_lt {t : Nat} (h : t < (srt ns i).length) : (srt ns i)[t] < ns.length := by
  have := (mem_srt.1 (List.getElem_mem h)).1
  omega
theorem cut_at {t : Nat} (h : t < (srt ns i).length) : (cutNs ns i)[t]? = some ⟨(ns[(srt ns i)[t]]'(srt_mem_lt tp hi h)).kind, (ns[(srt ns i)[t]]'(srt_mem_lt tp hi h)).text, (kidsAt ns (srt ns i)[t]).map (rankI ns i), (ns[(srt ns i)[t]]'(srt_mem_lt tp hi h)).place⟩ := by
  have h2 := cut_node ns i t h rfl (srt_mem_lt tp hi h) rfl
  rw [h2, kidsAt_get (srt_mem_lt tp hi h)]
  rfl
theorem cut_kids {t : Nat} (h : t < (srt ns i).length) : kidsAt (cutNs ns i) t = (kidsAt ns (srt ns i)[t]).map (rankI ns i) := by
  unfold kidsAt
  rw [cut_at tp hi h]
  rfl
/-- Where a member of the part is. -/
theorem srt_idx {x : Nat} (h : x ∈ part ns i) : ∃ s, ∃ hs : s < (srt ns i).length, (srt ns i)[s] = x ∧ rank ns i x = s := by
  obtain ⟨s, hs, e⟩ := List.getElem_of_mem (mem_srt.2 ⟨part_le tp h, h⟩)
  exact ⟨s, hs, e, by rw [← e]; exact rank_at tp hi hs⟩
theorem rank_inj {x y : Nat} (hx : x ∈ part ns i) (hy : y ∈ part ns i) (h : rank ns i x = rank ns i y) : x = y := by
  obtain ⟨s, hs, e1, e2⟩ := srt_idx tp hi hx
  obtain ⟨s', hs', e3, e4⟩ := srt_idx tp hi hy
  have : s = s' := by omega
  subst this
  rw [← e1, ← e3]
theorem kid_part {t : Nat} (h : t < (srt ns i).length) {x : Int} (hx : x ∈ kidsAt ns (srt ns i)[t]) : x.toNat ∈ part ns i ∧ 0 ≤ x ∧ rank ns i x.toNat < t := by
  have h1 := kids_in tp _ x hx
  have hk := kid_in tp (mem_srt.1 (List.getElem_mem h)).2 hx
  obtain ⟨s, hs, e1, e2⟩ := srt_idx tp hi hk
  refine ⟨hk, h1.1, ?_⟩
  rw [e2]
  exact srt_lt hs h (by rw [e1]; omega)
theorem srt_last {t : Nat} (h : t + 1 < (srt ns i).length) : (srt ns i)[t] ≠ i := by
  have h1 := List.pairwise_iff_getElem.1 (srt_up ns i) t (t + 1) (by omega) h (by omega)
  have h2 := (mem_srt.1 (List.getElem_mem h)).1
  omega
theorem kidsTo_cut : kidsTo (cutNs ns i) (cutNs ns i).length = (srt ns i).flatMap fun k => (kidsAt ns k).map (rankI ns i) := by
  unfold kidsTo
  rw [List.take_length]
  unfold cutNs
  rw [List.flatMap_map]
  rfl
theorem cut_tree : TreeP (cutNs ns i) := by
  have hsp : 0 < (srt ns i).length := by rw [srt_length tp hi]; exact part_pos tp i
  have hs2 := srt_short ns i
  have h2000 := tp.2.1
  refine ⟨by rw [cut_length]; exact hsp, by rw [cut_length]; omega, fun t ht => ?_, ?_, fun j hj => ?_⟩
  · rw [cut_length] at ht
    obtain ⟨_, e⟩ := List.getElem?_eq_some_iff.1 (cut_at tp hi ht)
    rw [e]
    have hok := tp.2.2.1 _ (srt_mem_lt tp hi ht)
    refine ⟨?_, fun k hk => ?_⟩
    · have h1 := hok.1
      unfold aloneB at h1 ⊢
      simp only [List.length_map]
      rw [kidsAt_get (srt_mem_lt tp hi ht)]
      exact h1
    · obtain ⟨x, hx, rfl⟩ := List.mem_map.1 hk
      have := kid_part tp hi ht hx
      unfold rankI
      omega
  · rw [kidsTo_cut tp hi]
    refine nodup_flatG _ (srt_nodup ns i) (fun k hk => ?_) (fun a ha b hb hab j hja hjb => ?_)
    · refine nodup_mapG _ (kids_nodup tp k) fun a ha b hb e => ?_
      obtain ⟨t, ht, rfl⟩ := List.getElem_of_mem hk
      have h1 := kid_part tp hi ht ha
      have h2 := kid_part tp hi ht hb
      have h3 := rank_inj tp hi h1.1 h2.1 (by unfold rankI at e; omega)
      omega
    · obtain ⟨x, hx, e1⟩ := List.mem_map.1 hja
      obtain ⟨y, hy, e2⟩ := List.mem_map.1 hjb
      obtain ⟨t, ht, rfl⟩ := List.getElem_of_mem ha
      obtain ⟨s, hs, rfl⟩ := List.getElem_of_mem hb
      have h1 := kid_part tp hi ht hx
      have h2 := kid_part tp hi hs hy
      have h3 := rank_inj tp hi h1.1 h2.1 (by unfold rankI at e1 e2; omega)
      have h4 : x = y := by omega
      subst h4
      exact hab (uniq_parent tp hx hy)
  · rw [cut_length] at hj
    rw [kidsTo_cut tp hi]
    have hj0 : j < (srt ns i).length := by omega
    have hne := srt_last tp hi hj
    have hm := mem_srt.1 (List.getElem_mem hj0)
    obtain ⟨q, hq⟩ := has_parent tp (j := (srt ns i)[j]) (by omega)
    have hqp := parent_in tp hq hm.2 hne
    refine List.mem_flatMap.2 ⟨q, mem_srt.2 ⟨part_le tp hqp, hqp⟩, List.mem_map.2 ⟨_, hq, ?_⟩⟩
    unfold rankI
    rw [Int.toNat_natCast, rank_at tp hi hj0]
theorem dep_cut : ∀ {t : Nat} (h : t < (srt ns i).length), dep (cutNs ns i) t = dep ns (srt ns i)[t] := by
  intro t
  induction t using Nat.strongRecOn with
  | _ t ih =>
    intro h
    rw [dep_rec (cutNs ns i) t (kids_in (cut_tree tp hi) t), dep_rec ns _ (kids_in tp _), cut_kids tp hi h]
    congr 1
    unfold maxl
    rw [List.foldl_map]
    refine foldl_same fun x hx => ?_
    obtain ⟨h1, h2, h3⟩ := kid_part tp hi h hx
    obtain ⟨s, hs, e1, e2⟩ := srt_idx tp hi h1
    unfold rankI
    rw [Int.toNat_natCast, e2, ih s (by omega) hs, e1]
end
end Go.Proofs.YtfcoelnibpinmaaDoor
