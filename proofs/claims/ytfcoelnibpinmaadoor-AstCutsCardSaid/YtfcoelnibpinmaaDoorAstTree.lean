/- A node's part of a tree: the mathematics. -/
import Derived.Test.YtfcoelnibpinmaaDoorAstDeepM
namespace Go.Proofs.YtfcoelnibpinmaaDoor
open Go.RowKit
set_option linter.unusedSectionVars false

/-- The parts of the first nodes. -/
def partsL (ns : List Nd) : Nat → List (List Nat)
  | 0 => []
  | i + 1 => partsL ns i ++ [i :: (kidsAt ns i).flatMap fun k => (partsL ns i).getD k.toNat []]
theorem partsL_length (ns : List Nd) : ∀ i, (partsL ns i).length = i
  | 0 => rfl
  | i + 1 => by simp [partsL, partsL_length ns i]
/-- The places of the node's part, each ahead of its kids'. -/
def part (ns : List Nd) (i : Nat) : List Nat := (partsL ns (i + 1)).getD i []
theorem partsL_get (ns : List Nd) {j : Nat} : ∀ {i : Nat}, j < i → (partsL ns i).getD j [] = part ns j
  | 0, h => absurd h (Nat.not_lt_zero _)
  | i + 1, h => by
    rcases Nat.lt_or_eq_of_le (Nat.le_of_lt_succ h) with h1 | h1
    · rw [partsL, List.getD_eq_getElem?_getD, List.getElem?_append_left (by rw [partsL_length]; exact h1), ← List.getD_eq_getElem?_getD]
      exact partsL_get ns h1
    · rw [h1]
      rfl
theorem flatMap_same {f g : Int → List Nat} : ∀ {ks : List Int}, (∀ k ∈ ks, f k = g k) → ks.flatMap f = ks.flatMap g
  | [], _ => rfl
  | k :: ks, h => by
    rw [List.flatMap_cons, List.flatMap_cons, h k (List.mem_cons_self ..), flatMap_same fun x hx => h x (List.mem_cons_of_mem _ hx)]
theorem part_rec (ns : List Nd) (i : Nat) (h : ∀ k ∈ kidsAt ns i, 0 ≤ k ∧ k < (i : Int)) : part ns i = i :: (kidsAt ns i).flatMap fun k => part ns k.toNat := by
  show (partsL ns (i + 1)).getD i [] = _
  rw [partsL, List.getD_eq_getElem?_getD, List.getElem?_append_right (by rw [partsL_length]; exact Nat.le_refl _), partsL_length, Nat.sub_self]
  show i :: _ = _
  rw [flatMap_same fun k hk => partsL_get ns (show k.toNat < i by have := h k hk; omega)]

section
variable {ns : List Nd} (tp : TreeP ns)
include tp
theorem mem_part {i j : Nat} : j ∈ part ns i ↔ j = i ∨ ∃ k ∈ kidsAt ns i, j ∈ part ns k.toNat := by
  rw [part_rec ns i (kids_in tp i), List.mem_cons, List.mem_flatMap]
theorem self_part (i : Nat) : i ∈ part ns i := (mem_part tp).2 (.inl rfl)
theorem part_le : ∀ {i j : Nat}, j ∈ part ns i → j ≤ i := by
  intro i
  induction i using Nat.strongRecOn with
  | _ i ih =>
    intro j hj
    rcases (mem_part tp).1 hj with rfl | ⟨k, hk, h⟩
    · exact Nat.le_refl _
    · have h1 := kids_in tp i k hk
      have := ih k.toNat (by omega) h
      omega
theorem part_trans : ∀ {r q j : Nat}, q ∈ part ns r → j ∈ part ns q → j ∈ part ns r := by
  intro r
  induction r using Nat.strongRecOn with
  | _ r ih =>
    intro q j hq hj
    rcases (mem_part tp).1 hq with rfl | ⟨k, hk, h⟩
    · exact hj
    · have h1 := kids_in tp r k hk
      exact (mem_part tp).2 (.inr ⟨k, hk, ih k.toNat (by omega) h hj⟩)
theorem kid_in {r q : Nat} {k : Int} (hq : q ∈ part ns r) (hk : k ∈ kidsAt ns q) : k.toNat ∈ part ns r :=
  part_trans tp hq ((mem_part tp).2 (.inr ⟨k, hk, self_part tp _⟩))
theorem kid_lt_len {q : Nat} {k : Int} (hk : k ∈ kidsAt ns q) : q < ns.length := by
  rcases Nat.lt_or_ge q ns.length with h | h
  · exact h
  · unfold kidsAt at hk
    rw [List.getElem?_eq_none h] at hk
    cases hk
theorem mem_kidsTo {q i : Nat} {k : Int} (hk : k ∈ kidsAt ns q) (h : q < i) : k ∈ kidsTo ns i := by
  have hq := kid_lt_len tp hk
  unfold kidsTo
  rw [List.mem_flatMap]
  rw [kidsAt_get hq] at hk
  refine ⟨ns[q], ?_, hk⟩
  rw [List.mem_iff_getElem]
  exact ⟨q, by simp; omega, by simp⟩
theorem uniq_lt {a b : Nat} {x : Int} (ha : x ∈ kidsAt ns a) (hb : x ∈ kidsAt ns b) (h : a < b) : False := by
  have hlb := kid_lt_len tp hb
  have h1 := mem_kidsTo tp ha h
  rw [kidsAt_get hlb] at hb
  obtain ⟨p, hp, rfl⟩ := List.getElem_of_mem hb
  exact twice_no hlb hp (List.mem_append.2 (.inl h1)) tp.2.2.2.1
theorem uniq_parent {a b : Nat} {x : Int} (ha : x ∈ kidsAt ns a) (hb : x ∈ kidsAt ns b) : a = b := by
  rcases Nat.lt_trichotomy a b with h | h | h
  · exact (uniq_lt tp ha hb h).elim
  · exact h
  · exact (uniq_lt tp hb ha h).elim
theorem kids_nodup (i : Nat) : (kidsAt ns i).Nodup := by
  by_cases hi : i < ns.length
  · obtain ⟨r, hr⟩ := kidsTo_all ns (i + 1)
    have hn := tp.2.2.2.1
    rw [hr, kidsTo_succ hi] at hn
    rw [kidsAt_get hi]
    exact (List.nodup_append.1 (List.nodup_append.1 hn).1).2.1
  · unfold kidsAt
    rw [List.getElem?_eq_none (by omega)]
    exact List.nodup_nil
theorem has_parent {j : Nat} (h : j + 1 < ns.length) : ∃ q, ((j : Nat) : Int) ∈ kidsAt ns q := by
  have h1 := tp.2.2.2.2 j h
  unfold kidsTo at h1
  rw [List.mem_flatMap] at h1
  obtain ⟨n, hn, hk⟩ := h1
  rw [List.take_length] at hn
  obtain ⟨q, hq, rfl⟩ := List.getElem_of_mem hn
  exact ⟨q, by rw [kidsAt_get hq]; exact hk⟩
theorem parent_in {q j : Nat} (hk : ((j : Nat) : Int) ∈ kidsAt ns q) : ∀ {a : Nat}, j ∈ part ns a → j ≠ a → q ∈ part ns a := by
  intro a
  induction a using Nat.strongRecOn with
  | _ a ih =>
    intro hj hne
    rcases (mem_part tp).1 hj with h | ⟨k, hka, h⟩
    · exact absurd h hne
    · have h1 := kids_in tp a k hka
      by_cases e : j = k.toNat
      · have e2 : ((j : Nat) : Int) = k := by omega
        rw [e2] at hk
        rw [uniq_parent tp hk hka]
        exact self_part tp a
      · exact (mem_part tp).2 (.inr ⟨k, hka, ih k.toNat (by omega) h e⟩)
theorem part_chain : ∀ (d : Nat) {a b j : Nat}, ns.length - j ≤ d → a < ns.length → b < ns.length → j ∈ part ns a → j ∈ part ns b → a ∈ part ns b ∨ b ∈ part ns a := by
  intro d
  induction d with
  | zero =>
    intro a b j hd ha _ hja _
    have := part_le tp hja
    omega
  | succ d ih =>
    intro a b j hd ha hb hja hjb
    by_cases ea : j = a
    · exact .inl (ea ▸ hjb)
    by_cases eb : j = b
    · exact .inr (eb ▸ hja)
    have h1 := part_le tp hja
    obtain ⟨q, hq⟩ := has_parent tp (j := j) (by omega)
    have h2 := kids_in tp q _ hq
    exact ih (by omega) ha hb (parent_in tp hq hja ea) (parent_in tp hq hjb eb)
theorem nodup_flat {f : Int → List Nat} : ∀ (ks : List Int), ks.Nodup → (∀ k ∈ ks, (f k).Nodup) → (∀ a ∈ ks, ∀ b ∈ ks, a ≠ b → ∀ j, j ∈ f a → j ∈ f b → False) → (ks.flatMap f).Nodup
  | [], _, _, _ => by simp
  | k :: ks, h1, h2, h3 => by
    rw [List.flatMap_cons, List.nodup_append]
    rw [List.nodup_cons] at h1
    refine ⟨h2 k (List.mem_cons_self ..), nodup_flat ks h1.2 (fun x hx => h2 x (List.mem_cons_of_mem _ hx)) (fun a ha b hb => h3 a (List.mem_cons_of_mem _ ha) b (List.mem_cons_of_mem _ hb)), ?_⟩
    intro j hj j' hj' e
    subst e
    obtain ⟨b, hb, hjb⟩ := List.mem_flatMap.1 hj'
    exact h3 k (List.mem_cons_self ..) b (List.mem_cons_of_mem _ hb) (fun e => h1.1 (e ▸ hb)) j hj hjb
theorem part_nodup : ∀ {i : Nat}, i < ns.length → (part ns i).Nodup := by
  intro i
  induction i using Nat.strongRecOn with
  | _ i ih =>
    intro hi
    have hin := kids_in tp i
    rw [part_rec ns i hin, List.nodup_cons]
    refine ⟨fun h => ?_, nodup_flat tp _ (kids_nodup tp i) (fun k hk => ?_) (fun a ha b hb hab j hja hjb => ?_)⟩
    · obtain ⟨k, hk, hj⟩ := List.mem_flatMap.1 h
      have h1 := hin k hk
      have := part_le tp hj
      omega
    · have h1 := hin k hk
      exact ih k.toNat (by omega) (by omega)
    · have a1 := hin a ha
      have b1 := hin b hb
      rcases part_chain tp ns.length (by omega) (show a.toNat < ns.length by omega) (show b.toNat < ns.length by omega) hja hjb with h | h
      · have h2 := parent_in tp (q := i) (show ((a.toNat : Nat) : Int) ∈ kidsAt ns i by rw [Int.toNat_of_nonneg a1.1]; exact ha) h (by omega)
        have := part_le tp h2
        omega
      · have h2 := parent_in tp (q := i) (show ((b.toNat : Nat) : Int) ∈ kidsAt ns i by rw [Int.toNat_of_nonneg b1.1]; exact hb) h (by omega)
        have := part_le tp h2
        omega
theorem all_in_root : ∀ (d : Nat) {j : Nat}, ns.length - j ≤ d → j < ns.length → j ∈ part ns (ns.length - 1) := by
  intro d
  induction d with
  | zero => intro j hd hj; omega
  | succ d ih =>
    intro j hd hj
    by_cases e : j = ns.length - 1
    · rw [e]; exact self_part tp _
    · obtain ⟨q, hq⟩ := has_parent tp (j := j) (by omega)
      have h2 := kids_in tp q _ hq
      have h3 := kid_lt_len tp hq
      have := kid_in tp (ih (by omega) h3) hq
      simpa using this
end

/-- The places of the node's part, in their order. -/
def srt (ns : List Nd) (i : Nat) : List Nat := (List.range (i + 1)).filter fun j => decide (j ∈ part ns i)
theorem mem_srt {ns : List Nd} {i j : Nat} : j ∈ srt ns i ↔ j ≤ i ∧ j ∈ part ns i := by
  unfold srt
  simp [Nat.lt_succ_iff]
theorem srt_up (ns : List Nd) (i : Nat) : (srt ns i).Pairwise (· < ·) := List.Pairwise.filter _ List.pairwise_lt_range
theorem srt_nodup (ns : List Nd) (i : Nat) : (srt ns i).Nodup := (srt_up ns i).imp fun h => Nat.ne_of_lt h
theorem srt_perm {ns : List Nd} (tp : TreeP ns) {i : Nat} (hi : i < ns.length) : (srt ns i).Perm (part ns i) :=
  (List.perm_ext_iff_of_nodup (srt_nodup ns i) (part_nodup tp hi)).2 fun j => by
    rw [mem_srt]
    exact ⟨fun h => h.2, fun h => ⟨part_le tp h, h⟩⟩
theorem srt_sort {ns : List Nd} (tp : TreeP ns) {i : Nat} (hi : i < ns.length) : ((part ns i).map fun (j : Nat) => (j : Int)).mergeSort (fun x y => decide (x ≤ y)) = (srt ns i).map fun (j : Nat) => (j : Int) := by
  refine List.Perm.eq_of_pairwise (le := fun x y => x ≤ y) (fun a b _ _ h1 h2 => Int.le_antisymm h1 h2) ?_ ?_ ?_
  · have := List.pairwise_mergeSort (le := fun (x y : Int) => decide (x ≤ y)) (fun a b c h1 h2 => by simp at *; omega) (fun a b => by simp; omega) ((part ns i).map fun (j : Nat) => (j : Int))
    exact this.imp fun h => by simpa using h
  · rw [List.pairwise_map]
    exact (srt_up ns i).imp fun h => by omega
  · exact (List.mergeSort_perm _ _).trans ((srt_perm tp hi).symm.map _)
/-- How many places of the part are ahead of x. -/
def rank (ns : List Nd) (i x : Nat) : Nat := ((part ns i).filter fun p => decide (p < x)).length
theorem rank_srt {ns : List Nd} (tp : TreeP ns) {i : Nat} (hi : i < ns.length) (x : Nat) : rank ns i x = ((srt ns i).filter fun p => decide (p < x)).length := ((srt_perm tp hi).filter _).length_eq.symm
theorem filter_up : ∀ {l : List Nat} {t : Nat} (_ : l.Pairwise (· < ·)) (h : t < l.length), (l.filter fun p => decide (p < l[t])).length = t
  | [], t, _, h => absurd h (Nat.not_lt_zero _)
  | a :: l, 0, hp, _ => by
    have h1 := (List.pairwise_cons.1 hp).1
    rw [List.length_eq_zero_iff, List.filter_eq_nil_iff]
    intro x hx
    simp only [List.getElem_cons_zero, decide_eq_true_eq]
    rcases List.mem_cons.1 hx with rfl | hx
    · omega
    · have := h1 x hx; omega
  | a :: l, t + 1, hp, h => by
    have h1 := List.pairwise_cons.1 hp
    have ht : t < l.length := by simpa using h
    have h2 := h1.1 l[t] (List.getElem_mem ht)
    rw [List.getElem_cons_succ, List.filter_cons_of_pos (by simpa using h2), List.length_cons, filter_up h1.2 ht]
theorem rank_at {ns : List Nd} (tp : TreeP ns) {i : Nat} (hi : i < ns.length) {t : Nat} (h : t < (srt ns i).length) : rank ns i (srt ns i)[t] = t := by
  rw [rank_srt tp hi]
  exact filter_up (srt_up ns i) h
theorem srt_length {ns : List Nd} (tp : TreeP ns) {i : Nat} (hi : i < ns.length) : (srt ns i).length = (part ns i).length := (srt_perm tp hi).length_eq
/-- A node's part, as a tree. -/
def cutNs (ns : List Nd) (i : Nat) : List Nd := (srt ns i).map fun k => ⟨(ns.getD k ⟨0, ⟨#[]⟩, [], 0⟩).kind, (ns.getD k ⟨0, ⟨#[]⟩, [], 0⟩).text, (kidsAt ns k).map fun x => ((rank ns i x.toNat : Nat) : Int), (ns.getD k ⟨0, ⟨#[]⟩, [], 0⟩).place⟩
end Go.Proofs.YtfcoelnibpinmaaDoor
