/- How deep each node is: the mathematics. -/
import Derived.Test.YtfcoelnibpinmaaDoorAstRight
namespace Go.Proofs.YtfcoelnibpinmaaDoor
open Go.RowKit

def kidsAt (ns : List Nd) (i : Nat) : List Int := match ns[i]? with
  | some n => n.kids
  | none => []
theorem kidsAt_get {ns : List Nd} {i : Nat} (h : i < ns.length) : kidsAt ns i = ns[i].kids := by
  unfold kidsAt
  rw [List.getElem?_eq_getElem h]
def maxl (f : Nat → Nat) (ks : List Int) : Nat := ks.foldl (fun m k => max m (f k.toNat)) 0
theorem maxl_nil (f : Nat → Nat) : maxl f [] = 0 := rfl
theorem maxl_snoc (f : Nat → Nat) (ks : List Int) (k : Int) : maxl f (ks ++ [k]) = max (maxl f ks) (f k.toNat) := by
  unfold maxl
  rw [List.foldl_append]
  rfl
theorem foldl_congr (f g : Nat → Nat) : ∀ (ks : List Int) (m : Nat), (∀ k ∈ ks, f k.toNat = g k.toNat) → ks.foldl (fun m k => max m (f k.toNat)) m = ks.foldl (fun m k => max m (g k.toNat)) m
  | [], _, _ => rfl
  | k :: ks, m, h => by
    rw [List.foldl_cons, List.foldl_cons, h k (List.mem_cons_self ..)]
    exact foldl_congr f g ks _ fun x hx => h x (List.mem_cons_of_mem _ hx)
theorem maxl_congr {f g : Nat → Nat} {ks : List Int} (h : ∀ k ∈ ks, f k.toNat = g k.toNat) : maxl f ks = maxl g ks := foldl_congr f g ks 0 h
theorem foldl_max_le (f : Nat → Nat) (n : Nat) : ∀ (ks : List Int) (m : Nat), m ≤ n → (∀ k ∈ ks, f k.toNat ≤ n) → ks.foldl (fun m k => max m (f k.toNat)) m ≤ n
  | [], _, h, _ => h
  | k :: ks, m, h, h2 => foldl_max_le f n ks _ (by have := h2 k (List.mem_cons_self ..); show max m (f k.toNat) ≤ n; omega) fun x hx => h2 x (List.mem_cons_of_mem _ hx)
theorem maxl_le {f : Nat → Nat} {n : Nat} {ks : List Int} (h : ∀ k ∈ ks, f k.toNat ≤ n) : maxl f ks ≤ n := foldl_max_le f n ks 0 (Nat.zero_le _) h
theorem foldl_max_ge (f : Nat → Nat) : ∀ (ks : List Int) (m : Nat), m ≤ ks.foldl (fun m k => max m (f k.toNat)) m
  | [], _ => Nat.le_refl _
  | k :: ks, m => Nat.le_trans (Nat.le_max_left ..) (foldl_max_ge f ks (max m (f k.toNat)))
theorem foldl_max_mem (f : Nat → Nat) : ∀ (ks : List Int) (m : Nat) (k : Int), k ∈ ks → f k.toNat ≤ ks.foldl (fun m k => max m (f k.toNat)) m
  | [], _, _, h => by cases h
  | x :: ks, m, k, h => by
    rw [List.foldl_cons]
    rcases List.mem_cons.1 h with rfl | h
    · exact Nat.le_trans (Nat.le_max_right ..) (foldl_max_ge f ks _)
    · exact foldl_max_mem f ks _ k h
theorem maxl_mem {f : Nat → Nat} {ks : List Int} {k : Int} (h : k ∈ ks) : f k.toNat ≤ maxl f ks := foldl_max_mem f ks 0 k h
/-- How deep the first nodes are. -/
def deps (ns : List Nd) : Nat → List Nat
  | 0 => []
  | i + 1 => deps ns i ++ [1 + maxl (fun k => (deps ns i).getD k 0) (kidsAt ns i)]
theorem deps_length (ns : List Nd) : ∀ i, (deps ns i).length = i
  | 0 => rfl
  | i + 1 => by simp [deps, deps_length ns i]
def dep (ns : List Nd) (i : Nat) : Nat := (deps ns (i + 1)).getD i 0
theorem deps_get (ns : List Nd) {j : Nat} : ∀ {i : Nat}, j < i → (deps ns i).getD j 0 = dep ns j
  | 0, h => absurd h (Nat.not_lt_zero _)
  | i + 1, h => by
    rcases Nat.lt_or_eq_of_le (Nat.le_of_lt_succ h) with h1 | h1
    · rw [deps, List.getD_eq_getElem?_getD, List.getElem?_append_left (by rw [deps_length]; exact h1), ← List.getD_eq_getElem?_getD]
      exact deps_get ns h1
    · rw [h1]
      rfl
theorem dep_rec (ns : List Nd) (i : Nat) (h : ∀ k ∈ kidsAt ns i, 0 ≤ k ∧ k < (i : Int)) : dep ns i = 1 + maxl (dep ns) (kidsAt ns i) := by
  show (deps ns (i + 1)).getD i 0 = _
  rw [deps, List.getD_eq_getElem?_getD, List.getElem?_append_right (by rw [deps_length]; exact Nat.le_refl _), deps_length, Nat.sub_self]
  show 1 + maxl _ _ = _
  rw [maxl_congr fun k hk => deps_get ns (show k.toNat < i by have := h k hk; omega)]
theorem dep_le (ns : List Nd) (h : ∀ i, ∀ k ∈ kidsAt ns i, 0 ≤ k ∧ k < (i : Int)) : ∀ i, dep ns i ≤ i + 1 := by
  intro i
  induction i using Nat.strongRecOn with
  | _ i ih =>
    rw [dep_rec ns i (h i)]
    have : maxl (dep ns) (kidsAt ns i) ≤ i := maxl_le fun k hk => by
      have h1 := h i k hk
      have := ih k.toNat (by omega)
      omega
    omega
theorem kids_in {ns : List Nd} (h : TreeP ns) : ∀ i, ∀ k ∈ kidsAt ns i, 0 ≤ k ∧ k < (i : Int) := by
  intro i k hk
  by_cases hi : i < ns.length
  · rw [kidsAt_get hi] at hk
    exact (h.2.2.1 i hi).2 k hk
  · unfold kidsAt at hk
    rw [List.getElem?_eq_none (by omega)] at hk
    cases hk
/-- The row of depths, as it stands at node k, which has come to c. -/
def depCells (ns : List Nd) (L k c : Nat) : Array Value := ((List.range L).map fun j => Value.int .i64 (((if j < k then dep ns j else if j = k then c else 0) : Nat) : Int)).toArray
theorem depCells_get {ns : List Nd} {L k c j : Nat} (h : j < L) : (depCells ns L k c)[j]? = some (.int .i64 (((if j < k then dep ns j else if j = k then c else 0) : Nat) : Int)) := by
  unfold depCells
  simp [h]
theorem depCells_set {ns : List Nd} {L k c d : Nat} : (depCells ns L k c).setIfInBounds k (.int .i64 ((d : Nat) : Int)) = depCells ns L k d := by
  apply Array.ext_getElem?
  intro j
  by_cases hj : j < L
  · rw [depCells_get hj]
    by_cases hk : k = j
    · subst hk
      rw [Array.getElem?_setIfInBounds_self_of_lt (by simp [depCells, hj])]
      simp
    · rw [Array.getElem?_setIfInBounds_ne hk, depCells_get hj]
      have : ¬ j = k := fun e => hk e.symm
      simp [this]
  · rw [Array.getElem?_eq_none (by simp [depCells]; omega), Array.getElem?_eq_none (by simp [depCells]; omega)]
theorem depCells_next {ns : List Nd} {L k : Nat} : depCells ns L k (dep ns k) = depCells ns L (k + 1) 0 := by
  apply Array.ext_getElem?
  intro j
  by_cases hj : j < L
  · rw [depCells_get hj, depCells_get hj]
    congr 3
    split
    · rw [if_pos (by omega)]
    · split
      · rename_i h1 h2
        rw [if_pos (by omega), h2]
      · rw [if_neg (by omega)]
        split <;> rfl
  · rw [Array.getElem?_eq_none (by simp [depCells]; omega), Array.getElem?_eq_none (by simp [depCells]; omega)]
theorem depCells_made (ns : List Nd) (n : Nat) : madeCells #[.int .i64 0] n = depCells ns n 0 0 := by
  apply Array.toList_inj.1
  rw [toList_madeCells_one]
  unfold depCells
  apply List.ext_getElem?
  intro j
  by_cases hj : j < n
  · simp [hj]
  · simp [hj]
end Go.Proofs.YtfcoelnibpinmaaDoor
