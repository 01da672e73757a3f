/- A row of bools that tells which places are taken; which nodes may be a tree. -/
import Derived.Test.YtfcoelnibpinmaaDoorAstAlone
import Derived.Test.YtfcoelnibpinmaaDoorBlock
namespace Go.Proofs.YtfcoelnibpinmaaDoor
open Go.RowKit

def marks (L : Nat) (d : List Int) : Array Value := ((List.range L).map fun j => Value.bool (decide (((j : Nat) : Int) ∈ d))).toArray
theorem marks_get {L : Nat} {d : List Int} {j : Nat} (h : j < L) : (marks L d)[j]? = some (.bool (decide (((j : Nat) : Int) ∈ d))) := by
  unfold marks
  simp [h]
theorem marks_set {L : Nat} {d : List Int} {k : Nat} : (marks L d).setIfInBounds k (.bool true) = marks L (d ++ [((k : Nat) : Int)]) := by
  apply Array.ext_getElem?
  intro j
  by_cases hj : j < L
  · rw [marks_get hj]
    by_cases hk : k = j
    · subst hk
      rw [Array.getElem?_setIfInBounds_self_of_lt (by simp [marks, hj])]
      simp
    · rw [Array.getElem?_setIfInBounds_ne hk, marks_get hj]
      simp
      omega
  · rw [Array.getElem?_eq_none (by simp [marks]; omega), Array.getElem?_eq_none (by simp [marks]; omega)]
set_option maxHeartbeats 1000000 in
theorem index_false (b L n cap : Nat) (d : List Int) (t : TypeId) (w : World) (hb : BlockAt w b (marks L d) t) (hn : n ≤ L) (hL : L ≤ 9223372036854775806) :
    Calls Tryd.prog 28 #[.slice (some ⟨b, 0, none⟩) n cap, .bool false] w fun e w' => (∃ i : Int, e = .returned (.int .i64 i) ∧ decide (0 ≤ i) = decide (∃ j, j < n ∧ ((j : Nat) : Int) ∉ d)) ∧ w = w' := by
  have Hb := Lib.hid hb
  clear hb
  go_enter Tryd.func28, Tryd.ntmps28
  go_wp2_with fail
  go_loopw [8] (fun i wr => ∃ k : Nat, k ≤ n ∧ i = .int .i64 k ∧ Hid (∀ j, j < k → ((j : Nat) : Int) ∈ d) ∧ wr = w) (fun i _ => n - (intOf i).toNat)
  case atStart => exact ⟨0, Nat.zero_le _, rfl, Lib.hid (fun j hj => absurd hj (Nat.not_lt_zero _)), rfl⟩
  case round =>
    obtain ⟨k, hk, rfl, Hall, rfl⟩ := hrel
    by_cases hkn : k < n
    · have hc := Hb.out.cell k
      rw [marks_get (by omega)] at hc
      by_cases hin : ((k : Nat) : Int) ∈ d
      · have Hall2 := Lib.hid (show ∀ j, j < k + 1 → ((j : Nat) : Int) ∈ d from fun j hj => by
          rcases Nat.lt_or_eq_of_le (Nat.le_of_lt_succ hj) with h1 | h1
          · exact Hall.out j h1
          · rw [h1]; exact hin)
        rw [decide_eq_true hin] at hc
        clear hin
        go_wp2_with fail
        go_roundw
        case rel => exact ⟨k + 1, by omega, by go_num, Hall2, by first | rfl | trivial⟩
        case measure => simp [intOf]; omega
      · have Hn := Lib.hid (show decide (0 ≤ (k : Int)) = decide (∃ j, j < n ∧ ((j : Nat) : Int) ∉ d) by
          rw [decide_eq_true (by omega), decide_eq_true ⟨k, hkn, hin⟩])
        rw [decide_eq_false hin] at hc
        clear hin
        go_wp2_with fail
        go_ret
        exact ⟨⟨_, rfl, Hn.out⟩, rfl⟩
    · obtain rfl : k = n := by omega
      have Hn := Lib.hid (show decide ((0 : Int) ≤ -1) = decide (∃ j, j < k ∧ ((j : Nat) : Int) ∉ d) by
        rw [decide_eq_false (by omega), decide_eq_false (fun ⟨j, h1, h2⟩ => h2 (Hall.out j h1))])
      go_wp2_with fail
      go_ret
      exact ⟨⟨_, rfl, Hn.out⟩, rfl⟩
theorem contains_false (b L n cap : Nat) (d : List Int) (t : TypeId) (w : World) (hb : BlockAt w b (marks L d) t) (hn : n ≤ L) (hL : L ≤ 9223372036854775806) :
    Calls Tryd.prog 18 #[.slice (some ⟨b, 0, none⟩) n cap, .bool false] w fun e w' => e = .returned (.bool (decide (∃ j, j < n ∧ ((j : Nat) : Int) ∉ d))) ∧ w = w' := by
  have HI := Lib.hid (index_false b L n cap d t w hb hn hL)
  generalize decide (∃ j, j < n ∧ ((j : Nat) : Int) ∉ d) = r at *
  clear hb
  go_enter Tryd.func18, Tryd.ntmps18
  go_wp2_with fail
  refine HI.out.mono ?_
  rintro e w' ⟨⟨i, rfl, hi⟩, rfl⟩
  go_wp2_with fail
  go_ret
  exact ⟨rfl, rfl⟩
/-- All kids of the first nodes. -/
def kidsTo (ns : List Nd) (i : Nat) : List Int := (ns.take i).flatMap (·.kids)
def NodeOk (n : Nd) (i : Nat) : Prop := aloneB n = true ∧ ∀ k ∈ n.kids, 0 ≤ k ∧ k < (i : Int)
/-- Nodes that may be a tree. -/
def TreeP (ns : List Nd) : Prop := 0 < ns.length ∧ ns.length ≤ 2000 ∧ (∀ i (h : i < ns.length), NodeOk ns[i] i) ∧ (kidsTo ns ns.length).Nodup ∧ ∀ j, j + 1 < ns.length → ((j : Nat) : Int) ∈ kidsTo ns ns.length
open Classical in
noncomputable def treeB (ns : List Nd) : Bool := decide (TreeP ns)
theorem treeB_no {ns : List Nd} (h : ¬ TreeP ns) : treeB ns = false := by simp [treeB, h]
theorem treeB_yes {ns : List Nd} (h : TreeP ns) : treeB ns = true := by simp [treeB, h]
theorem kidsTo_zero (ns : List Nd) : kidsTo ns 0 = [] := by simp [kidsTo]
theorem kidsTo_succ {ns : List Nd} {i : Nat} (h : i < ns.length) : kidsTo ns (i + 1) = kidsTo ns i ++ ns[i].kids := by
  unfold kidsTo
  rw [List.take_succ_eq_append_getElem h, List.flatMap_append]
  simp
theorem kidsTo_all (ns : List Nd) (i : Nat) : ∃ r, kidsTo ns ns.length = kidsTo ns i ++ r := by
  refine ⟨(ns.drop i).flatMap (·.kids), ?_⟩
  unfold kidsTo
  rw [← List.flatMap_append, List.take_length, List.take_append_drop]
/-- What was passed up to the kid at p of the node at i. -/
theorem twice_no {ns : List Nd} {i p : Nat} (h : i < ns.length) (hp : p < ns[i].kids.length) (hin : ns[i].kids[p] ∈ kidsTo ns i ++ ns[i].kids.take p) : ¬ (kidsTo ns ns.length).Nodup := by
  intro hn
  obtain ⟨r, hr⟩ := kidsTo_all ns (i + 1)
  rw [hr, kidsTo_succ h] at hn
  have h2 := (List.nodup_append.1 hn).1
  have e : ns[i].kids = ns[i].kids.take p ++ ns[i].kids[p] :: ns[i].kids.drop (p + 1) := by
    rw [← List.drop_eq_getElem_cons hp, List.take_append_drop]
  rw [e, ← List.append_assoc] at h2
  have h3 := (List.nodup_append.1 h2).2.2 _ hin _ (List.mem_cons_self ..)
  exact h3 rfl
end Go.Proofs.YtfcoelnibpinmaaDoor
