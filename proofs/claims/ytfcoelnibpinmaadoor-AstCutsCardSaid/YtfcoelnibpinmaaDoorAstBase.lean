/- Nodes in memory; 'in' and 'Kids' of the reference. -/
import Derived.Test.YtfcoelnibpinmaaDoorRows
import Derived.WalkKit
import Derived.WalkSpells
import Derived.WalkLawsBesides
import Derived.WalkSmall
import Derived.IntWalk
import Derived.Lib.Hide
import Derived.Below
import Derived.Deep.QuietTactic
import Derived.BigQuiet
namespace Go.Proofs.YtfcoelnibpinmaaDoor
open Go.RowKit

theorem ret_bool {a b : Bool} (h : a = b) : Ending.returned (.bool a) = .returned (.bool b) := by rw [h]
theorem ret_int {k : IntKind} {a b : Int} (h : a = b) : Ending.returned (.int k a) = .returned (.int k b) := by rw [h]
/-- A node. -/
structure Nd where
  kind : Int
  text : ByteArray
  kids : List Int
  place : Int
/-- A row of integers in memory. -/
def IRow (w : World) (ao : Option Addr) (zs : List Int) : Prop :=
  zs = [] ∨ ∃ b off, ao = some ⟨b, off, none⟩ ∧ b < w.heap.size ∧ ∀ i, i < zs.length → w.cell? ⟨b, off + i, none⟩ = some (.int .i64 (zs.getD i 0))
theorem IRow.below {w w' : World} {ao : Option Addr} {zs : List Int} (h : IRow w ao zs) (hb : Below w.heap.size w w') : IRow w' ao zs := by
  rcases h with h | ⟨b, off, h1, h2, h3⟩
  · exact .inl h
  · exact .inr ⟨b, off, h1, Nat.lt_of_lt_of_le h2 hb.size, fun i hi => by rw [hb.cell (p := ⟨b, off + i, none⟩) h2]; exact h3 i hi⟩
theorem IRow.take {w : World} {ao : Option Addr} {zs : List Int} (h : IRow w ao zs) (k : Nat) : IRow w ao (zs.take k) := by
  rcases h with h | ⟨b, off, h1, h2, h3⟩
  · exact .inl (by rw [h]; simp)
  · refine .inr ⟨b, off, h1, h2, fun i hi => ?_⟩
    rw [List.length_take] at hi
    rw [h3 i (by omega)]
    simp only [List.getD_eq_getElem?_getD]
    rw [List.getElem?_take_of_lt (by omega)]
theorem IRow.cells {w : World} {ao : Option Addr} {zs : List Int} (h : IRow w ao zs) (hn : 0 < zs.length) : ∃ b off, ao = some ⟨b, off, none⟩ ∧ b < w.heap.size ∧ ∀ i, i < zs.length → w.cell? ⟨b, off + i, none⟩ = some (.int .i64 (zs.getD i 0)) := by
  rcases h with h | h
  · rw [h] at hn; exact absurd hn (by simp)
  · exact h
/-- A node's four cells. -/
def NdAt (w : World) (b o : Nat) (n : Nd) : Prop :=
  w.cell? ⟨b, o, none⟩ = some (.int .i64 n.kind) ∧ w.cell? ⟨b, o + 1, none⟩ = some (.string n.text) ∧
  (∃ ka kc, w.cell? ⟨b, o + 2, none⟩ = some (.slice ka n.kids.length kc) ∧ n.kids.length ≤ kc ∧ IRow w ka n.kids) ∧ w.cell? ⟨b, o + 3, none⟩ = some (.int .i64 n.place)
theorem NdAt.below {w w' : World} {b o : Nat} {n : Nd} (h : NdAt w b o n) (hlt : b < w.heap.size) (hb : Below w.heap.size w w') : NdAt w' b o n := by
  obtain ⟨h1, h2, ⟨ka, kc, h3, h4, h5⟩, h6⟩ := h
  refine ⟨?_, ?_, ⟨ka, kc, ?_, h4, h5.below hb⟩, ?_⟩
  · rw [hb.cell (p := ⟨b, o, none⟩) hlt]; exact h1
  · rw [hb.cell (p := ⟨b, o + 1, none⟩) hlt]; exact h2
  · rw [hb.cell (p := ⟨b, o + 2, none⟩) hlt]; exact h3
  · rw [hb.cell (p := ⟨b, o + 3, none⟩) hlt]; exact h6
/-- A row of nodes in memory. -/
def NRow (w : World) (ao : Option Addr) (ns : List Nd) : Prop :=
  ns = [] ∨ ∃ b off, ao = some ⟨b, off, none⟩ ∧ b < w.heap.size ∧ ∀ i (h : i < ns.length), NdAt w b (off + i * 4) ns[i]
theorem NRow.below {w w' : World} {ao : Option Addr} {ns : List Nd} (h : NRow w ao ns) (hb : Below w.heap.size w w') : NRow w' ao ns := by
  rcases h with h | ⟨b, off, h1, h2, h3⟩
  · exact .inl h
  · exact .inr ⟨b, off, h1, Nat.lt_of_lt_of_le h2 hb.size, fun i hi => (h3 i hi).below h2 hb⟩
/-- A slice of nodes. -/
def Nds (w : World) (v : Value) (ns : List Nd) : Prop := ∃ ao cap, v = .slice ao ns.length cap ∧ ns.length ≤ cap ∧ NRow w ao ns
theorem Nds.below {w w' : World} {v : Value} {ns : List Nd} (h : Nds w v ns) (hb : Below w.heap.size w w') : Nds w' v ns := by
  obtain ⟨ao, cap, h1, h2, h3⟩ := h
  exact ⟨ao, cap, h1, h2, h3.below hb⟩
def hasB (n : Int) (zs : List Int) : Bool := decide (n ∈ zs)
theorem getD_mem {zs : List Int} {k : Nat} (h : k < zs.length) : zs.getD k 0 ∈ zs := by
  rw [List.getD_eq_getElem?_getD, List.getElem?_eq_getElem h]
  exact List.getElem_mem h
set_option maxHeartbeats 1000000 in
theorem in_any (n : Int) (ao : Option Addr) (cap : Nat) (zs : List Int) (w : World) (hr : IRow w ao zs) (hm : zs.length ≤ 9223372036854775806) :
    Calls Tryd.prog 27 #[.int .i64 n, .slice ao zs.length cap] w fun e w' => e = .returned (.bool (hasB n zs)) ∧ w = w' := by
  by_cases h0 : zs.length = 0
  · have hz : zs = [] := List.eq_nil_of_length_eq_zero h0
    subst hz
    clear hr hm h0
    go_enter Tryd.func27, Tryd.ntmps27
    go_wp2_with fail
    go_loopw [9] (fun i wr => i = .int .i64 0 ∧ wr = w) (fun _ _ => 0)
    case atStart => exact ⟨rfl, rfl⟩
    case round =>
      obtain ⟨rfl, rfl⟩ := hrel
      go_wp2_with fail
      go_ret
      exact ⟨rfl, rfl⟩
  · obtain ⟨b, off, rfl, hlt, hc⟩ := hr.cells (by omega)
    have Hc := Lib.hid hc
    clear hr hc h0
    go_enter Tryd.func27, Tryd.ntmps27
    go_wp2_with fail
    go_loopw [9] (fun i wr => ∃ k : Nat, k ≤ zs.length ∧ i = .int .i64 k ∧ Hid (∀ j, j < k → zs.getD j 0 ≠ n) ∧ wr = w) (fun i _ => zs.length - (intOf i).toNat)
    case atStart => exact ⟨0, Nat.zero_le _, rfl, Lib.hid (fun j hj => absurd hj (Nat.not_lt_zero _)), rfl⟩
    case round =>
      obtain ⟨k, hk, rfl, Hno, rfl⟩ := hrel
      by_cases hkl : k < zs.length
      · have hck := Hc.out k hkl
        obtain ⟨c, hcc⟩ : ∃ c, zs.getD k 0 = c := ⟨_, rfl⟩
        rw [hcc] at hck
        by_cases hq : c = n
        · have Hn := Lib.hid (show hasB n zs = true by unfold hasB; rw [decide_eq_true_iff, ← hq, ← hcc]; exact getD_mem hkl)
          have hqb : (c == n) = true := by rw [beq_iff_eq]; exact hq
          clear hcc hq
          go_wp2_with fail
          go_ret
          exact ⟨ret_bool Hn.out.symm, rfl⟩
        · have Hno2 := Lib.hid (show ∀ j, j < k + 1 → zs.getD j 0 ≠ n from fun j hj => by
            rcases Nat.lt_or_eq_of_le (Nat.le_of_lt_succ hj) with h1 | h1
            · exact Hno.out j h1
            · rw [h1, hcc]; exact hq)
          have hqb : (c == n) = false := by rw [beq_eq_false_iff_ne]; exact hq
          clear hcc hq
          go_wp2_with fail
          go_roundw
          case rel => exact ⟨k + 1, by omega, by go_num, Hno2, by first | rfl | trivial⟩
          case measure => simp [intOf]; omega
      · obtain rfl : k = zs.length := by omega
        have Hn := Lib.hid (show hasB n zs = false by
          unfold hasB
          rw [decide_eq_false_iff_not]
          intro hm
          obtain ⟨j, hj, he⟩ := List.getElem_of_mem hm
          have := Hno.out j hj
          rw [List.getD_eq_getElem?_getD, List.getElem?_eq_getElem hj] at this
          exact this he)
        go_wp2_with fail
        go_ret
        exact ⟨ret_bool Hn.out.symm, rfl⟩
end Go.Proofs.YtfcoelnibpinmaaDoor
