import Derived.Test.YtkmnfkhchcoamaaGreatDoorRows
import Derived.WalkKit
import Derived.Lib.Hide
import Derived.Below
import Derived.OneCell
import Derived.Deep.QuietTactic
import Derived.BigQuiet
/- A block of the call's own, known whole. -/
namespace Go.Proofs.YtkmnfkhchcoamaaGreatDoor
open Go.RowKit

/-- Block b holds these cells, and may be written. -/
def BlockAt (w : World) (b : Nat) (xs : Array Value) (t : TypeId) : Prop := w.heap[b]? = some (.cells xs t (0, 0))
theorem BlockAt.lt {w : World} {b : Nat} {xs : Array Value} {t : TypeId} (h : BlockAt w b xs t) : b < w.heap.size := lt_of_block h
theorem BlockAt.cell {w : World} {b : Nat} {xs : Array Value} {t : TypeId} (h : BlockAt w b xs t) (k : Nat) : w.cell? ⟨b, k, none⟩ = xs[k]? := by
  have h' : w.heap[b]? = some (.cells xs t (0, 0)) := h
  simp [World.cell?, h']
theorem BlockAt.free {w : World} {b : Nat} {xs : Array Value} {t : TypeId} (h : BlockAt w b xs t) (k : Nat) : w.frozen? ⟨b, k, none⟩ = false := by
  have h' : w.heap[b]? = some (.cells xs t (0, 0)) := h
  simp [World.frozen?, h']
theorem BlockAt.below {w w' : World} {b : Nat} {xs : Array Value} {t : TypeId} (h : BlockAt w b xs t) (hb : Below w.heap.size w w') : BlockAt w' b xs t := by
  show w'.heap[b]? = _
  rw [hb.block _ h.lt]
  exact h
theorem BlockAt.new (w : World) (xs : Array Value) (t : TypeId) : BlockAt (w.alloc (.cells xs t)) w.heap.size xs t := by
  show (w.alloc (.cells xs t)).heap[w.heap.size]? = _
  simp only [World.alloc]
  exact Array.getElem?_push_size
theorem BlockAt.set {w : World} {b : Nat} {xs : Array Value} {t : TypeId} (h : BlockAt w b xs t) (k : Nat) (v : Value) : BlockAt (w.setCell ⟨b, k, none⟩ v) b (xs.setIfInBounds k v) t := by
  have hlt := lt_of_block h
  have h' : w.heap[b] = .cells xs t (0, 0) := by
    have h2 : w.heap[b]? = some (.cells xs t (0, 0)) := h
    simpa [Array.getElem?_eq_getElem hlt] using h2
  show (w.heap.modify b _)[b]? = _
  rw [Array.getElem?_eq_getElem (by simpa using hlt), Array.getElem_modify_self, h']
  rfl
theorem BlockAt.other {w : World} {b c : Nat} {xs : Array Value} {t : TypeId} (h : BlockAt w b xs t) (hn : b ≠ c) (k : Nat) (v : Value) : BlockAt (w.setCell ⟨c, k, none⟩ v) b xs t := by
  show (w.setCell ⟨c, k, none⟩ v).heap[b]? = _
  rw [Below.heap_setCell _ _ _ _ hn]
  exact h
theorem BlockAt.drewN {w : World} {b : Nat} {xs : Array Value} {t : TypeId} (h : BlockAt w b xs t) (n : Nat) : BlockAt (w.drewN n) b xs t := h
end Go.Proofs.YtkmnfkhchcoamaaGreatDoor

