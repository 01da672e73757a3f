/- The listed variables, out of their readings. -/
import Derived.Test.YtkafkcmhekgheaaGreatDoorLitAB
import Derived.Lib.LaidTab
import Derived.Lib.LaidU8
import Derived.LaidLaws
import Derived.Shelf.Vars
namespace Go.Proofs.YtkafkcmhekgheaaGreatDoor
open Go.RowKit

/-- What a row's list, and the world's shape, give. -/
theorem env_of {W : World} {laid : List (String × DataW Unit)} (h : laidMet Tryz.prog laid W) (hsh : W.ShapedOpen Tryz.prog)
    (m1 : ("unicode/utf8.first", Rows.laid_unicode_utf8_first) ∈ laid) (m2 : ("unicode/utf8.acceptRanges", Rows.laid_unicode_utf8_acceptRanges) ∈ laid) (m3 : ("indenture/nat.bases", Rows.laid_indenture_nat_bases) ∈ laid) : Env W := by
  refine ⟨?_, ?_, ?_⟩
  · exact cell_of_shapedOpen_int (t := 3) (zero := #[.int .i64 0]) hsh (by decide +kernel) (by kernel_rfl) rfl (by kernel_rfl) (by kernel_rfl) (by kernel_rfl)
  · have r1 := Lib.laidMet.reads h m1
    have r2 := Lib.laidMet.reads h m2
    rw [show (Rows.laid_unicode_utf8_first : DataW Unit) = Lib.firstData by kernel_rfl] at r1
    rw [show (Rows.laid_unicode_utf8_acceptRanges : DataW Unit) = Lib.acceptData by kernel_rfl] at r2
    exact utf8Tabs_of_reads { Tryz.lays197 with } ⟨by kernel_rfl, by kernel_rfl, by kernel_rfl, by kernel_rfl, by kernel_rfl, by kernel_rfl, by kernel_rfl⟩ r1 r2
  · obtain ⟨g, t, cs, fuel, p, h1, h2, h3, h4⟩ := Lib.laidMet.reads h m3
    have hg : Tryz.prog.globalNamed "indenture/nat.bases" = some 0 := by kernel_rfl
    have ht : (Tryz.prog.globals[0]?).map (·.type) = some 100 := by kernel_rfl
    obtain rfl := Option.some.inj (hg.symm.trans h1)
    obtain rfl := Option.some.inj (ht.symm.trans h2)
    rw [show (Rows.laid_indenture_nat_bases : DataW Unit) = Lib.tabData .i64 [2, 8, 10, 16] by kernel_rfl] at h4
    have hc := Lib.cells_of_tab (n := 4) Tryz.underlying100 (by kernel_rfl) (by kernel_rfl) (by kernel_rfl) h4
    have hcell := fun j => World.var?_cell hg h3 j
    have hx : ∀ j : Nat, W.cell? ⟨0, j, none⟩ = ([2, 8, 10, 16].map fun z => Value.int .i64 z)[j]? := fun j => by
      rw [hcell, ← Array.getElem?_toList, hc]
    exact ⟨hx 0, hx 1, hx 2, hx 3⟩
/-- A datum's cells, if it leads nowhere. -/
def flatD : Nat → DataW Unit → List Value
  | 0, _ => []
  | _ + 1, .lit (.int k z) => [.int k z]
  | n + 1, .agg l => l.flatMap (flatD n)
  | _ + 1, _ => []
def putG (h : Array Obj) (g : Nat) (cs : Array Value) : Array Obj := h.modify g fun
  | .cells _ t frozen => .cells cs t frozen
  | o => o
end Go.Proofs.YtkafkcmhekgheaaGreatDoor
