/- slices.Reverse at this translation: one application of the library's own contract. -/
import Derived.Shelf.SlicesE.Reverse
import Derived.Test.YtondjnmpfpfpmaaDoorNatRows
namespace Go.Proofs
open Go.Shelf
def Tryd.laysRev_ren : Go.Shelf.Ren := ⟨fun | 35 => 47 | n => n, fun | 22 => 62 | 23 => 5 | 3 => 3 | 4 => 4 | 0 => 0 | n => n, fun | n => n⟩
theorem Tryd.laysRev : Go.Proofs.SlLaysE.n35 Tryd.prog Tryd.laysRev_ren := {
  mixed := by kernel_rfl
  f35 := ⟨Tryd.f47.name, by decide, Tryd.func47.trans (congrArg some (by kernel_rfl))⟩
  t0 := Tryd.underlying0
  a0 := Tryd.isAgg0
  z0 := Tryd.sizeOf0
  v0 := Tryd.zeroValue0
  t3 := Tryd.underlying3
  a3 := Tryd.isAgg3
  z3 := Tryd.sizeOf3
  v3 := Tryd.zeroValue3
  t4 := Tryd.underlying4
  a4 := Tryd.isAgg4
  z4 := Tryd.sizeOf4
  v4 := Tryd.zeroValue4
  t22 := Tryd.underlying62
  a22 := Tryd.isAgg62
  z22 := Tryd.sizeOf62
  v22 := Tryd.zeroValue62
  a23 := Tryd.isAgg5
  z23 := Tryd.sizeOf5 }
open Go.RowKit Go.Lib Go.Sort in
/-- slices.Reverse. -/
theorem Tryd.slices_Reverse {α : Type} [Inhabited α] (enc : α → Value) (h1 : OneCell enc) (blk off cap : Nat) (zs : List α) (w : World) (hH : Holds enc w blk off zs.toArray) (hsz : zs.length ≤ 9223372036854775807) :
    Calls Tryd.prog 47 #[.slice (some ⟨blk, off, none⟩) zs.length cap] w fun e w' => e = .returned (.tuple #[]) ∧ ∃ n, w' = putRow enc (Sort.ahead w n) blk off zs.reverse.toArray := AnyE.slices_Reverse Tryd.laysRev enc h1 blk off cap zs w hH hsz

end Go.Proofs
namespace Go.Proofs.YtondjnmpfpfpmaaDoor
open Go.RowKit Go.Lib Go.Sort

theorem onlyB_put (w : World) (n g : Nat) (d : Array Int) : OnlyB g w (putRow (Value.int .u8) (Sort.ahead w n) g 0 d) := by
  refine ⟨rfl, rfl, rfl, by simp, fun k hk hne => ?_⟩
  simp only [putRow, mapBlock, heap_ahead, Array.getElem?_modify, if_neg (Ne.symm hne)]

/-- slices.Reverse over bytes of the call's own. -/
theorem rev_any (zs : List Int) (g cap : Nat) (w : World) (hm : zs.length ≤ 1000000) (hc : ∀ j, j < zs.length → w.cell? ⟨g, j, none⟩ = some (.int .u8 (zs.getD j 0)) ∧ w.frozen? ⟨g, j, none⟩ = false) :
    Calls Tryd.prog 47 #[.slice (some ⟨g, 0, none⟩) zs.length cap] w fun e w' => e = .returned (.tuple #[]) ∧ (∀ j, j < zs.length → w'.cell? ⟨g, j, none⟩ = some (.int .u8 (zs.reverse.getD j 0))) ∧ OnlyB g w w' := by
  have hH : Holds (Value.int .u8) w g 0 zs.toArray := by
    intro j hj
    have hj' : j < zs.length := by simpa using hj
    have h := hc j hj'
    rw [Nat.zero_add]
    refine ⟨?_, h.2⟩
    rw [h.1, getElem!_pos _ j hj, List.getD_eq_getElem?_getD, List.getElem?_eq_getElem hj']
    rfl
  refine (Tryd.slices_Reverse (Value.int .u8) (fun _ => rfl) g 0 cap zs w hH (by omega)).mono ?_
  rintro e w' ⟨rfl, n, rfl⟩
  refine ⟨rfl, fun j hj => ?_, onlyB_put w n g _⟩
  have h := cell?_putRow (Value.int .u8) (Sort.ahead w n) g 0 zs.toArray zs.reverse.toArray (holds_ahead _ w n g 0 _ hH) (by simp) j (by simpa using hj)
  rw [Nat.zero_add] at h
  rw [h, getElem!_pos _ j (by simpa using hj), List.getD_eq_getElem?_getD, List.getElem?_eq_getElem (by simpa using hj)]
  rfl
end Go.Proofs.YtondjnmpfpfpmaaDoor
