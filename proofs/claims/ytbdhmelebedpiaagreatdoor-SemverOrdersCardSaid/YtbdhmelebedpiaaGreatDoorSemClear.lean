/- clear of a slice of integers. -/
import Derived.Test.YtbdhmelebedpiaaGreatDoorSemCmpV
import Derived.Laws.CopyRow
namespace Go.Proofs.YtbdhmelebedpiaaGreatDoor
open Go.RowKit
set_option linter.unusedSimpArgs false

theorem zero_int (w : World) : (zeroValue 3).run Tryz.prog w = .ok (.int .i64 0) w := by kernel_rfl
theorem clear_none (p : Addr) (c : Nat) (w : World) : (Builtin.clear_ #[53] 0 #[.slice (some p) 0 c]).run Tryz.prog w = .ok (.tuple #[]) w := by
  simp [Builtin.clear_, run_underlying Tryz.underlying53, Result.andThen]
theorem store_int (g o : Nat) (u : Value) (z : Int) (w : World) (hc : w.cell? ⟨g, o, none⟩ = some u) (hf : w.frozen? ⟨g, o, none⟩ = false) : (store ⟨g, o, none⟩ (.int .i64 z)).run Tryz.prog w = .ok () (w.setCell ⟨g, o, none⟩ (.int .i64 z)) := by
  rw [run_store _ _ _ _ _ rfl, hc]
  simp [hf]
theorem zeros1 : (Builtin.zeroCells (Value.cells (.int .i64 0)) 1).toList = [.int .i64 0] := by kernel_rfl
theorem zeros2 : (Builtin.zeroCells (Value.cells (.int .i64 0)) 2).toList = [.int .i64 0, .int .i64 0] := by kernel_rfl
theorem clear_one (g o c : Nat) (u : Value) (w : World) (hc : w.cell? ⟨g, o, none⟩ = some u) (hf : w.frozen? ⟨g, o, none⟩ = false) :
    (Builtin.clear_ #[53] 0 #[.slice (some ⟨g, o, none⟩) 1 c]).run Tryz.prog w = .ok (.tuple #[]) (w.setCell ⟨g, o, none⟩ (.int .i64 0)) := by
  have hadd : (⟨g, o, none⟩ : Addr).add 0 = ⟨g, o, none⟩ := by unfold Addr.add; split <;> simp_all
  have hst := store_int g o u 0 w hc hf
  simp only [Builtin.clear_, Sem.run_bind, run_underlying Tryz.underlying53, Result.andThen_ok, zero_int, zeros1, storeCells, hadd, hst, Sem.run_pure, List.getElem?_toArray, List.getElem?_cons_zero]
theorem clear_two (g o c : Nat) (u v : Value) (w : World) (hc : w.cell? ⟨g, o, none⟩ = some u) (hd : w.cell? ⟨g, o + 1, none⟩ = some v) (hf : w.frozen? ⟨g, o, none⟩ = false) (hg : w.frozen? ⟨g, o + 1, none⟩ = false) :
    (Builtin.clear_ #[53] 0 #[.slice (some ⟨g, o, none⟩) 2 c]).run Tryz.prog w = .ok (.tuple #[]) ((w.setCell ⟨g, o, none⟩ (.int .i64 0)).setCell ⟨g, o + 1, none⟩ (.int .i64 0)) := by
  have hadd : (⟨g, o, none⟩ : Addr).add 0 = ⟨g, o, none⟩ := by unfold Addr.add; split <;> simp_all
  have hadd1 : (⟨g, o, none⟩ : Addr).add 1 = ⟨g, o + 1, none⟩ := by unfold Addr.add; split <;> simp_all
  have hst := store_int g o u 0 w hc hf
  obtain ⟨v', hy'⟩ := cell?_setCell_some (w := w) (p := ⟨g, o, none⟩) (x := .int .i64 0) (q := ⟨g, o + 1, none⟩) (v := v) hd
  have hg' : (w.setCell ⟨g, o, none⟩ (.int .i64 0)).frozen? ⟨g, o + 1, none⟩ = false := by simpa using hg
  have hst2 := store_int g (o + 1) v' 0 _ hy' hg'
  simp only [Builtin.clear_, Sem.run_bind, run_underlying Tryz.underlying53, Result.andThen_ok, zero_int, zeros2, storeCells, hadd, hadd1, hst, hst2, Sem.run_pure, Nat.zero_add, List.getElem?_toArray, List.getElem?_cons_zero]
end Go.Proofs.YtbdhmelebedpiaaGreatDoor
