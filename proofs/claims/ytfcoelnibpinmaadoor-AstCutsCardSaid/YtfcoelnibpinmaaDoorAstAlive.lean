/- The law's own alive: a sum of two names. -/
import Derived.Test.YtfcoelnibpinmaaDoorAstDeep
namespace Go.Proofs.YtfcoelnibpinmaaDoor
open Go.RowKit

def sumNs : List Nd := [⟨1, ⟨#[120]⟩, [], 0⟩, ⟨1, ⟨#[121]⟩, [], 0⟩, ⟨10, ⟨#[43]⟩, [0, 1], 0⟩]
theorem sum_tree : TreeP sumNs := by
  refine ⟨by decide, by decide, fun i h => ?_, by decide, fun j hj => ?_⟩
  · match i, h with
    | 0, _ => exact ⟨(by decide : aloneB ⟨1, ⟨#[120]⟩, [], 0⟩ = true), (by decide : ∀ k ∈ ([] : List Int), 0 ≤ k ∧ k < ((0 : Nat) : Int))⟩
    | 1, _ => exact ⟨(by decide : aloneB ⟨1, ⟨#[121]⟩, [], 0⟩ = true), (by decide : ∀ k ∈ ([] : List Int), 0 ≤ k ∧ k < ((1 : Nat) : Int))⟩
    | 2, _ => exact ⟨(by decide : aloneB ⟨10, ⟨#[43]⟩, [0, 1], 0⟩ = true), (by decide : ∀ k ∈ ([0, 1] : List Int), 0 ≤ k ∧ k < ((2 : Nat) : Int))⟩
  · have : j < 2 := by have h3 : j + 1 < 3 := hj; omega
    match j, this with
    | 0, _ => decide
    | 1, _ => decide
theorem sum_dep : dep sumNs 2 = 2 := by decide
def sumCells (nb : Nat) : Array Value := #[.int .i64 1, .string ⟨#[120]⟩, .slice none 0 0, .int .i64 0, .int .i64 1, .string ⟨#[121]⟩, .slice none 0 0, .int .i64 0, .int .i64 10, .string ⟨#[43]⟩, .slice (some ⟨nb, 0, none⟩) 2 2, .int .i64 0]
theorem sum_row (w : World) {nb mb : Nat} {t u : TypeId} (h1 : BlockAt w nb #[.int .i64 0, .int .i64 1] t) (h2 : BlockAt w mb (sumCells nb) u) : NRow w (some ⟨mb, 0, none⟩) sumNs := by
  refine .inr ⟨mb, 0, rfl, h2.lt, fun i hi => ?_⟩
  match i, hi with
  | 0, _ => exact ⟨h2.cell 0, h2.cell 1, ⟨none, 0, h2.cell 2, Nat.le_refl _, .inl rfl⟩, h2.cell 3⟩
  | 1, _ => exact ⟨h2.cell 4, h2.cell 5, ⟨none, 0, h2.cell 6, Nat.le_refl _, .inl rfl⟩, h2.cell 7⟩
  | 2, _ =>
    refine ⟨h2.cell 8, h2.cell 9, ⟨some ⟨nb, 0, none⟩, 2, h2.cell 10, Nat.le_refl _, .inr ⟨nb, 0, rfl, h1.lt, fun i hi => ?_⟩⟩, h2.cell 11⟩
    have hi2 : i < 2 := hi
    match i, hi2 with
    | 0, _ => exact h1.cell 0
    | 1, _ => exact h1.cell 1
set_option maxHeartbeats 4000000 in
theorem alive_any (w : World) (hC : Counts w) : Calls Tryd.prog 7 #[] w fun e w' => e = .returned (.bool true) ∧ Below w.heap.size w w' := by
  have b1 : Below w.heap.size w ((w.alloc (.cells #[.int .i64 0, .int .i64 1] 3)).alloc (.cells (sumCells w.heap.size) 37)) := ((Below.refl _ _).alloc (Nat.le_refl _) _).alloc (by simp) _
  have k1 := (BlockAt.new w #[.int .i64 0, .int .i64 1] 3).below ((Below.refl _ _).alloc (Nat.le_refl _) (.cells (sumCells w.heap.size) 37))
  have k2 := BlockAt.new (w.alloc (.cells #[.int .i64 0, .int .i64 1] 3)) (sumCells w.heap.size) 37
  have hz : (w.alloc (.cells #[.int .i64 0, .int .i64 1] 3)).heap.size = w.heap.size + 1 := by simp
  rw [hz] at k2
  have hr := sum_row _ k1 k2
  have hk : ∀ n ∈ sumNs, n.kids.length ≤ 2000 := by decide
  have HD := Lib.hid (deep_ok (some ⟨w.heap.size + 1, 0, none⟩) 3 sumNs _ hr (hC.below b1) hk (by decide) (treeB_yes sum_tree))
  have Hr := Lib.hid hr
  have HC := Lib.hid (hC.below b1)
  have B1 := Lib.hid b1
  clear hC b1 k1 k2 hr
  unfold sumCells at HD Hr HC B1
  go_enter Tryd.func7, Tryd.ntmps7
  go_wp2_with fail
  refine HD.out.mono ?_
  rintro e w1 ⟨rfl, bq⟩
  have HR := Lib.hid (right_any (some ⟨w.heap.size + 1, 0, none⟩) 3 sumNs w1 (Hr.out.below bq) (HC.out.below bq) hk (by decide))
  have B := Lib.hid (B1.out.trans (bq.mono B1.out.size))
  rw [show ((dep sumNs (sumNs.length - 1) : Nat) : Int) = 2 by rw [show sumNs.length - 1 = 2 from rfl, sum_dep]; rfl]
  clear bq HD
  go_wp2_with fail
  refine HR.out.mono ?_
  rintro e w2 ⟨rfl, bq⟩
  rw [treeB_yes sum_tree]
  go_wp2_with fail
  go_ret
  exact ⟨rfl, B.out.trans (bq.mono B.out.size)⟩
end Go.Proofs.YtfcoelnibpinmaaDoor
