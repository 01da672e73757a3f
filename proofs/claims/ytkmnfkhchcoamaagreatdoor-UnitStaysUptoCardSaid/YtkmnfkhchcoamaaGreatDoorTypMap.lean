import Derived.Test.YtkmnfkhchcoamaaGreatDoorTypPK
import Derived.Maps.Own
import Derived.Maps.OwnSet
import Derived.Maps.Views
import Derived.Maps.Keyed
import Derived.DeepKeys4
/- The map of keys: what it holds. -/
namespace Go.Proofs.YtkmnfkhchcoamaaGreatDoor
open Go Go.RowKit
set_option linter.unusedSimpArgs false
set_option linter.unusedVariables false
set_option maxRecDepth 100000

theorem laid_out : laidOutB Tryz.prog = true := by kernel_rfl
theorem key_row : (100 : TypeId) < Tryz.prog.types.size := of_decide_eq_true (by kernel_rfl)
theorem key_wide : (match Tryz.prog.underlying 100 with | some (.array _ _) | some (.struct _) => true | _ => false) = true := by kernel_rfl
theorem key_law : Maps.Keyed Tryz.prog 100 := Maps.Keyed.of_law (deep_law_laid laid_out (m := 4) (by omega) key_row (by kernel_rfl) key_wide)
theorem key_cells : Tryz.prog.cellsOf 100 = 6 := by kernel_rfl
theorem two_cells : Tryz.prog.cellsOf 98 = 2 := by kernel_rfl
theorem int_cells : Tryz.prog.cellsOf 3 = 1 := by kernel_rfl
theorem str_cells : Tryz.prog.cellsOf 9 = 1 := by kernel_rfl
theorem key_type : Tryz.prog.keyType 100 = true := by kernel_rfl
theorem deep_enough : ∃ m, Tryz.prog.types.size = m + 3 := ⟨Tryz.prog.types.size - 3, by have : 3 ≤ Tryz.prog.types.size := of_decide_eq_true (by kernel_rfl); omega⟩
/-- How great a key may be. -/
structure KyOk (k : Ky) : Prop where
  kind : -9223372036854775808 ≤ k.kind ∧ k.kind ≤ 9223372036854775807
  n : -9223372036854775808 ≤ k.n ∧ k.n ≤ 9223372036854775807
  many : -9223372036854775808 ≤ k.many ∧ k.many ≤ 9223372036854775807
  k0 : -9223372036854775808 ≤ k.k0 ∧ k.k0 ≤ 9223372036854775807
  k1 : -9223372036854775808 ≤ k.k1 ∧ k.k1 ≤ 9223372036854775807
  rest : k.rest.size ≤ 20001000
theorem wf_int {n : Int} (h : -9223372036854775808 ≤ n ∧ n ≤ 9223372036854775807) : (Lit.int .i64 n).wf = true := by
  simp [Lit.wf, IntKind.min, IntKind.max, IntKind.bits, IntKind.signed]
  omega
theorem key_lit {k : Ky} (h : KyOk k) : ∃ kl, keyOf Tryz.prog 100 (keyV k) = some kl := by
  obtain ⟨m, hm⟩ := deep_enough
  have hf : (keyV k).formed Tryz.prog 100 = true := by
    simp [Value.formed, keyV, Tryz.underlying100, key_cells]
  have hs : k.rest.size ≤ maxLen := by have := h.rest; unfold maxLen; omega
  unfold keyOf
  rw [Tryz.underlying100]
  simp only [key_type, hf, Bool.and_self, if_true]
  rw [hm]
  simp [keyV, Value.cells, Program.keyLits, Tryz.underlying100, Tryz.underlying3, Tryz.underlying98, Tryz.underlying9, key_cells, two_cells, int_cells, str_cells, wf_int h.kind, wf_int h.n, wf_int h.many, wf_int h.k0, wf_int h.k1, hs, List.range_succ]
theorem keyV_inj {a b : Ky} (h : keyV a = keyV b) : a = b := by
  obtain ⟨a1, a2, a3, a4, a5, a6⟩ := a
  obtain ⟨b1, b2, b3, b4, b5, b6⟩ := b
  simp [keyV] at h
  obtain ⟨rfl, rfl, rfl, rfl, rfl, rfl⟩ := h
  rfl
theorem zero_i64 (w : World) : (zeroValue 3).run Tryz.prog w = .ok (.int .i64 0) w := by kernel_rfl
/-- Block b is a map that holds these keys, each with its place, and no other. -/
def KMap (w : World) (b : Nat) (L : List (Ky × Nat)) : Prop :=
  ∃ D : DataW Unit, w.ownsMap Tryz.prog 100 (plainElem Tryz.prog 3) b L.length D ∧
    ∀ k kl, keyOf Tryz.prog 100 (keyV k) = some kl → (∀ i, (k, i) ∈ L → Maps.has D kl = true ∧ ∀ z, D.atKey kl z = .lit (.int .i64 i)) ∧ ((∀ p ∈ L, p.1 ≠ k) → Maps.has D kl = false)
theorem kmap_new (w : World) : KMap (w.alloc (.map #[] 0)) w.heap.size [] :=
  ⟨.map [], World.ownsMap_made _ _ _ _, fun k kl _ => ⟨fun i h => absurd h (by simp), fun _ => rfl⟩⟩
theorem KMap.lt {w : World} {b : Nat} {L : List (Ky × Nat)} (h : KMap w b L) : b < w.heap.size := by
  obtain ⟨D, h1, -⟩ := h
  exact h1.lt
theorem KMap.below {w w' : World} {b : Nat} {L : List (Ky × Nat)} (h : KMap w b L) (hb : Below w.heap.size w w') : KMap w' b L := by
  have hlt := h.lt
  obtain ⟨D, ⟨es, clock, h1, h2⟩, h3⟩ := h
  exact ⟨D, ⟨es, clock, (hb.block b hlt).trans h1, h2⟩, h3⟩
theorem KMap.hit {w : World} {b : Nat} {L : List (Ky × Nat)} (h : KMap w b L) {k : Ky} {i : Nat} (hk : KyOk k) (hm : (k, i) ∈ L) : (Instr.lookup 77 (.map (some b)) (keyV k) true).run Tryz.prog w = .ok (.tuple #[.int .i64 i, .bool true]) w := by
  obtain ⟨D, h1, h2⟩ := h
  obtain ⟨kl, hkl⟩ := key_lit hk
  obtain ⟨g1, g2⟩ := (h2 k kl hkl).1 i hm
  obtain ⟨v, ps, hrun, hv⟩ := h1.look_ok key_law Tryz.underlying77 (zero_i64 w) (plainElem_int Tryz.underlying3 (by decide)) hkl
  obtain ⟨c, rfl, hc, -⟩ := plainElem_int_inv Tryz.underlying3 hv
  rw [g2] at hc
  simp only [Prod.mk.injEq, DataW.lit.injEq, Lit.int.injEq, true_and] at hc
  rw [hrun, g1, hc.1]
theorem KMap.miss {w : World} {b : Nat} {L : List (Ky × Nat)} (h : KMap w b L) {k : Ky} (hk : KyOk k) (hm : ∀ p ∈ L, p.1 ≠ k) : (Instr.lookup 77 (.map (some b)) (keyV k) true).run Tryz.prog w = .ok (.tuple #[.int .i64 0, .bool false]) w := by
  obtain ⟨D, h1, h2⟩ := h
  obtain ⟨kl, hkl⟩ := key_lit hk
  have g1 := (h2 k kl hkl).2 hm
  obtain ⟨v, ps, hrun, hv⟩ := h1.look_ok key_law Tryz.underlying77 (zero_i64 w) (plainElem_int Tryz.underlying3 (by decide)) hkl
  obtain ⟨c, rfl, hc, -⟩ := plainElem_int_inv Tryz.underlying3 hv
  rw [Maps.atKey_of_not_has g1] at hc
  simp only [Prod.mk.injEq, DataW.lit.injEq, Lit.int.injEq, true_and] at hc
  rw [hrun, g1, ← hc.1]
theorem KMap.store {w : World} {b : Nat} {L : List (Ky × Nat)} (h : KMap w b L) {k : Ky} {i : Nat} (hk : KyOk k) (hm : ∀ p ∈ L, p.1 ≠ k) (hi : i ≤ 1000) (hl : L.length ≤ 1000) :
    ∃ w', (Instr.mapUpdate 77 (.map (some b)) (keyV k) (.int .i64 i)).run Tryz.prog w = .ok () w' ∧ KMap w' b (L ++ [(k, i)]) ∧ w.grownBy w' (some b) := by
  obtain ⟨D, h1, h2⟩ := h
  obtain ⟨kl, hkl⟩ := key_lit hk
  obtain ⟨w', hrun, h3, h4⟩ := h1.update key_law Tryz.underlying77 (by unfold maxLen; omega) hkl (plainElem_int (H := Unit) Tryz.underlying3 (a := (i : Int)) (wf_int (by omega)))
  refine ⟨w', hrun, ⟨_, by rw [List.length_append]; exact h3, fun k' kl' hk' => ?_⟩, h4⟩
  have hisk := key_law.key hkl
  by_cases he : k' = k
  · subst he
    rw [hkl] at hk'
    injection hk' with hk'
    subst hk'
    refine ⟨fun j hj => ?_, fun hno => absurd rfl (hno (k', i) (by simp))⟩
    have : j = i := by
      rcases List.mem_append.1 hj with hj | hj
      · exact absurd rfl (hm _ hj)
      · simpa using hj
    subst this
    exact ⟨Maps.has_put_same h1.isMap hisk _, fun z => Maps.atKey_put_same h1.isMap hisk _ z⟩
  · have hne : kl' ≠ kl := fun e => he (keyV_inj (key_law.inj (e ▸ hk') hkl))
    rw [Maps.has_put_other hne]
    refine ⟨fun j hj => ?_, fun hno => (h2 k' kl' hk').2 (fun p hp => hno p (List.mem_append_left _ hp))⟩
    have hj' : (k', j) ∈ L := by
      rcases List.mem_append.1 hj with hj | hj
      · exact hj
      · simp at hj; exact absurd hj.1 he
    obtain ⟨g1, g2⟩ := (h2 k' kl' hk').1 j hj'
    exact ⟨g1, fun z => by rw [Maps.atKey_put_other hne]; exact g2 z⟩
end Go.Proofs.YtkmnfkhchcoamaaGreatDoor

