/- Types in memory. -/
import Derived.Test.YtleiaghegokjkaaGreatDoorTypM
import Derived.Test.YtleiaghegokjkaaGreatDoorSrcName
import Derived.Test.YtleiaghegokjkaaGreatDoorBlock
import Derived.WalkSmall
import Derived.IntWalk
import Derived.Below
namespace Go.Proofs.YtleiaghegokjkaaGreatDoor
open Go.RowKit
set_option linter.unusedSimpArgs false
set_option linter.unusedVariables false

theorem ty_str_eq (a b : ByteArray) : (a.toList == b.toList) = decide (a = b) := by
  rw [Bool.eq_iff_iff, beq_iff_eq, decide_eq_true_iff, ByteArray.toList_eq, ByteArray.toList_eq]
  constructor
  · intro h
    exact ByteArray.ext (Array.toList_inj.1 h)
  · rintro rfl
    rfl
/-- A row of texts in memory. -/
def SRow (w : World) (ao : Option Addr) (ss : List ByteArray) : Prop :=
  ss = [] ∨ ∃ b off, ao = some ⟨b, off, none⟩ ∧ b < w.heap.size ∧ ∀ i, i < ss.length → w.cell? ⟨b, off + i, none⟩ = some (.string (ss.getD i ⟨#[]⟩))
theorem SRow.below {w w' : World} {ao : Option Addr} {ss : List ByteArray} (h : SRow w ao ss) (hb : Below w.heap.size w w') : SRow w' ao ss := by
  rcases h with h | ⟨b, off, h1, h2, h3⟩
  · exact .inl h
  · exact .inr ⟨b, off, h1, Nat.lt_of_lt_of_le h2 hb.size, fun i hi => by rw [hb.cell (p := ⟨b, off + i, none⟩) h2]; exact h3 i hi⟩
theorem SRow.cells {w : World} {ao : Option Addr} {ss : List ByteArray} (h : SRow w ao ss) (hn : 0 < ss.length) : ∃ b off, ao = some ⟨b, off, none⟩ ∧ b < w.heap.size ∧ ∀ i, i < ss.length → w.cell? ⟨b, off + i, none⟩ = some (.string (ss.getD i ⟨#[]⟩)) := by
  rcases h with h | h
  · rw [h] at hn; exact absurd hn (by simp)
  · exact h
/-- A row of integers in memory. -/
def IRow (w : World) (ao : Option Addr) (zs : List Int) : Prop :=
  zs = [] ∨ ∃ b off, ao = some ⟨b, off, none⟩ ∧ b < w.heap.size ∧ ∀ i, i < zs.length → w.cell? ⟨b, off + i, none⟩ = some (.int .i64 (zs.getD i 0))
theorem IRow.below {w w' : World} {ao : Option Addr} {zs : List Int} (h : IRow w ao zs) (hb : Below w.heap.size w w') : IRow w' ao zs := by
  rcases h with h | ⟨b, off, h1, h2, h3⟩
  · exact .inl h
  · exact .inr ⟨b, off, h1, Nat.lt_of_lt_of_le h2 hb.size, fun i hi => by rw [hb.cell (p := ⟨b, off + i, none⟩) h2]; exact h3 i hi⟩
theorem IRow.cells {w : World} {ao : Option Addr} {zs : List Int} (h : IRow w ao zs) (hn : 0 < zs.length) : ∃ b off, ao = some ⟨b, off, none⟩ ∧ b < w.heap.size ∧ ∀ i, i < zs.length → w.cell? ⟨b, off + i, none⟩ = some (.int .i64 (zs.getD i 0)) := by
  rcases h with h | h
  · rw [h] at hn; exact absurd hn (by simp)
  · exact h
/-- How great a type may be. -/
structure TyOk (t : Ty) : Prop where
  nl : t.name.size ≤ 50
  wl : t.words.length ≤ 18
  kl : t.kids.length ≤ 18
  ws : ∀ s ∈ t.words, s.size ≤ 9223372036854775807
  nums : (-9223372036854775808 ≤ t.kind ∧ t.kind ≤ 9223372036854775807) ∧ -9223372036854775808 ≤ t.n ∧ t.n ≤ 9223372036854775807
  ks : ∀ k ∈ t.kids, -9223372036854775808 ≤ k ∧ k ≤ 9223372036854775807
/-- A type, as a value. -/
def tyV (t : Ty) (wo : Option Addr) (wc : Nat) (ko : Option Addr) (kc : Nat) : Value :=
  .agg #[.int .i64 t.kind, .string t.name, .int .i64 t.n, .slice wo t.words.length wc, .slice ko t.kids.length kc]
/-- Its rows in memory. -/
structure TyC (w : World) (wo ko : Option Addr) (t : Ty) : Prop where
  words : SRow w wo t.words
  kids : IRow w ko t.kids
  ok : TyOk t
theorem TyC.below {w w' : World} {wo ko : Option Addr} {t : Ty} (h : TyC w wo ko t) (hb : Below w.heap.size w w') : TyC w' wo ko t :=
  ⟨h.words.below hb, h.kids.below hb, h.ok⟩
/-- A type's five cells. -/
def TyAt (w : World) (b o : Nat) (t : Ty) : Prop :=
  ∃ wo wc ko kc, w.cell? ⟨b, o, none⟩ = some (.int .i64 t.kind) ∧ w.cell? ⟨b, o + 1, none⟩ = some (.string t.name) ∧ w.cell? ⟨b, o + 2, none⟩ = some (.int .i64 t.n) ∧
    w.cell? ⟨b, o + 3, none⟩ = some (.slice wo t.words.length wc) ∧ w.cell? ⟨b, o + 4, none⟩ = some (.slice ko t.kids.length kc) ∧ t.words.length ≤ wc ∧ t.kids.length ≤ kc ∧ TyC w wo ko t
theorem TyAt.below {w w' : World} {b o : Nat} {t : Ty} (h : TyAt w b o t) (hlt : b < w.heap.size) (hb : Below w.heap.size w w') : TyAt w' b o t := by
  obtain ⟨wo, wc, ko, kc, h1, h2, h3, h4, h5, h6, h7, h8⟩ := h
  refine ⟨wo, wc, ko, kc, ?_, ?_, ?_, ?_, ?_, h6, h7, h8.below hb⟩
  · rw [hb.cell (p := ⟨b, o, none⟩) hlt]; exact h1
  · rw [hb.cell (p := ⟨b, o + 1, none⟩) hlt]; exact h2
  · rw [hb.cell (p := ⟨b, o + 2, none⟩) hlt]; exact h3
  · rw [hb.cell (p := ⟨b, o + 3, none⟩) hlt]; exact h4
  · rw [hb.cell (p := ⟨b, o + 4, none⟩) hlt]; exact h5
/-- A row of types in memory. -/
def ARow (w : World) (ao : Option Addr) (l : List Ty) : Prop :=
  l = [] ∨ ∃ b off, ao = some ⟨b, off, none⟩ ∧ b < w.heap.size ∧ ∀ i (h : i < l.length), TyAt w b (off + i * 5) l[i]
theorem ARow.below {w w' : World} {ao : Option Addr} {l : List Ty} (h : ARow w ao l) (hb : Below w.heap.size w w') : ARow w' ao l := by
  rcases h with h | ⟨b, off, h1, h2, h3⟩
  · exact .inl h
  · exact .inr ⟨b, off, h1, Nat.lt_of_lt_of_le h2 hb.size, fun i hi => (h3 i hi).below h2 hb⟩
theorem ARow.cells {w : World} {ao : Option Addr} {l : List Ty} (h : ARow w ao l) (hn : 0 < l.length) : ∃ b off, ao = some ⟨b, off, none⟩ ∧ b < w.heap.size ∧ ∀ i (h : i < l.length), TyAt w b (off + i * 5) l[i] := by
  rcases h with h | h
  · rw [h] at hn; exact absurd hn (by simp)
  · exact h
theorem ARow.take {w : World} {ao : Option Addr} {l : List Ty} (h : ARow w ao l) (k : Nat) : ARow w ao (l.take k) := by
  rcases h with h | ⟨b, off, h1, h2, h3⟩
  · exact .inl (by rw [h]; simp)
  · refine .inr ⟨b, off, h1, h2, fun i hi => ?_⟩
    rw [List.getElem_take]
    exact h3 i (by rw [List.length_take] at hi; omega)
theorem ARow.ok {w : World} {ao : Option Addr} {l : List Ty} (h : ARow w ao l) : ∀ t ∈ l, TyOk t := by
  intro t ht
  obtain ⟨i, hi, rfl⟩ := List.getElem_of_mem ht
  rcases h with h | ⟨b, off, h1, h2, h3⟩
  · subst h; simp at hi
  · obtain ⟨_, _, _, _, _, _, _, _, _, _, _, h8⟩ := h3 i hi
    exact h8.ok
theorem cell5 {w : World} {b : Nat} {a0 a1 a2 a3 a4 : Value} {T : TypeId} (h : BlockAt w b #[a0, a1, a2, a3, a4] T) :
    w.cell? ⟨b, 0, none⟩ = some a0 ∧ w.cell? ⟨b, 1, none⟩ = some a1 ∧ w.cell? ⟨b, 2, none⟩ = some a2 ∧ w.cell? ⟨b, 3, none⟩ = some a3 ∧ w.cell? ⟨b, 4, none⟩ = some a4 :=
  ⟨h.cell 0, h.cell 1, h.cell 2, h.cell 3, h.cell 4⟩
theorem box_new {w w1 : World} {xs : Array Value} {T : TypeId} (h : w.alloc (.cells xs T) = w1) : BlockAt w1 w.heap.size xs T ∧ Below w.heap.size w w1 ∧ w1.heap.size = w.heap.size + 1 := by
  subst h
  exact ⟨BlockAt.new _ _ _, (Below.refl _ _).alloc (Nat.le_refl _) _, by simp⟩
theorem getD_mem {zs : List Int} {k : Nat} (h : k < zs.length) : zs.getD k 0 ∈ zs := by
  rw [List.getD_eq_getElem?_getD, List.getElem?_eq_getElem h]
  exact List.getElem_mem h
theorem getD_memS {zs : List ByteArray} {k : Nat} (h : k < zs.length) : zs.getD k ⟨#[]⟩ ∈ zs := by
  rw [List.getD_eq_getElem?_getD, List.getElem?_eq_getElem h]
  exact List.getElem_mem h
theorem getD_of {α : Type} {zs : List α} {d : α} {k : Nat} (h : k < zs.length) : zs.getD k d = zs[k] := by
  rw [List.getD_eq_getElem?_getD, List.getElem?_eq_getElem h]; rfl
theorem list_ext {α : Type} {d : α} {xs ys : List α} (hl : xs.length = ys.length) (h : ∀ j, j < xs.length → xs.getD j d = ys.getD j d) : xs = ys := by
  refine List.ext_getElem hl fun j h1 h2 => ?_
  have := h j h1
  rwa [getD_of h1, getD_of h2] at this
end Go.Proofs.YtleiaghegokjkaaGreatDoor
