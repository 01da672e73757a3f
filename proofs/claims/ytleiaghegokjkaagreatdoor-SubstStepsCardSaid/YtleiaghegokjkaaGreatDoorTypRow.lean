/- Rows of types of the call's own. -/
import Derived.Test.YtleiaghegokjkaaGreatDoorTypBase
import Derived.Test.YtleiaghegokjkaaGreatDoorRegA
import Derived.Maps.AppendAt
import Derived.Laws.AppendOwn
namespace Go.Proofs.YtleiaghegokjkaaGreatDoor
open Go.RowKit
set_option linter.unusedSimpArgs false
set_option linter.unusedVariables false

theorem info_parts {t : TypeId} {z : Value} {s b : Nat} (h : (Tryz.prog.info? t).map (fun i => (i.zero, i.size, i.bytes)) = some (some z, s, b)) : ∃ i, Tryz.prog.info? t = some i ∧ i.zero = some z ∧ i.size = s ∧ i.bytes = b := by
  obtain ⟨i, hi, hz⟩ := Option.map_eq_some_iff.1 h
  simp only [Prod.mk.injEq] at hz
  exact ⟨i, hi, hz.1, hz.2.1, hz.2.2⟩
theorem info_ty : (Tryz.prog.info? 41).map (fun i => (i.zero, i.size, i.bytes)) = some (some (.agg #[.int .i64 0, .string ⟨#[]⟩, .int .i64 0, .slice none 0 0, .slice none 0 0]), 5, 80) := by kernel_rfl
/-- A type, and where its rows are. -/
structure Tz where
  t : Ty
  wo : Option Addr
  wc : Nat
  ko : Option Addr
  kc : Nat
def tzC1 (z : Tz) : List Value := [.int .i64 z.t.kind, .string z.t.name, .int .i64 z.t.n, .slice z.wo z.t.words.length z.wc, .slice z.ko z.t.kids.length z.kc]
def tzC (l : List Tz) : List Value := l.flatMap tzC1
theorem tzC_len : ∀ l : List Tz, (tzC l).length = l.length * 5
  | [] => rfl
  | t :: r => by
    have ih := tzC_len r
    unfold tzC at *
    rw [List.flatMap_cons, List.length_append, ih, List.length_cons]
    show 5 + _ = _
    omega
theorem tzC_add (l : List Tz) (t : Tz) : tzC (l ++ [t]) = tzC l ++ tzC1 t := by unfold tzC; simp
theorem tzC_app (l r : List Tz) : tzC (l ++ r) = tzC l ++ tzC r := by unfold tzC; simp
theorem tzC_at : ∀ (l : List Tz) (k : Nat) (h : k < l.length), (tzC l)[k * 5]? = some (.int .i64 l[k].t.kind) ∧ (tzC l)[k * 5 + 1]? = some (.string l[k].t.name) ∧ (tzC l)[k * 5 + 2]? = some (.int .i64 l[k].t.n) ∧
    (tzC l)[k * 5 + 3]? = some (.slice l[k].wo l[k].t.words.length l[k].wc) ∧ (tzC l)[k * 5 + 4]? = some (.slice l[k].ko l[k].t.kids.length l[k].kc)
  | [], k, h => absurd h (Nat.not_lt_zero _)
  | t :: r, 0, h => ⟨rfl, rfl, rfl, rfl, rfl⟩
  | t :: r, k + 1, h => by
    have ih := tzC_at r k (Nat.lt_of_succ_lt_succ h)
    have e : ∀ j, (tzC (t :: r))[(k + 1) * 5 + j]? = (tzC r)[k * 5 + j]? := fun j => by
      unfold tzC
      rw [List.flatMap_cons, List.getElem?_append_right (by show 5 ≤ _; omega)]
      exact congrArg (fun n => (r.flatMap tzC1)[n]?) (show (k + 1) * 5 + j - 5 = k * 5 + j by omega)
    exact ⟨(e 0).trans ih.1, (e 1).trans ih.2.1, (e 2).trans ih.2.2.1, (e 3).trans ih.2.2.2.1, (e 4).trans ih.2.2.2.2⟩
/-- A row of the call's own that holds these types. -/
def OwnZ (w : World) (base : Nat) (v : Value) (l : List Tz) : Prop := w.ownsRow base 41 5 v l.length (tzC l)
/-- Their own rows are there. -/
def InZ (w : World) (z : Tz) : Prop := z.t.words.length ≤ z.wc ∧ z.t.kids.length ≤ z.kc ∧ TyC w z.wo z.ko z.t
theorem InZ.below {w w' : World} {z : Tz} (h : InZ w z) (hb : Below w.heap.size w w') : InZ w' z := ⟨h.1, h.2.1, h.2.2.below hb⟩
theorem own_nil (w : World) (base : Nat) : OwnZ w base (.slice none 0 0) [] := World.ownsRow_nil _ _ _ _
theorem own_arow {w : World} {base : Nat} {v : Value} {l : List Tz} (h : OwnZ w base v l) (hz : ∀ z ∈ l, InZ w z) : ∃ ao cap, v = .slice ao (l.map (·.t)).length cap ∧ ARow w ao (l.map (·.t)) ∧ (l.map (·.t)).length ≤ cap := by
  obtain ⟨h1, h2⟩ := h
  rcases h2 with ⟨rfl, h0⟩ | ⟨g, cap, cur, rfl, hg, hcur, hcap1, hcap2, hcs, htk⟩
  · exact ⟨none, 0, by rw [List.length_map, h0], .inl (by rw [List.map_eq_nil_iff]; exact List.eq_nil_of_length_eq_zero h0), by rw [List.length_map, h0]; exact Nat.le_refl _⟩
  · refine ⟨_, _, by rw [List.length_map], .inr ⟨g, 0, rfl, (Array.getElem?_eq_some_iff.1 hcur).1, fun k hk => ?_⟩, by rw [List.length_map]; exact hcap1⟩
    rw [List.length_map] at hk
    obtain ⟨c0, c1, c2, c3, c4⟩ := tzC_at l k hk
    have e : ∀ j, j < l.length * 5 → w.cell? ⟨g, j, none⟩ = (tzC l)[j]? := fun j hj => by
      simp only [World.cell?, hcur, Option.isSome_none, Bool.false_eq_true, if_false]
      rw [← htk, List.getElem?_take_of_lt hj]
      simp
    obtain ⟨i1, i2, i3⟩ := hz _ (List.getElem_mem hk)
    rw [List.getElem_map, Nat.zero_add]
    exact ⟨l[k].wo, l[k].wc, l[k].ko, l[k].kc, (e _ (by omega)).trans c0, (e _ (by omega)).trans c1, (e _ (by omega)).trans c2, (e _ (by omega)).trans c3, (e _ (by omega)).trans c4, i1, i2, i3⟩
theorem OwnZ.lower {w : World} {a b : Nat} {v : Value} {l : List Tz} (h : OwnZ w b v l) (hb : a ≤ b) : OwnZ w a v l := by
  obtain ⟨h1, h2⟩ := h
  refine ⟨h1, ?_⟩
  rcases h2 with h2 | ⟨g, cap, cur, hv, hg, rest⟩
  · exact .inl h2
  · exact .inr ⟨g, cap, cur, hv, Nat.le_trans hb hg, rest⟩
theorem OwnZ.kept {w w' : World} {base : Nat} {v : Value} {l : List Tz} (h : OwnZ w base v l) (hb : Below w.heap.size w w') : OwnZ w' base v l := by
  obtain ⟨h1, h2⟩ := h
  refine ⟨h1, ?_⟩
  rcases h2 with h2 | ⟨g, cap, cur, hv, hg, hcur, rest⟩
  · exact .inl h2
  · exact .inr ⟨g, cap, cur, hv, hg, by rw [hb.block _ (Array.getElem?_eq_some_iff.1 hcur).1]; exact hcur, rest⟩
theorem cell_new5 (w : World) (x0 x1 x2 x3 x4 : Value) (t : TypeId) : ∀ (j : Nat) (u : Value), [x0, x1, x2, x3, x4][j]? = some u → (w.alloc (.cells #[x0, x1, x2, x3, x4] t)).cell? ((⟨w.heap.size, 0, none⟩ : Addr).add j) = some u := by
  intro j u hu
  have hadd : (⟨w.heap.size, 0, none⟩ : Addr).add j = ⟨w.heap.size, j, none⟩ := by unfold Addr.add; split <;> simp_all
  rw [hadd, World.cell?_alloc_at _ _ _ _ rfl]
  simpa using hu
theorem own_more {w' : World} {base : Nat} {v' : Value} {l : List Tz} {t : Tz} {n : Nat} (hn : n = l.length + 1) (h : w'.ownsRow base 41 5 v' n (tzC l ++ tzC1 t)) : OwnZ w' base v' (l ++ [t]) := by
  subst hn
  unfold OwnZ
  rw [tzC_add, List.length_append]
  exact h
theorem block_grown {w w' : World} {b : Nat} {xs : Array Value} {T : TypeId} {row : Option Nat} (hg : w.grownBy w' row) (h : BlockAt w b xs T) (hn : row ≠ some b) : BlockAt w' b xs T := by
  unfold BlockAt at *
  rw [hg.block b (Array.getElem?_eq_some_iff.1 h).1 (fun e => hn e.symm)]
  exact h
theorem own_not {w : World} {base : Nat} {v : Value} {l : List Tz} (h : OwnZ w base v l) {b : Nat} (hb : b < base ∨ w.heap.size ≤ b) : v.ownBlock ≠ some b := fun he => by
  have := World.ownsRow.lt h b he
  omega
theorem cell_grown {w w' : World} {row : Option Nat} (hg : w.grownBy w' row) {b k : Nat} (hb : b < w.heap.size) (hn : row ≠ some b) : w'.cell? ⟨b, k, none⟩ = w.cell? ⟨b, k, none⟩ := by
  unfold World.cell?
  rw [hg.block b hb (fun e => hn e.symm)]
/-- What is there behind an append to a row of the call's own. -/
theorem push_all {W wr w1 : World} {base : Nat} {v v' : Value} {l r : List Tz} {o : Obj} {n : Nat} (hn : n = l.length + r.length) (hW : W.heap.size ≤ base) (ho : OwnZ wr base v l) (hB : Below W.heap.size W wr)
    (h1 : w1.ownsRow base 41 5 v' n (tzC l ++ tzC r)) (hg : (wr.alloc o).grownBy w1 v.ownBlock) :
    OwnZ w1 base v' (l ++ r) ∧ Below W.heap.size W w1 ∧ ∀ b, b < wr.heap.size → v.ownBlock ≠ some b → w1.heap[b]? = wr.heap[b]? := by
  have ba : Below wr.heap.size wr (wr.alloc o) := (Below.refl _ _).alloc (Nat.le_refl _) _
  have hb2 := hB.trans (ba.mono hB.size)
  refine ⟨?_, hb2.grown hg (by have := hb2.size; omega) (fun k hk => ?_), fun b hb hne => ?_⟩
  · subst hn
    unfold OwnZ
    rw [tzC_app, List.length_append]
    exact h1
  · have := World.ownsRow.lt ho k hk
    omega
  · rw [hg.block b (by simp; omega) (fun e => hne e.symm)]
    exact ba.block b hb
end Go.Proofs.YtleiaghegokjkaaGreatDoor
