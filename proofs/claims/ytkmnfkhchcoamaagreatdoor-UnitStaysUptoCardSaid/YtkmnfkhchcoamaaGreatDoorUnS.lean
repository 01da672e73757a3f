import Derived.Test.YtkmnfkhchcoamaaGreatDoorSubA
import Derived.Test.YtkmnfkhchcoamaaGreatDoorTypRefAdd
import Derived.Test.YtkmnfkhchcoamaaGreatDoorSubG
import Derived.Test.YtkmnfkhchcoamaaGreatDoorTypPAdd
import Derived.Test.YtkmnfkhchcoamaaGreatDoorTypPF
import Derived.Test.YtkmnfkhchcoamaaGreatDoorTypPC
import Derived.Test.YtkmnfkhchcoamaaGreatDoorRegT
import Derived.ArgAppend
import Derived.BigQuiet
import Derived.Deep.QuietTactic
/- Rows that lie in blocks of a set. -/
namespace Go.Proofs.YtkmnfkhchcoamaaGreatDoor
open Go.RowKit
set_option linter.unusedSimpArgs false
set_option linter.unusedVariables false

/-- Rows that lie in blocks of Sb. -/
def SRowS (Sb : Nat → Prop) (w : World) (ao : Option Addr) (ss : List ByteArray) : Prop :=
  ss = [] ∨ ∃ b off, ao = some ⟨b, off, none⟩ ∧ b < w.heap.size ∧ Sb b ∧ ∀ i, i < ss.length → w.cell? ⟨b, off + i, none⟩ = some (.string (ss.getD i ⟨#[]⟩))
def IRowS (Sb : Nat → Prop) (w : World) (ao : Option Addr) (zs : List Int) : Prop :=
  zs = [] ∨ ∃ b off, ao = some ⟨b, off, none⟩ ∧ b < w.heap.size ∧ Sb b ∧ ∀ i, i < zs.length → w.cell? ⟨b, off + i, none⟩ = some (.int .i64 (zs.getD i 0))
structure TyCS (Sb : Nat → Prop) (w : World) (wo ko : Option Addr) (t : Ty) : Prop where
  words : SRowS Sb w wo t.words
  kids : IRowS Sb w ko t.kids
  ok : TyOk t
def ARowS (Sb : Nat → Prop) (w : World) (ao : Option Addr) (l : List Ty) : Prop :=
  l = [] ∨ ∃ b off, ao = some ⟨b, off, none⟩ ∧ b < w.heap.size ∧ Sb b ∧ ∀ i (h : i < l.length), ∃ wo wc ko kc, w.cell? ⟨b, off + i * 5, none⟩ = some (.int .i64 l[i].kind) ∧ w.cell? ⟨b, off + i * 5 + 1, none⟩ = some (.string l[i].name) ∧ w.cell? ⟨b, off + i * 5 + 2, none⟩ = some (.int .i64 l[i].n) ∧
    w.cell? ⟨b, off + i * 5 + 3, none⟩ = some (.slice wo l[i].words.length wc) ∧ w.cell? ⟨b, off + i * 5 + 4, none⟩ = some (.slice ko l[i].kids.length kc) ∧ l[i].words.length ≤ wc ∧ l[i].kids.length ≤ kc ∧ TyCS Sb w wo ko l[i]
theorem TyCS.out {Sb : Nat → Prop} {w : World} {wo ko : Option Addr} {t : Ty} (h : TyCS Sb w wo ko t) : TyC w wo ko t := by
  obtain ⟨h1, h2, h3⟩ := h
  refine ⟨?_, ?_, h3⟩
  · rcases h1 with h | ⟨b, off, e, l, _, cc⟩
    · exact .inl h
    · exact .inr ⟨b, off, e, l, cc⟩
  · rcases h2 with h | ⟨b, off, e, l, _, cc⟩
    · exact .inl h
    · exact .inr ⟨b, off, e, l, cc⟩
theorem ARowS.out {Sb : Nat → Prop} {w : World} {ao : Option Addr} {l : List Ty} (h : ARowS Sb w ao l) : ARow w ao l := by
  rcases h with h | ⟨b, off, e, hl, _, cc⟩
  · exact .inl h
  · refine .inr ⟨b, off, e, hl, fun i hi => ?_⟩
    obtain ⟨wo, wc, ko, kc, h1, h2, h3, h4, h5, h6, h7, h8⟩ := cc i hi
    exact ⟨wo, wc, ko, kc, h1, h2, h3, h4, h5, h6, h7, h8.out⟩
/-- The cells of blocks of Sb are the same. -/
def SameS (Sb : Nat → Prop) (w w' : World) : Prop := w.heap.size ≤ w'.heap.size ∧ ∀ b o, b < w.heap.size → Sb b → w'.cell? ⟨b, o, none⟩ = w.cell? ⟨b, o, none⟩
theorem SameS.refl (Sb : Nat → Prop) (w : World) : SameS Sb w w := ⟨Nat.le_refl _, fun _ _ _ _ => rfl⟩
theorem SameS.trans {Sb : Nat → Prop} {w w1 w2 : World} (h : SameS Sb w w1) (h2 : SameS Sb w1 w2) : SameS Sb w w2 := ⟨Nat.le_trans h.1 h2.1, fun b o hb hc => (h2.2 b o (Nat.lt_of_lt_of_le hb h.1) hc).trans (h.2 b o hb hc)⟩
theorem SameS.below {Sb : Nat → Prop} {w w' : World} (h : Below w.heap.size w w') : SameS Sb w w' := ⟨h.size, fun b o hb _ => h.cell hb⟩
theorem SameS.set {Sb : Nat → Prop} {c k : Nat} {w w' : World} {v : Value} (hc : ¬ Sb c) (h : w.setCell ⟨c, k, none⟩ v = w') : SameS Sb w w' := by
  subst h
  exact ⟨by simp, fun b o hb hs => World.cell?_of_block (a := ⟨b, o, none⟩) (Below.heap_setCell _ _ _ _ (fun (e : b = c) => hc (by rw [← e]; exact hs)))⟩
theorem SRowS.out {Sb : Nat → Prop} {w : World} {ao : Option Addr} {ss : List ByteArray} (h : SRowS Sb w ao ss) : SRow w ao ss := by
  rcases h with h | ⟨b, off, e, l, _, cc⟩
  · exact .inl h
  · exact .inr ⟨b, off, e, l, cc⟩
theorem IRowS.out {Sb : Nat → Prop} {w : World} {ao : Option Addr} {zs : List Int} (h : IRowS Sb w ao zs) : IRow w ao zs := by
  rcases h with h | ⟨b, off, e, l, _, cc⟩
  · exact .inl h
  · exact .inr ⟨b, off, e, l, cc⟩
theorem SRowS.same {Sb : Nat → Prop} {w w' : World} {ao : Option Addr} {ss : List ByteArray} (h : SRowS Sb w ao ss) (hs : SameS Sb w w') : SRowS Sb w' ao ss := by
  rcases h with h | ⟨b, off, e, l, n, cc⟩
  · exact .inl h
  · exact .inr ⟨b, off, e, Nat.lt_of_lt_of_le l hs.1, n, fun i hi => (hs.2 _ _ l n).trans (cc i hi)⟩
theorem IRowS.same {Sb : Nat → Prop} {w w' : World} {ao : Option Addr} {zs : List Int} (h : IRowS Sb w ao zs) (hs : SameS Sb w w') : IRowS Sb w' ao zs := by
  rcases h with h | ⟨b, off, e, l, n, cc⟩
  · exact .inl h
  · exact .inr ⟨b, off, e, Nat.lt_of_lt_of_le l hs.1, n, fun i hi => (hs.2 _ _ l n).trans (cc i hi)⟩
theorem SRowS.fresh {Sb : Nat → Prop} {w : World} {ao : Option Addr} {ss : List ByteArray} (h : SRow w ao ss) (hS : ∀ b, b < w.heap.size → Sb b) : SRowS Sb w ao ss := by
  rcases h with h | ⟨b, off, e, l, cc⟩
  · exact .inl h
  · exact .inr ⟨b, off, e, l, hS _ l, cc⟩
theorem IRowS.fresh {Sb : Nat → Prop} {w : World} {ao : Option Addr} {zs : List Int} (h : IRow w ao zs) (hS : ∀ b, b < w.heap.size → Sb b) : IRowS Sb w ao zs := by
  rcases h with h | ⟨b, off, e, l, cc⟩
  · exact .inl h
  · exact .inr ⟨b, off, e, l, hS _ l, cc⟩
theorem TyCS.fresh {Sb : Nat → Prop} {w : World} {wo ko : Option Addr} {t : Ty} (h : TyC w wo ko t) (hS : ∀ b, b < w.heap.size → Sb b) : TyCS Sb w wo ko t := ⟨.fresh h.words hS, .fresh h.kids hS, h.ok⟩
theorem TyCS.same {Sb : Nat → Prop} {w w' : World} {wo ko : Option Addr} {t : Ty} (h : TyCS Sb w wo ko t) (hs : SameS Sb w w') : TyCS Sb w' wo ko t := by
  obtain ⟨h1, h2, h3⟩ := h
  refine ⟨?_, ?_, h3⟩
  · rcases h1 with h | ⟨b, off, e, l, n, cc⟩
    · exact .inl h
    · exact .inr ⟨b, off, e, Nat.lt_of_lt_of_le l hs.1, n, fun i hi => (hs.2 _ _ l n).trans (cc i hi)⟩
  · rcases h2 with h | ⟨b, off, e, l, n, cc⟩
    · exact .inl h
    · exact .inr ⟨b, off, e, Nat.lt_of_lt_of_le l hs.1, n, fun i hi => (hs.2 _ _ l n).trans (cc i hi)⟩
theorem ARowS.same {Sb : Nat → Prop} {w w' : World} {ao : Option Addr} {l : List Ty} (h : ARowS Sb w ao l) (hs : SameS Sb w w') : ARowS Sb w' ao l := by
  rcases h with h | ⟨b, off, e, hl, n, cc⟩
  · exact .inl h
  · refine .inr ⟨b, off, e, Nat.lt_of_lt_of_le hl hs.1, n, fun i hi => ?_⟩
    obtain ⟨wo, wc, ko, kc, h1, h2, h3, h4, h5, h6, h7, h8⟩ := cc i hi
    exact ⟨wo, wc, ko, kc, (hs.2 _ _ hl n).trans h1, (hs.2 _ _ hl n).trans h2, (hs.2 _ _ hl n).trans h3, (hs.2 _ _ hl n).trans h4, (hs.2 _ _ hl n).trans h5, h6, h7, h8.same hs⟩
theorem own_arowS {Sb : Nat → Prop} {w : World} {base : Nat} {v : Value} {l : List Tz} (h : OwnZ w base v l) (hc : ∀ b, base ≤ b → Sb b) (hz : ∀ z ∈ l, z.t.words.length ≤ z.wc ∧ z.t.kids.length ≤ z.kc ∧ TyCS Sb w z.wo z.ko z.t) : ∃ ao cap, v = .slice ao (l.map (·.t)).length cap ∧ ARowS Sb w ao (l.map (·.t)) ∧ (l.map (·.t)).length ≤ cap := by
  obtain ⟨h1, h2⟩ := h
  rcases h2 with ⟨rfl, h0⟩ | ⟨g, cap, cur, rfl, hg, hcur, hcap1, hcap2, hcs, htk⟩
  · exact ⟨none, 0, by rw [List.length_map, h0], .inl (by rw [List.map_eq_nil_iff]; exact List.eq_nil_of_length_eq_zero h0), by rw [List.length_map, h0]; exact Nat.le_refl _⟩
  · refine ⟨_, _, by rw [List.length_map], .inr ⟨g, 0, rfl, (Array.getElem?_eq_some_iff.1 hcur).1, hc _ hg, fun k hk => ?_⟩, by rw [List.length_map]; exact hcap1⟩
    rw [List.length_map] at hk
    obtain ⟨c0, c1, c2, c3, c4⟩ := tzC_at l k hk
    have e : ∀ j, j < l.length * 5 → w.cell? ⟨g, j, none⟩ = (tzC l)[j]? := fun j hj => by
      simp only [World.cell?, hcur, Option.isSome_none, Bool.false_eq_true, if_false]
      rw [← htk, List.getElem?_take_of_lt hj]
      simp
    obtain ⟨i1, i2, i3⟩ := hz _ (List.getElem_mem hk)
    rw [List.getElem_map, Nat.zero_add]
    exact ⟨l[k].wo, l[k].wc, l[k].ko, l[k].kc, (e _ (by omega)).trans c0, (e _ (by omega)).trans c1, (e _ (by omega)).trans c2, (e _ (by omega)).trans c3, (e _ (by omega)).trans c4, i1, i2, i3⟩
def InZS (Sb : Nat → Prop) (w : World) (z : Tz) : Prop := z.t.words.length ≤ z.wc ∧ z.t.kids.length ≤ z.kc ∧ TyCS Sb w z.wo z.ko z.t
theorem InZS.same {Sb : Nat → Prop} {w w' : World} {z : Tz} (h : InZS Sb w z) (hs : SameS Sb w w') : InZS Sb w' z := ⟨h.1, h.2.1, h.2.2.same hs⟩
theorem InZS.out {Sb : Nat → Prop} {w : World} {z : Tz} (h : InZS Sb w z) : InZ w z := ⟨h.1, h.2.1, h.2.2.out⟩
/-- A type's five cells, its rows in blocks of Sb. -/
def TyAtS (Sb : Nat → Prop) (w : World) (b o : Nat) (t : Ty) : Prop :=
  ∃ wo wc ko kc, w.cell? ⟨b, o, none⟩ = some (.int .i64 t.kind) ∧ w.cell? ⟨b, o + 1, none⟩ = some (.string t.name) ∧ w.cell? ⟨b, o + 2, none⟩ = some (.int .i64 t.n) ∧
    w.cell? ⟨b, o + 3, none⟩ = some (.slice wo t.words.length wc) ∧ w.cell? ⟨b, o + 4, none⟩ = some (.slice ko t.kids.length kc) ∧ t.words.length ≤ wc ∧ t.kids.length ≤ kc ∧ TyCS Sb w wo ko t
theorem ARowS.cells {Sb : Nat → Prop} {w : World} {ao : Option Addr} {l : List Ty} (h : ARowS Sb w ao l) (hn : 0 < l.length) : ∃ b off, ao = some ⟨b, off, none⟩ ∧ b < w.heap.size ∧ ∀ i (h : i < l.length), TyAtS Sb w b (off + i * 5) l[i] := by
  rcases h with h | ⟨b, off, e, h1, h2, h3⟩
  · rw [h] at hn; exact absurd hn (by simp)
  · exact ⟨b, off, e, h1, h3⟩
theorem arow_zsS {Sb : Nat → Prop} {w : World} {b off : Nat} {l : List Ty} (h : ∀ i (h : i < l.length), TyAtS Sb w b (off + i * 5) l[i]) : ∀ n, n ≤ l.length → ∃ zs : List Tz, zs.map (·.t) = l.take n ∧ zs.length = n ∧ (∀ z ∈ zs, InZS Sb w z) ∧ ∀ j u, (tzC zs)[j]? = some u → w.cell? ⟨b, off + j, none⟩ = some u
  | 0, _ => ⟨[], by simp, rfl, by simp, fun j u hu => by simp [tzC] at hu⟩
  | n + 1, hn => by
    obtain ⟨zs, h1, h2, h3, h4⟩ := arow_zsS h n (by omega)
    obtain ⟨wo, wc, ko, kc, c0, c1, c2, c3, c4, q1, q2, q3⟩ := h n (by omega)
    refine ⟨zs ++ [⟨l[n], wo, wc, ko, kc⟩], ?_, by rw [List.length_append, h2]; rfl, fun z hz => ?_, fun j u hu => ?_⟩
    · rw [List.map_append, h1, List.take_add_one, List.getElem?_eq_getElem (by omega)]; rfl
    · rcases List.mem_append.1 hz with hz | hz
      · exact h3 z hz
      · rw [List.mem_singleton.1 hz]; exact ⟨q1, q2, q3⟩
    · rw [tzC_add] at hu
      have hl := tzC_len zs
      rw [h2] at hl
      by_cases hj : j < n * 5
      · rw [List.getElem?_append_left (by omega)] at hu
        exact h4 j u hu
      · rw [List.getElem?_append_right (by omega), hl] at hu
        obtain ⟨r, hr⟩ : ∃ r, j = n * 5 + r := ⟨j - n * 5, by omega⟩
        subst hr
        rw [show n * 5 + r - n * 5 = r by omega] at hu
        rw [← Nat.add_assoc]
        match r, hu with
        | 0, hu => simp [tzC1] at hu; rw [← hu]; exact c0
        | 1, hu => simp [tzC1] at hu; rw [← hu]; exact c1
        | 2, hu => simp [tzC1] at hu; rw [← hu]; exact c2
        | 3, hu => simp [tzC1] at hu; rw [← hu]; exact c3
        | 4, hu => simp [tzC1] at hu; rw [← hu]; exact c4
        | r + 5, hu => simp [tzC1] at hu
theorem ARowS.fresh {Sb : Nat → Prop} {w : World} {ao : Option Addr} {l : List Ty} (h : ARow w ao l) (hS : ∀ b, b < w.heap.size → Sb b) : ARowS Sb w ao l := by
  rcases h with h | ⟨b, off, e, h1, h2⟩
  · exact .inl h
  · refine .inr ⟨b, off, e, h1, hS _ h1, fun i hi => ?_⟩
    obtain ⟨wo, wc, ko, kc, c0, c1, c2, c3, c4, g1, g2, g3⟩ := h2 i hi
    refine ⟨wo, wc, ko, kc, c0, c1, c2, c3, c4, g1, g2, ?_, ?_, g3.ok⟩
    · rcases g3.words with g | ⟨b, off, e, l, cc⟩
      · exact .inl g
      · exact .inr ⟨b, off, e, l, hS _ l, cc⟩
    · rcases g3.kids with g | ⟨b, off, e, l, cc⟩
      · exact .inl g
      · exact .inr ⟨b, off, e, l, hS _ l, cc⟩
end Go.Proofs.YtkmnfkhchcoamaaGreatDoor
/- The program's Add, put and Subst, their rows in blocks of a set. -/
namespace Go.Proofs.YtkmnfkhchcoamaaGreatDoor
open Go.RowKit
set_option linter.unusedSimpArgs false
set_option linter.unusedVariables false

/-- What Add and Subst give, apart from two blocks. -/
def PAddS (Sb : Nat → Prop) (w : World) (R : List Ty × Int × Int) (e : Ending) (w' : World) : Prop := ∃ ao cap, e = .returned (.tuple #[.slice ao R.1.length cap, .int .i64 R.2.1, .int .i64 R.2.2]) ∧ ARowS Sb w' ao R.1 ∧ R.1.length ≤ cap ∧ Below w.heap.size w w'
theorem padds_none {Sb : Nat → Prop} {w w' : World} {R : List Ty × Int × Int} {e : Int} (h : R = ([], 0, e)) (hb : Below w.heap.size w w') : PAddS Sb w R (.returned (.tuple #[.slice none 0 0, .int .i64 0, .int .i64 e])) w' := by
  subst h
  exact ⟨none, 0, rfl, .inl rfl, Nat.le_refl _, hb⟩
theorem padds_up {Sb : Nat → Prop} {w w1 w' : World} {R : List Ty × Int × Int} {e : Ending} (hb : Below w.heap.size w w1) (h : PAddS Sb w1 R e w') : PAddS Sb w R e w' := by
  obtain ⟨ao, cap, h1, h2, h3, h4⟩ := h
  exact ⟨ao, cap, h1, h2, h3, hb.trans (h4.mono hb.size)⟩
theorem srow_aps {Sb : Nat → Prop} {w : World} {ao : Option Addr} {ss : List ByteArray} (h : SRow w ao ss) (hn : ∀ a, ao = some a → Sb a.block) : SRowS Sb w ao ss := by
  rcases h with h | ⟨b, off, e, l, cc⟩
  · exact .inl h
  · exact .inr ⟨b, off, e, l, hn _ e, cc⟩
theorem irow_aps {Sb : Nat → Prop} {w : World} {ao : Option Addr} {zs : List Int} (h : IRow w ao zs) (hn : ∀ a, ao = some a → Sb a.block) : IRowS Sb w ao zs := by
  rcases h with h | ⟨b, off, e, l, cc⟩
  · exact .inl h
  · exact .inr ⟨b, off, e, l, hn _ e, cc⟩
theorem srowS_map {Sb : Nat → Prop} {w w' : World} {mb : Nat} {ao : Option Addr} {ss : List ByteArray} (hm : ∀ a v, w.cell? a = some v → a.block ≠ mb) (hg : w.grownBy w' (some mb)) (h : SRowS Sb w ao ss) : SRowS Sb w' ao ss := by
  rcases h with h | ⟨b, off, h1, h2, n, h3⟩
  · exact .inl h
  · exact .inr ⟨b, off, h1, Nat.lt_of_lt_of_le h2 hg.size, n, fun i hi => hg.cell (h3 i hi) (fun e => hm _ _ (h3 i hi) (by injection e))⟩
theorem irowS_map {Sb : Nat → Prop} {w w' : World} {mb : Nat} {ao : Option Addr} {zs : List Int} (hm : ∀ a v, w.cell? a = some v → a.block ≠ mb) (hg : w.grownBy w' (some mb)) (h : IRowS Sb w ao zs) : IRowS Sb w' ao zs := by
  rcases h with h | ⟨b, off, h1, h2, n, h3⟩
  · exact .inl h
  · exact .inr ⟨b, off, h1, Nat.lt_of_lt_of_le h2 hg.size, n, fun i hi => hg.cell (h3 i hi) (fun e => hm _ _ (h3 i hi) (by injection e))⟩
theorem arowS_map {Sb : Nat → Prop} {w w' : World} {mb : Nat} {ao : Option Addr} {l : List Ty} (hm : ∀ a v, w.cell? a = some v → a.block ≠ mb) (hg : w.grownBy w' (some mb)) (h : ARowS Sb w ao l) : ARowS Sb w' ao l := by
  rcases h with h | ⟨b, off, h1, h2, n, h3⟩
  · exact .inl h
  · refine .inr ⟨b, off, h1, Nat.lt_of_lt_of_le h2 hg.size, n, fun i hi => ?_⟩
    obtain ⟨wo, wc, ko, kc, c0, c1, c2, c3, c4, g1, g2, g3⟩ := h3 i hi
    have kp : ∀ {a : Addr} {v : Value}, w.cell? a = some v → w'.cell? a = some v := fun {a v} hc => hg.cell hc (fun e => hm _ _ hc (by injection e))
    exact ⟨wo, wc, ko, kc, kp c0, kp c1, kp c2, kp c3, kp c4, g1, g2, ⟨srowS_map hm hg g3.words, irowS_map hm hg g3.kids, g3.ok⟩⟩
set_option maxHeartbeats 16000000 in
set_option maxRecDepth 100000 in
theorem padd_aps (Sb : Nat → Prop) (l : List Ty) (ao : Option Addr) (ac : Nat) (t : Ty) (wo ko : Option Addr) (wc kc : Nat) (w : World) (hcd : ∀ b, w.heap.size ≤ b → Sb b) (hl : ARowS Sb w ao l) (ll : l.length ≤ 1000) (hac : l.length ≤ ac) (hE : Env w) (ht : TyC w wo ko t) (hsm : TySm t) (hwc : t.words.length ≤ wc) (hkc : t.kids.length ≤ kc) :
    Calls Tryz.prog 34 #[.slice ao l.length ac, tyV t wo wc ko kc] w (PAddS Sb w (paddT l t)) := by
  obtain ⟨R, hR⟩ : ∃ R, paddT l t = R := ⟨_, rfl⟩
  rw [hR]
  have HR := Lib.hid hR
  obtain ⟨w1, h1⟩ : ∃ w1, w.alloc (.cells #[.int .i64 t.kind, .string t.name, .int .i64 t.n, .slice wo t.words.length wc, .slice ko t.kids.length kc] 38) = w1 := ⟨_, rfl⟩
  obtain ⟨k1, q1, z1⟩ := box_new h1
  have BW := Lib.hid q1
  have K1 := Lib.hid k1
  have HCD := Lib.hid hcd
  have HA := Lib.hid (hl.out.below q1)
  have HA0 := Lib.hid hl
  have HT := Lib.hid (ht.below q1)
  have HE := Lib.hid (hE.below q1)
  have HIDX0 := index_any l ao ac w1 HA.out ll hac HE.out
  have HFND0 := fun (hr : rightT l = true) (mb : Nat) W (h : Below w1.heap.size w1 W) (hm : KMap W mb (pairs l l.length)) => find_any l ao ac mb t wo ko wc kc W (HA.out.below h) hr hac (HE.out.below h) hm (HT.out.below h) hsm hwc hkc
  have HMD0 := fun W (h : Below w1.heap.size w1 W) => pmade_any l ao ac t wo ko wc kc W (HA.out.below h) (HT.out.below h) ll hwc (HE.out.below h).max
  obtain ⟨n, hn⟩ : ∃ n, l.length = n := ⟨_, rfl⟩
  have HN := Lib.hid hn
  unfold tyV at HFND0 HMD0 ⊢
  rw [hn] at HIDX0 HFND0 HMD0 ll hac ⊢
  obtain ⟨rt, hrt⟩ : ∃ rt, rightT l = rt := ⟨_, rfl⟩
  obtain ⟨pl, hpl⟩ : ∃ p, atT l t = p := ⟨_, rfl⟩
  obtain ⟨md, hmd⟩ : ∃ m, madeB l t = m := ⟨_, rfl⟩
  have HRT := Lib.hid hrt
  have HPL := Lib.hid hpl
  have HMDB := Lib.hid hmd
  rw [hpl] at HFND0
  rw [hmd] at HMD0
  have HIDX := Lib.hid HIDX0
  have HFND := Lib.hid HFND0
  have HMD := Lib.hid HMD0
  have HWK := Lib.hid (And.intro hwc hkc)
  obtain ⟨c0, c1, c2, c3, c4⟩ := cell5 k1
  have Z1 := Lib.hid z1
  clear hR hn hl hcd hE ht hwc hkc k1 q1 z1 HIDX0 HFND0 HMD0 hrt hpl hmd
  go_enter Tryz.func34, Tryz.ntmps34
  go_wp2_with fail
  refine HIDX.out.mono ?_
  rintro e w2 ⟨mo, rfl, b2, hm2⟩
  rw [HRT.out] at hm2 ⊢
  have B2 := Lib.hid b2
  have BE2 := Lib.hid (BW.out.trans (b2.mono BW.out.size))
  clear b2 c0 c1 c2 c3 c4 h1
  cases rt
  · have Hp := Lib.hid (show R = ([], 0, 1) by rw [← HR.out]; exact padd_wrong HRT.out)
    clear hm2
    go_wp2_with fail
    go_ret3
    exact padds_none Hp.out BE2.out
  obtain ⟨mb, rfl, hmb, hkm⟩ := hm2 rfl
  have HKM := Lib.hid hkm
  clear hm2 hkm hmb
  obtain ⟨c0, c1, c2, c3, c4⟩ := cell5 (K1.out.below B2.out)
  go_wp2_with fail
  refine (HFND.out HRT.out mb w2 B2.out (by rw [HN.out] at HKM; exact HKM.out)).mono ?_
  rintro e w3 ⟨rfl, b3⟩
  have B3 := Lib.hid (B2.out.trans (b3.mono B2.out.size))
  have BE3 := Lib.hid (BE2.out.trans (b3.mono BE2.out.size))
  clear b3 c0 c1 c2 c3 c4
  by_cases hpos : 0 ≤ pl
  · have Hp := Lib.hid (show R = (l, pl, 0) by rw [← HR.out, padd_there HRT.out (by rw [HPL.out]; exact hpos), HPL.out])
    rw [if_pos hpos, decide_eq_true hpos]
    go_wp2_with fail
    go_ret3
    rw [Hp.out]
    exact ⟨ao, ac, by (rw [show (l, pl, (0 : Int)).1.length = n from HN.out]; rfl), HA0.out.same (SameS.below BE3.out), by rw [show (l, pl, (0 : Int)).1.length = n from HN.out]; exact hac, BE3.out⟩
  have hneg : pl < 0 := by omega
  rw [if_neg hpos, decide_eq_false hpos]
  obtain ⟨c0, c1, c2, c3, c4⟩ := cell5 (K1.out.below B3.out)
  go_wp2_with fail
  refine (HMD.out w3 B3.out).mono ?_
  rintro e w4 ⟨rfl, b4⟩
  have B4 := Lib.hid (B3.out.trans (b4.mono B3.out.size))
  have BE4 := Lib.hid (BE3.out.trans (b4.mono BE3.out.size))
  clear b4 c0 c1 c2 c3 c4
  cases md
  · have Hp := Lib.hid (show R = ([], 0, 1) by rw [← HR.out]; exact padd_bad HRT.out (by rw [HPL.out]; exact hneg) HMDB.out)
    go_wp2_with fail
    go_ret3
    exact padds_none Hp.out BE4.out
  by_cases h400 : n = 400
  · have Hp := Lib.hid (show R = ([], 0, 7) by rw [← HR.out]; exact padd_many HRT.out (by rw [HPL.out]; exact hneg) HMDB.out (by rw [HN.out]; exact h400))
    have hq : ((n : Int) == 400) = true := by rw [beq_iff_eq]; omega
    clear h400
    go_wp2_with fail
    go_ret3
    exact padds_none Hp.out BE4.out
  have Hp := Lib.hid (show R = (l ++ [t], (n : Int), 0) by rw [← HR.out, padd_new HRT.out (by rw [HPL.out]; exact hneg) HMDB.out (by rw [HN.out]; exact h400), HN.out])
  have hq : ((n : Int) == 400) = false := by rw [beq_eq_false_iff_ne]; omega
  have hl1 : t.words.length ≤ 1000 := by have := HT.out.ok.wl; omega
  have hl2 : t.kids.length ≤ 1000 := by have := HT.out.ok.kl; omega
  have HCW := Lib.hid (fun W (h : Below w1.heap.size w1 W) => clone_str wo wc t.words W (HT.out.below h).words hl1)
  have HCK := Lib.hid (fun W (h : Below w1.heap.size w1 W) => clone_int ko kc t.kids W (HT.out.below h).kids hl2)
  obtain ⟨c0, c1, c2, c3, c4⟩ := cell5 (K1.out.below B4.out)
  clear hl1 hl2
  go_wp2_with fail
  refine GoG.start [(7, ⟨w.heap.size, 3, none⟩, .slice wo t.words.length wc), (9, ⟨w.heap.size, 4, none⟩, .slice ko t.kids.length kc)] (by kernel_rfl) ?_ ?_
  · exact (Keeps.cons (by first | assumption | simp [*]) (Keeps.cons (by first | assumption | simp [*]) (Keeps.nil)))
  refine GoG.take (i := 0) (v := ?_) [] rfl (by kernel_rfl) (by kernel_rfl) (by kernel_rfl) (by kernel_rfl) (by kernel_rfl) (by kernel_rfl) (fun _ _ _ h => h) (yields_free (by rfl) (fun w => ?_)) ?_
  rotate_left
  · go_simp; try (with_reducible rfl)
  try simp only [Act.put, List.getElem_toArray, List.getElem_cons_succ, List.getElem_cons_zero, List.setIfInBounds_toArray, List.set_cons_zero, List.set_cons_succ]
  refine GoG.take (i := 1) (v := ?_) [7] rfl (by kernel_rfl) (by kernel_rfl) (by kernel_rfl) (by kernel_rfl) (by kernel_rfl) (by kernel_rfl) (fun _ _ _ h => h) (.inl ⟨by rfl, fun wz hS => ?_⟩) ?_
  rotate_left
  · have g0 : wz.cell? ⟨w.heap.size, 3, none⟩ = some (.slice wo t.words.length wc) := hS (7, ⟨w.heap.size, 3, none⟩, .slice wo t.words.length wc) (by simp) (by simp)
    clear hS
    go_simp; try (with_reducible rfl)
  try simp only [Act.put, List.getElem_toArray, List.getElem_cons_succ, List.getElem_cons_zero, List.setIfInBounds_toArray, List.set_cons_zero, List.set_cons_succ]
  refine GoG.take (i := 3) (v := ?_) [] rfl (by kernel_rfl) (by kernel_rfl) (by kernel_rfl) (by kernel_rfl) (by kernel_rfl) (by kernel_rfl) (fun _ _ _ h => h) (yields_free (by rfl) (fun w => ?_)) ?_
  rotate_left
  · go_simp; try (with_reducible rfl)
  try simp only [Act.put, List.getElem_toArray, List.getElem_cons_succ, List.getElem_cons_zero, List.setIfInBounds_toArray, List.set_cons_zero, List.set_cons_succ]
  refine GoG.take (i := 4) (v := ?_) [9] rfl (by kernel_rfl) (by kernel_rfl) (by kernel_rfl) (by kernel_rfl) (by kernel_rfl) (by kernel_rfl) (fun _ _ _ h => h) (.inl ⟨by rfl, fun wz hS => ?_⟩) ?_
  rotate_left
  · have g0 : wz.cell? ⟨w.heap.size, 4, none⟩ = some (.slice ko t.kids.length kc) := hS (9, ⟨w.heap.size, 4, none⟩, .slice ko t.kids.length kc) (by simp) (by simp)
    clear hS
    go_simp; try (with_reducible rfl)
  try simp only [Act.put, List.getElem_toArray, List.getElem_cons_succ, List.getElem_cons_zero, List.setIfInBounds_toArray, List.set_cons_zero, List.set_cons_succ]
  have BD := Lib.hid (show Below w1.heap.size w1 w4.drew from B4.out.drew)
  clear c0 c1 c2 c3 c4
  refine GoG.one (i := 2) rfl (by kernel_rfl) (fun K hK => ?_)
  go_simp
  refine (HCW.out _ BD.out).mono ?_
  rintro e w5 ⟨wo2, wc2, rfl, hw2, hwl2, hwn2, b5⟩
  have B5 := Lib.hid (BD.out.trans (b5.mono BD.out.size))
  have HW2 := Lib.hid (And.intro hw2 (And.intro hwl2 (show ∀ a, wo2 = some a → a.block ≠ w.heap.size ∧ Sb a.block from fun a h => by have h1 := hwn2 a h; have h2 := BD.out.size; have h3 := Z1.out; exact ⟨by omega, HCD.out _ (by omega)⟩)))
  clear hw2 hwl2 hwn2 b5
  obtain ⟨-, -, -, c3, c4⟩ := cell5 (K1.out.below B5.out)
  refine hK.out _ _ (Keeps.cons (by first | assumption | simp [*]) (Keeps.cons (by first | assumption | simp [*]) (Keeps.nil))) ?_
  clear hK K c3 c4
  try simp only [Act.put, List.getElem_toArray, List.getElem_cons_succ, List.getElem_cons_zero, List.setIfInBounds_toArray, List.set_cons_zero, List.set_cons_succ]
  refine GoG.take (i := 6) (v := ?_) [] rfl (by kernel_rfl) (by kernel_rfl) (by kernel_rfl) (by kernel_rfl) (by kernel_rfl) (by kernel_rfl) (fun _ _ _ h => h) (yields_free (by rfl) (fun w => ?_)) ?_
  rotate_left
  · go_simp; try (with_reducible rfl)
  try simp only [Act.put, List.getElem_toArray, List.getElem_cons_succ, List.getElem_cons_zero, List.setIfInBounds_toArray, List.set_cons_zero, List.set_cons_succ]
  refine GoG.one (i := 5) rfl (by kernel_rfl) (fun K hK => ?_)
  go_simp
  refine (HCK.out _ B5.out).mono ?_
  rintro e w6 ⟨ko2, kc2, rfl, hk2, hkl2, hkn2, b6⟩
  have B6 := Lib.hid (B5.out.trans (b6.mono B5.out.size))
  have HK2 := Lib.hid (And.intro hk2 (And.intro hkl2 (show ∀ a, ko2 = some a → a.block ≠ w.heap.size ∧ Sb a.block from fun a h => by have h1 := hkn2 a h; have h2 := B5.out.size; have h3 := Z1.out; exact ⟨by omega, HCD.out _ (by omega)⟩)))
  have HW3 := Lib.hid (And.intro (HW2.out.1.below b6) HW2.out.2)
  clear hk2 hkl2 hkn2 b6 HW2
  obtain ⟨-, -, -, c3, c4⟩ := cell5 (K1.out.below B6.out)
  refine hK.out _ _ (Keeps.cons (by first | assumption | simp [*]) (Keeps.cons (by first | assumption | simp [*]) (Keeps.nil))) ?_
  clear hK K c3 c4
  try simp only [Act.put, List.getElem_toArray, List.getElem_cons_succ, List.getElem_cons_zero, List.setIfInBounds_toArray, List.set_cons_zero, List.set_cons_succ]
  obtain ⟨s1, hs1⟩ : ∃ s, w6.setCell ⟨w.heap.size, 3, none⟩ (.slice wo2 t.words.length wc2) = s := ⟨_, rfl⟩
  have KA := Lib.hid (show BlockAt s1 w.heap.size #[.int .i64 t.kind, .string t.name, .int .i64 t.n, .slice wo2 t.words.length wc2, .slice ko t.kids.length kc] 38 from by rw [← hs1]; exact (K1.out.below B6.out).set 3 _)
  obtain ⟨-, -, -, c3, c4⟩ := cell5 (K1.out.below B6.out)
  have fr3 := (K1.out.below B6.out).free 3
  refine GoG.one (i := 7) rfl (by kernel_rfl) (fun K hK => ?_)
  go_simp
  clear c3 c4 fr3
  obtain ⟨-, -, -, -, c4⟩ := cell5 KA.out
  refine hK.out _ _ (Keeps.up (by rfl) (Keeps.cons (by first | assumption | simp [*]) (Keeps.nil))) ?_
  clear hK K c4
  try simp only [Act.put, List.getElem_toArray, List.getElem_cons_succ, List.getElem_cons_zero, List.setIfInBounds_toArray, List.set_cons_zero, List.set_cons_succ]
  refine GoG.take (i := 8) (v := ?_) [] rfl (by kernel_rfl) (by kernel_rfl) (by kernel_rfl) (by kernel_rfl) (by kernel_rfl) (by kernel_rfl) (fun _ _ _ h => h) (yields_free (by rfl) (fun w => ?_)) ?_
  rotate_left
  · go_simp; try (with_reducible rfl)
  try simp only [Act.put, List.getElem_toArray, List.getElem_cons_succ, List.getElem_cons_zero, List.setIfInBounds_toArray, List.set_cons_zero, List.set_cons_succ]
  obtain ⟨s2, hs2⟩ : ∃ s, s1.setCell ⟨w.heap.size, 4, none⟩ (.slice ko2 t.kids.length kc2) = s := ⟨_, rfl⟩
  have KB := Lib.hid (show BlockAt s2 w.heap.size #[.int .i64 t.kind, .string t.name, .int .i64 t.n, .slice wo2 t.words.length wc2, .slice ko2 t.kids.length kc2] 38 from by rw [← hs2]; exact KA.out.set 4 _)
  obtain ⟨-, -, -, -, c4⟩ := cell5 KA.out
  have fr4 := KA.out.free 4
  refine GoG.one (i := 9) rfl (by kernel_rfl) (fun K hK => ?_)
  go_simp
  clear c4 fr4
  refine hK.out _ _ (Keeps.up (by rfl) (Keeps.up (by rfl) (Keeps.nil))) ?_
  clear hK K
  try simp only [Act.put, List.getElem_toArray, List.getElem_cons_succ, List.getElem_cons_zero, List.setIfInBounds_toArray, List.set_cons_zero, List.set_cons_succ]
  refine GoG.done (by kernel_rfl) ?_ _
  have BS0 := (BW.out.trans (B6.out.mono BW.out.size))
  have BS := Lib.hid (show Below w.heap.size w s2 from by rw [← hs2, ← hs1]; exact (BS0.setCell (Nat.le_refl _) _).setCell (Nat.le_refl _) _)
  have RW := Lib.hid (show SRow s2 wo2 t.words from by rw [← hs2, ← hs1]; exact row_setstr (row_setstr HW3.out.1 (fun a h => (HW3.out.2.2 a h).1)) (fun a h => (HW3.out.2.2 a h).1))
  have RK := Lib.hid (show IRow s2 ko2 t.kids from by rw [← hs2, ← hs1]; exact row_setint (row_setint HK2.out.1 (fun a h => (HK2.out.2.2 a h).1)) (fun a h => (HK2.out.2.2 a h).1))
  clear BS0 hs1 hs2
  obtain ⟨lb, lo, rfl, hlb, hlc⟩ := HA0.out.cells (by have := (right_step HRT.out).1.1; omega)
  obtain ⟨zs, y1, y2, y3, y4⟩ := arow_zsS hlc l.length (Nat.le_refl _)
  rw [List.take_length] at y1
  rw [HN.out] at y2
  have Y := Lib.hid (And.intro hlb (And.intro y1 (And.intro y2 (And.intro y3 y4))))
  have hn1 : ¬ n = 0 := by have := (right_step HRT.out).1.1; have := HN.out; omega
  have HCL := Lib.hid (fun W => clip_any lb lo n ac W (by omega) hac)
  obtain ⟨e0, e1, e2, e3, e4⟩ := cell5 KB.out
  clear hlb hlc y1 y2 y3 y4
  go_wp2_with fail
  obtain ⟨s3, hs3⟩ : ∃ s, (s2.alloc (.cells #[.int .i64 t.kind, .string t.name, .int .i64 t.n, .slice wo2 t.words.length wc2, .slice ko2 t.kids.length kc2] 38)).drew = s := ⟨_, rfl⟩
  have hs3' : s2.drew.alloc (.cells #[.int .i64 t.kind, .string t.name, .int .i64 t.n, .slice wo2 t.words.length wc2, .slice ko2 t.kids.length kc2] 38) = s3 := hs3
  have B3s := Lib.hid (show Below s2.heap.size s2 s3 from by rw [← hs3]; exact ((Below.refl _ _).alloc (Nat.le_refl _) _).drew)
  have KS3 := Lib.hid (show BlockAt s3 s2.heap.size #[.int .i64 t.kind, .string t.name, .int .i64 t.n, .slice wo2 t.words.length wc2, .slice ko2 t.kids.length kc2] 38 from by rw [← hs3]; exact BlockAt.new s2 _ _)
  have BS3 := Lib.hid (BS.out.trans (B3s.out.mono BS.out.size))
  obtain ⟨i0, hi, hz0, hz1, hz2⟩ := info_parts info_ty
  obtain ⟨v7, w7, hap, hown7, hgrow7⟩ := run_append_arg_grows (P := Tryz.prog) s3 22 22 38 i0 (.agg #[.int .i64 0, .string ⟨#[]⟩, .int .i64 0, .slice none 0 0, .slice none 0 0]) 5 80 Tryz.underlying22 hi hz0 hz1 hz2 rfl (by decide)
    ⟨lb, lo, none⟩ n n (tzC zs) (by rw [tzC_len, Y.out.2.2.1]) (fun j u hu => by rw [addr_add]; exact (BS3.out.cell Y.out.1).trans (Y.out.2.2.2.2 j u hu)) ⟨s2.heap.size, 0, none⟩ 1 1 (tzC1 ⟨t, wo2, wc2, ko2, kc2⟩) rfl
    (fun j u hu => by
      rw [addr_add, Nat.zero_add, KS3.out.cell j]
      simpa [tzC1] using hu) (by omega) (by unfold maxLen; omega) (by omega)
  have B7 := Lib.hid (show Below s3.heap.size s3 w7 from (Below.refl _ _).grown hgrow7 (Nat.le_refl _) (fun j hj => by cases hj))
  have B7w := Lib.hid (BS3.out.trans (B7.out.mono BS3.out.size))
  have O7 : OwnZ w7 s3.heap.size v7 (zs ++ [⟨t, wo2, wc2, ko2, kc2⟩]) := own_more (by rw [Y.out.2.2.1]) hown7
  obtain ⟨ao7, cap7, rfl, r1, r2⟩ := own_arowS O7 (Sb := Sb) (fun b hbb => HCD.out b (Nat.le_trans BS3.out.size hbb)) (fun z hz => by
    rcases List.mem_append.1 hz with hz | hz
    · exact (Y.out.2.2.2.1 z hz).same (SameS.below B7w.out)
    · rw [List.mem_singleton.1 hz]
      exact ⟨HW3.out.2.1, HK2.out.2.1, ⟨srow_aps ((RW.out.below B3s.out).below B7.out) (fun a h => (HW3.out.2.2 a h).2), irow_aps ((RK.out.below B3s.out).below B7.out) (fun a h => (HK2.out.2.2 a h).2), HT.out.ok⟩⟩)
  have hmap : (zs ++ [(⟨t, wo2, wc2, ko2, kc2⟩ : Tz)]).map (·.t) = l ++ [t] := by rw [List.map_append, Y.out.2.1]; rfl
  rw [hmap] at r1 r2 hap
  have hlen : (l ++ [t]).length = n + 1 := by rw [List.length_append, HN.out]; rfl
  rw [hlen] at r2 hap
  have R7 := Lib.hid (And.intro r1 (And.intro r2 hlen))
  clear hown7 hgrow7 O7 r1 r2 hmap hlen
  refine GoG.start [(9, ⟨w.heap.size, 0, none⟩, .int .i64 t.kind), (9, ⟨w.heap.size, 1, none⟩, .string t.name), (9, ⟨w.heap.size, 2, none⟩, .int .i64 t.n), (9, ⟨w.heap.size, 3, none⟩, .slice wo2 t.words.length wc2), (9, ⟨w.heap.size, 4, none⟩, .slice ko2 t.kids.length kc2)] (by kernel_rfl) ?_ ?_
  · exact (Keeps.cons (by first | assumption | simp [*]) (Keeps.cons (by first | assumption | simp [*]) (Keeps.cons (by first | assumption | simp [*]) (Keeps.cons (by first | assumption | simp [*]) (Keeps.cons (by first | assumption | simp [*]) (Keeps.nil))))))
  refine GoG.take (i := 0) (v := ?_) [] rfl (by kernel_rfl) (by kernel_rfl) (by kernel_rfl) (by kernel_rfl) (by kernel_rfl) (by kernel_rfl) (fun _ _ _ h => h) (yields_free (by rfl) (fun w => ?_)) ?_
  rotate_left
  · go_simp; try (with_reducible rfl)
  try simp only [Act.put, List.getElem_toArray, List.getElem_cons_succ, List.getElem_cons_zero, List.setIfInBounds_toArray, List.set_cons_zero, List.set_cons_succ]
  refine GoG.take (i := 2) (v := ?_) [9] rfl (by kernel_rfl) (by kernel_rfl) (by kernel_rfl) (by kernel_rfl) (by kernel_rfl) (by kernel_rfl) (fun _ _ _ h => h) (.inl ⟨by rfl, fun wz hS => ?_⟩) ?_
  rotate_left
  · have g0 : wz.cell? ⟨w.heap.size, 0, none⟩ = some (.int .i64 t.kind) := hS (9, ⟨w.heap.size, 0, none⟩, .int .i64 t.kind) (by simp) (by simp)
    have g1 : wz.cell? ⟨w.heap.size, 1, none⟩ = some (.string t.name) := hS (9, ⟨w.heap.size, 1, none⟩, .string t.name) (by simp) (by simp)
    have g2 : wz.cell? ⟨w.heap.size, 2, none⟩ = some (.int .i64 t.n) := hS (9, ⟨w.heap.size, 2, none⟩, .int .i64 t.n) (by simp) (by simp)
    have g3 : wz.cell? ⟨w.heap.size, 3, none⟩ = some (.slice wo2 t.words.length wc2) := hS (9, ⟨w.heap.size, 3, none⟩, .slice wo2 t.words.length wc2) (by simp) (by simp)
    have g4 : wz.cell? ⟨w.heap.size, 4, none⟩ = some (.slice ko2 t.kids.length kc2) := hS (9, ⟨w.heap.size, 4, none⟩, .slice ko2 t.kids.length kc2) (by simp) (by simp)
    clear hS
    go_simp; try (with_reducible rfl)
  try simp only [Act.put, List.getElem_toArray, List.getElem_cons_succ, List.getElem_cons_zero, List.setIfInBounds_toArray, List.set_cons_zero, List.set_cons_succ]
  refine GoG.take (i := 5) (v := ?_) [] rfl (by kernel_rfl) (by kernel_rfl) (by kernel_rfl) (by kernel_rfl) (by kernel_rfl) (by kernel_rfl) (fun _ _ _ h => h) (yields_free (by rfl) (fun w => ?_)) ?_
  rotate_left
  · go_simp; try (with_reducible rfl)
  try simp only [Act.put, List.getElem_toArray, List.getElem_cons_succ, List.getElem_cons_zero, List.setIfInBounds_toArray, List.set_cons_zero, List.set_cons_succ]
  refine GoG.take (i := 6) (v := ?_) [] rfl (by kernel_rfl) (by kernel_rfl) (by kernel_rfl) (by kernel_rfl) (by kernel_rfl) (by kernel_rfl) (fun _ _ _ h => h) (yields_free (by rfl) (fun w => ?_)) ?_
  rotate_left
  · go_simp; try (with_reducible rfl)
  try simp only [Act.put, List.getElem_toArray, List.getElem_cons_succ, List.getElem_cons_zero, List.setIfInBounds_toArray, List.set_cons_zero, List.set_cons_succ]
  have KK3 := Lib.hid (show s3.cell? ⟨w.heap.size, 0, none⟩ = some (.int .i64 t.kind) ∧ s3.cell? ⟨w.heap.size, 1, none⟩ = some (.string t.name) ∧ s3.cell? ⟨w.heap.size, 2, none⟩ = some (.int .i64 t.n) ∧ s3.cell? ⟨w.heap.size, 3, none⟩ = some (.slice wo2 t.words.length wc2) ∧ s3.cell? ⟨w.heap.size, 4, none⟩ = some (.slice ko2 t.kids.length kc2) from cell5 (KB.out.below B3s.out))
  have KK7 := Lib.hid (show w7.cell? ⟨w.heap.size, 0, none⟩ = some (.int .i64 t.kind) ∧ w7.cell? ⟨w.heap.size, 1, none⟩ = some (.string t.name) ∧ w7.cell? ⟨w.heap.size, 2, none⟩ = some (.int .i64 t.n) ∧ w7.cell? ⟨w.heap.size, 3, none⟩ = some (.slice wo2 t.words.length wc2) ∧ w7.cell? ⟨w.heap.size, 4, none⟩ = some (.slice ko2 t.kids.length kc2) from cell5 ((KB.out.below B3s.out).below B7.out))
  refine GoG.two (i := 1) (j := 3) rfl rfl (by kernel_rfl) (fun K hK => ?_) (fun K hK => ?_)
  · go_simp
    refine (HCL.out _).mono ?_
    rintro e w' ⟨rfl, rfl⟩
    refine hK.out _ _ (Keeps.cons (by first | assumption | simp [*]) (Keeps.cons (by first | assumption | simp [*]) (Keeps.cons (by first | assumption | simp [*]) (Keeps.cons (by first | assumption | simp [*]) (Keeps.cons (by first | assumption | simp [*]) (Keeps.nil)))))) ?_
    clear hK K
    try simp only [Act.put, List.getElem_toArray, List.getElem_cons_succ, List.getElem_cons_zero, List.setIfInBounds_toArray, List.set_cons_zero, List.set_cons_succ]
    refine GoG.one (i := 3) rfl (by kernel_rfl) (fun K hK => ?_)
    go_simp
    refine hK.out _ _ (Keeps.cons KK3.out.1 (Keeps.cons KK3.out.2.1 (Keeps.cons KK3.out.2.2.1 (Keeps.cons KK3.out.2.2.2.1 (Keeps.cons KK3.out.2.2.2.2 Keeps.nil))))) ?_
    clear hK K
    try simp only [Act.put, List.getElem_toArray, List.getElem_cons_succ, List.getElem_cons_zero, List.setIfInBounds_toArray, List.set_cons_zero, List.set_cons_succ]
    refine GoG.one (i := 4) rfl (by kernel_rfl) (fun K hK => ?_)
    rw [if_pos (by rfl)]
    refine wp_run_append _ _ _ rfl _ _ _ rfl rfl hap ?_
    refine hK.out _ _ (Keeps.cons KK7.out.1 (Keeps.cons KK7.out.2.1 (Keeps.cons KK7.out.2.2.1 (Keeps.cons KK7.out.2.2.2.1 (Keeps.cons KK7.out.2.2.2.2 Keeps.nil))))) ?_
    clear hK K
    try simp only [Act.put, List.getElem_toArray, List.getElem_cons_succ, List.getElem_cons_zero, List.setIfInBounds_toArray, List.set_cons_zero, List.set_cons_succ]
    refine GoG.take (i := 7) (v := ?_) [] rfl (by kernel_rfl) (by kernel_rfl) (by kernel_rfl) (by kernel_rfl) (by kernel_rfl) (by kernel_rfl) (fun _ _ _ h => h) (yields_free (by rfl) (fun w => ?_)) ?_
    rotate_left
    · go_simp; try (with_reducible rfl)
    try simp only [Act.put, List.getElem_toArray, List.getElem_cons_succ, List.getElem_cons_zero, List.setIfInBounds_toArray, List.set_cons_zero, List.set_cons_succ]
    refine GoG.take (i := 8) (v := ?_) [] rfl (by kernel_rfl) (by kernel_rfl) (by kernel_rfl) (by kernel_rfl) (by kernel_rfl) (by kernel_rfl) (fun _ _ _ h => h) (yields_free (by rfl) (fun w => ?_)) ?_
    rotate_left
    · go_simp; try (with_reducible rfl)
    try simp only [Act.put, List.getElem_toArray, List.getElem_cons_succ, List.getElem_cons_zero, List.setIfInBounds_toArray, List.set_cons_zero, List.set_cons_succ]
    refine GoG.one (i := 9) rfl (by kernel_rfl) (fun K hK => ?_)
    go_simp
    refine hK.out _ _ (Keeps.up (by rfl) (Keeps.up (by rfl) (Keeps.up (by rfl) (Keeps.up (by rfl) (Keeps.up (by rfl) (Keeps.nil)))))) ?_
    clear hK K
    try simp only [Act.put, List.getElem_toArray, List.getElem_cons_succ, List.getElem_cons_zero, List.setIfInBounds_toArray, List.set_cons_zero, List.set_cons_succ]
    refine GoG.done (by kernel_rfl) ?_ _
    clear e0 e1 e2 e3 e4 hap hs3 hs3'
    go_wp2_with fail
    go_ret3
    rw [Hp.out]
    exact ⟨ao7, cap7, by (rw [show (l ++ [t], (n : Int), (0 : Int)).1.length = n + 1 from R7.out.2.2]; rfl), R7.out.1, by rw [show (l ++ [t], (n : Int), (0 : Int)).1.length = n + 1 from R7.out.2.2]; exact R7.out.2.1, B7w.out⟩
  · go_simp
    refine hK.out _ _ (Keeps.cons KK3.out.1 (Keeps.cons KK3.out.2.1 (Keeps.cons KK3.out.2.2.1 (Keeps.cons KK3.out.2.2.2.1 (Keeps.cons KK3.out.2.2.2.2 Keeps.nil))))) ?_
    clear hK K
    try simp only [Act.put, List.getElem_toArray, List.getElem_cons_succ, List.getElem_cons_zero, List.setIfInBounds_toArray, List.set_cons_zero, List.set_cons_succ]
    refine GoG.one (i := 1) rfl (by kernel_rfl) (fun K hK => ?_)
    go_simp
    refine (HCL.out _).mono ?_
    rintro e w' ⟨rfl, rfl⟩
    refine hK.out _ _ (Keeps.cons KK3.out.1 (Keeps.cons KK3.out.2.1 (Keeps.cons KK3.out.2.2.1 (Keeps.cons KK3.out.2.2.2.1 (Keeps.cons KK3.out.2.2.2.2 Keeps.nil))))) ?_
    clear hK K
    try simp only [Act.put, List.getElem_toArray, List.getElem_cons_succ, List.getElem_cons_zero, List.setIfInBounds_toArray, List.set_cons_zero, List.set_cons_succ]
    refine GoG.one (i := 4) rfl (by kernel_rfl) (fun K hK => ?_)
    rw [if_pos (by rfl)]
    refine wp_run_append _ _ _ rfl _ _ _ rfl rfl hap ?_
    refine hK.out _ _ (Keeps.cons KK7.out.1 (Keeps.cons KK7.out.2.1 (Keeps.cons KK7.out.2.2.1 (Keeps.cons KK7.out.2.2.2.1 (Keeps.cons KK7.out.2.2.2.2 Keeps.nil))))) ?_
    clear hK K
    try simp only [Act.put, List.getElem_toArray, List.getElem_cons_succ, List.getElem_cons_zero, List.setIfInBounds_toArray, List.set_cons_zero, List.set_cons_succ]
    refine GoG.take (i := 7) (v := ?_) [] rfl (by kernel_rfl) (by kernel_rfl) (by kernel_rfl) (by kernel_rfl) (by kernel_rfl) (by kernel_rfl) (fun _ _ _ h => h) (yields_free (by rfl) (fun w => ?_)) ?_
    rotate_left
    · go_simp; try (with_reducible rfl)
    try simp only [Act.put, List.getElem_toArray, List.getElem_cons_succ, List.getElem_cons_zero, List.setIfInBounds_toArray, List.set_cons_zero, List.set_cons_succ]
    refine GoG.take (i := 8) (v := ?_) [] rfl (by kernel_rfl) (by kernel_rfl) (by kernel_rfl) (by kernel_rfl) (by kernel_rfl) (by kernel_rfl) (fun _ _ _ h => h) (yields_free (by rfl) (fun w => ?_)) ?_
    rotate_left
    · go_simp; try (with_reducible rfl)
    try simp only [Act.put, List.getElem_toArray, List.getElem_cons_succ, List.getElem_cons_zero, List.setIfInBounds_toArray, List.set_cons_zero, List.set_cons_succ]
    refine GoG.one (i := 9) rfl (by kernel_rfl) (fun K hK => ?_)
    go_simp
    refine hK.out _ _ (Keeps.up (by rfl) (Keeps.up (by rfl) (Keeps.up (by rfl) (Keeps.up (by rfl) (Keeps.up (by rfl) (Keeps.nil)))))) ?_
    clear hK K
    try simp only [Act.put, List.getElem_toArray, List.getElem_cons_succ, List.getElem_cons_zero, List.setIfInBounds_toArray, List.set_cons_zero, List.set_cons_succ]
    refine GoG.done (by kernel_rfl) ?_ _
    clear e0 e1 e2 e3 e4 hap hs3 hs3'
    go_wp2_with fail
    go_ret3
    rw [Hp.out]
    exact ⟨ao7, cap7, by (rw [show (l ++ [t], (n : Int), (0 : Int)).1.length = n + 1 from R7.out.2.2]; rfl), R7.out.1, by rw [show (l ++ [t], (n : Int), (0 : Int)).1.length = n + 1 from R7.out.2.2]; exact R7.out.2.1, B7w.out⟩
set_option maxHeartbeats 16000000 in
set_option maxRecDepth 100000 in
theorem put_aps (Sb : Nat → Prop) (l : List Ty) (lo : Option Addr) (lc : Nat) (t : Ty) (wo ko : Option Addr) (wc kc mb c : Nat) (P : Nat → Bool) (I : Nat → Int) (w : World) (hcd : ∀ b, w.heap.size ≤ b → Sb b) (hl : ARowS Sb w lo l) (hr : rightT l = true) (hac : l.length ≤ lc) (hE : Env w) (ht : TyC w wo ko t) (hsm : TySm t) (hwc : t.words.length ≤ wc)
    (hlen : t.kind = 7 → t.words.length = t.kids.length) (hm : IMap w mb c P I) (hc : c ≤ 400) (hk : ∀ k ∈ t.kids, 0 ≤ k ∧ k < (c : Int) ∧ P k.toNat = true ∧ 0 ≤ I k.toNat ∧ I k.toNat < (l.length : Int)) :
    Calls Tryz.prog 86 #[.slice lo l.length lc, tyV t wo wc ko kc, .map (some mb)] w (PAddS Sb w (putT l t I)) := by
  have hll := (right_step hr).1
  obtain ⟨R, hR⟩ : ∃ R, putT l t I = R := ⟨_, rfl⟩
  rw [hR]
  have HR := Lib.hid hR
  unfold tyV
  have hml := ht.ok.kl
  obtain ⟨m, hmm⟩ : ∃ m, t.kids.length = m := ⟨_, rfl⟩
  have HM := Lib.hid hmm
  rw [hmm] at hml ⊢
  have HT := Lib.hid ht
  have HA := Lib.hid hl.out
  have HA2 := Lib.hid hl
  have HCD := Lib.hid hcd
  have HK := Lib.hid hk
  have HMP := Lib.hid hm
  have HRT := Lib.hid hr
  have HE := Lib.hid hE
  have HSM := Lib.hid hsm
  have HLEN := Lib.hid hlen
  have HCAP := Lib.hid (And.intro hac hwc)
  obtain ⟨nw, hnw⟩ : ∃ n, t.words.length = n := ⟨_, rfl⟩
  have HNW := Lib.hid hnw
  rw [hnw]
  obtain ⟨n, hn⟩ : ∃ n, l.length = n := ⟨_, rfl⟩
  have HN := Lib.hid hn
  rw [hn] at hll hac ⊢
  obtain ⟨w1, h1⟩ : ∃ w1, w.alloc (.cells #[.int .i64 t.kind, .string t.name, .int .i64 t.n, .slice wo nw wc, .slice ko m kc] 38) = w1 := ⟨_, rfl⟩
  obtain ⟨k1, q1, z1⟩ := box_new h1
  have hmk := make_intsZ m (by omega) w1
  obtain ⟨w2, h2⟩ : ∃ w2, w1.alloc (.cells (rowZ m fun _ => 0) 3) = w2 := ⟨_, rfl⟩
  obtain ⟨k2, q2, z2⟩ := box_new h2
  rw [h2] at hmk
  obtain ⟨nb, hnb⟩ : ∃ nb, w1.heap.size = nb := ⟨_, rfl⟩
  rw [hnb] at hmk k2
  have K1 := Lib.hid (k1.below q2)
  have K2 := Lib.hid (show BlockAt w2 nb (rowZ m (kidG t.kids I 0)) 3 from by rw [kidG_zero]; exact k2)
  have BW := Lib.hid (q1.trans (q2.mono q1.size))
  have HNB := Lib.hid (show w.heap.size ≤ nb ∧ w.heap.size ≠ nb by omega)
  obtain ⟨c0, c1, c2, c3, c4⟩ := cell5 k1
  obtain ⟨d0, d1, d2, d3, d4⟩ := cell5 (k1.below q2)
  clear hl hcd hr hE ht hsm hlen hm hk hmm hwc hnw hn h2 k1 k2 q1 q2 z1 z2 hR
  go_enter Tryz.func86, Tryz.ntmps86
  go_wp2_with fail
  clear hmk h1 c0 c1 c2 c3 c4 d0 d1 d2 d3 d4
  go_loopw [20] (fun v wr => ∃ q : Nat, q ≤ m ∧ v = .int .i64 q ∧ Hid (BlockAt wr nb (rowZ m (kidG t.kids I q)) 3) ∧ Hid (BlockAt wr w.heap.size #[.int .i64 t.kind, .string t.name, .int .i64 t.n, .slice wo nw wc, .slice ko m kc] 38) ∧ Hid (Below w.heap.size w wr)) (fun v _ => m - (intOf v).toNat)
  case atStart => exact ⟨0, Nat.zero_le _, rfl, K2, K1, BW⟩
  case round =>
    obtain ⟨q, hq, rfl, KR, KT, HB⟩ := hrel
    by_cases hql : q < m
    · have hqk : q < t.kids.length := by rw [HM.out]; exact hql
      obtain ⟨kb, kof, rfl, hkb, hkcell⟩ := HT.out.kids.cells (by omega)
      have ck := (HB.out.cell (p := ⟨kb, kof + q, none⟩) hkb).trans (hkcell q hqk)
      obtain ⟨g1, g2, g3, g4, g5⟩ := HK.out _ (getD_mem hqk)
      obtain ⟨z, hz⟩ : ∃ z : Nat, t.kids.getD q 0 = (z : Int) := ⟨(t.kids.getD q 0).toNat, by omega⟩
      rw [hz] at ck g2 g3
      rw [Int.toNat_natCast] at g3
      obtain ⟨v, hv⟩ : ∃ v, I z = v := ⟨_, rfl⟩
      have hlk := (HMP.out.below HB.out).look (m := z) (by omega) g3 (by omega)
      rw [hv] at hlk
      have cq := KR.out.cell q
      rw [rowZ_get hql] at cq
      have fq := KR.out.free q
      have KN := Lib.hid (show BlockAt (wr.setCell ⟨nb, q, none⟩ (.int .i64 v)) nb (rowZ m (kidG t.kids I (q + 1))) 3 from by
        rw [← kidG_step (v := v) (by rw [hz, Int.toNat_natCast]; exact hv)]
        exact KR.out.set q _)
      have KTN := Lib.hid (KT.out.other HNB.out.2 q (.int .i64 v))
      have BN := Lib.hid (set_below (v := .int .i64 v) (k := q) HB.out HNB.out.1)
      clear hz hv g1 g3 g4 g5 hkcell hkb
      go_wp2_with fail
      go_roundw
      case rel => exact ⟨q + 1, by omega, by go_num, KN, KTN, BN⟩
      case measure => first | (simp [intOf]; done) | (simp [intOf]; omega)
    · obtain rfl : q = m := by omega
      have HKR := Lib.hid (kidG_row (I := I) HM.out KR.out)
      have M := KT.out
      obtain ⟨e0, e1, e2, e3, e4⟩ := cell5 M
      have f4 := M.free 4
      obtain ⟨w5, h5⟩ : ∃ w5, wr.setCell ⟨w.heap.size, 4, none⟩ (.slice (some ⟨nb, 0, none⟩) q q) = w5 := ⟨_, rfl⟩
      have K5 := Lib.hid (show BlockAt w5 w.heap.size #[.int .i64 t.kind, .string t.name, .int .i64 t.n, .slice wo nw wc, .slice (some ⟨nb, 0, none⟩) q q] 38 from by rw [← h5]; exact M.set 4 _)
      have B5 := Lib.hid (show Below w.heap.size w w5 from by rw [← h5]; exact set_below HB.out (Nat.le_refl _))
      have HKR5 := Lib.hid (show IRow w5 (some ⟨nb, 0, none⟩) (t.kids.map fun k => I k.toNat) from by rw [← h5]; exact row_setint HKR.out (fun a ha => by injection ha with ha; rw [← ha]; exact fun e => HNB.out.2 e.symm))
      have hsk : ∀ k ∈ t.kids, -9223372036854775808 ≤ I k.toNat ∧ I k.toNat ≤ 9223372036854775807 := fun k hk => by
        obtain ⟨-, -, -, g4, g5⟩ := HK.out k hk
        rw [HN.out] at g5
        omega
      have HTY := Lib.hid (show TyC w5 wo (some ⟨nb, 0, none⟩) (swapT t I) from ⟨HT.out.words.below B5.out, HKR5.out, swap_ok HT.out.ok hsk⟩)
      have HSL := Lib.hid (show (swapT t I).kids.length = q from by show (List.map _ _).length = q; rw [List.length_map]; exact HM.out)
      have HSK := Lib.hid (show ∀ k ∈ (swapT t I).kids, 0 ≤ k ∧ k < (l.length : Int) from fun k hk => by
        obtain ⟨k0, h0, rfl⟩ := List.mem_map.1 hk
        exact ⟨(HK.out k0 h0).2.2.2.1, (HK.out k0 h0).2.2.2.2⟩)
      obtain ⟨x0, x1, x2, x3, x4⟩ := cell5 K5.out
      clear M hsk
      by_cases h7 : t.kind = 7
      · have hq7 : (t.kind == 7) = true := by rw [beq_iff_eq]; exact h7
        have HTD0 := tidy_any l lo lc (swapT t I) wo (some ⟨nb, 0, none⟩) wc q w5 (HA.out.below B5.out) HTY.out (by rw [HSL.out]; exact (HLEN.out h7).trans HM.out) HSK.out (by rw [HN.out]; omega)
        have HPUT := Lib.hid (And.intro (fun ho => put_odd (l := l) (t := t) (I := I) h7 ho) (fun ho => padd_put7 (I := I) HRT.out h7 ho))
        have HOK := Lib.hid (tidy_ok (L := l.length) HTY.out.ok (by rw [HN.out]; omega) HSK.out)
        have HSMT := Lib.hid (show TySm (tidyT l.length (swapT t I)) from tidy_small HSM.out)
        obtain ⟨od, hod⟩ : ∃ od, oddT l (swapT t I) = od := ⟨_, rfl⟩
        obtain ⟨tt, htt⟩ : ∃ tt, tidyT l.length (swapT t I) = tt := ⟨_, rfl⟩
        rw [hod, htt] at HTD0
        rw [hod, htt] at HPUT
        rw [htt] at HOK HSMT
        have HTK := Lib.hid (show tt.kind = t.kind ∧ tt.name = t.name ∧ tt.n = t.n from by rw [← htt]; exact ⟨rfl, rfl, rfl⟩)
        unfold tyV at HTD0
        rw [HSL.out, HN.out] at HTD0
        have hwl : (swapT t I).words.length = nw := HNW.out
        rw [hwl] at HTD0
        have HTD : Calls Tryz.prog 102 #[.slice lo n lc, .agg #[.int .i64 t.kind, .string t.name, .int .i64 t.n, .slice wo nw wc, .slice (some ⟨nb, 0, none⟩) q q]] w5 (TidyR w5 (swapT t I) od tt) := HTD0
        have HTDH := Lib.hid HTD
        have HAO := Lib.hid (fun W (hb : Below w.heap.size w W) (ao bo : Option Addr) (ac bc : Nat) (hx : TyC W ao bo tt) (g1 : tt.words.length ≤ ac) (g2 : tt.kids.length ≤ bc) => padd_aps Sb l lo lc tt ao bo ac bc W (fun b hbb => HCD.out b (Nat.le_trans hb.size hbb)) (HA2.out.same (SameS.below hb)) (by rw [HN.out]; omega) HCAP.out.1 (HE.out.below hb) hx HSMT.out g1 g2)
        clear HTD HTD0 hod htt hwl h7
        go_wp2_with fail
        refine HTDH.out.mono ?_
        intro e w6 hres
        unfold TidyR at hres
        rcases hres with ⟨ho, co, dO, cl, cc, dl, dc, rfl, b6⟩ | ⟨ho, ao, bo, ac, bc, rfl, g1, g2, r1, r2, n1, n2, b6⟩
        · have HO := Lib.hid (HPUT.out.1 ho)
          have B6 := Lib.hid (B5.out.trans (b6.mono B5.out.size))
          have M6 := K5.out.below b6
          obtain ⟨y0, y1, y2, y3, y4⟩ := cell5 M6
          have f0 := M6.free 0
          have f1 := M6.free 1
          have f2 := M6.free 2
          have f3 := M6.free 3
          have f4' := M6.free 4
          clear M6 ho b6 x0 x1 x2 x3 x4 e0 e1 e2 e3 e4 f4 h5
          go_wp2_with fail
          go_ret3
          rw [← HR.out, HO.out]
          exact padds_none rfl (below_set5 B6.out (Nat.le_refl _) _ _ _ _ _)
        · have HO := Lib.hid ((HPUT.out.2 ho).trans HR.out)
          have B6 := Lib.hid (B5.out.trans (b6.mono B5.out.size))
          have M6 := K5.out.below b6
          obtain ⟨y0, y1, y2, y3, y4⟩ := cell5 M6
          have f0 := M6.free 0
          have f1 := M6.free 1
          have f2 := M6.free 2
          have f3 := M6.free 3
          have f4' := M6.free 4
          have HG := Lib.hid (And.intro g1 (And.intro g2 (And.intro r1 r2)))
          have HB6 := Lib.hid b6
          obtain ⟨lW, hlW⟩ : ∃ x, tt.words.length = x := ⟨_, rfl⟩
          obtain ⟨lK, hlK⟩ : ∃ x, tt.kids.length = x := ⟨_, rfl⟩
          unfold tyV
          rw [HTK.out.1, HTK.out.2.1, HTK.out.2.2, hlW, hlK]
          have HLW := Lib.hid (And.intro hlW hlK)
          obtain ⟨w7, h7⟩ : ∃ w7, (((((w6.setCell ⟨w.heap.size, 0, none⟩ (.int .i64 t.kind)).setCell ⟨w.heap.size, 1, none⟩ (.string t.name)).setCell ⟨w.heap.size, 2, none⟩ (.int .i64 t.n)).setCell ⟨w.heap.size, 3, none⟩ (.slice ao lW ac)).setCell ⟨w.heap.size, 4, none⟩ (.slice bo lK bc)) = w7 := ⟨_, rfl⟩
          have K7 := Lib.hid (show BlockAt w7 w.heap.size #[.int .i64 t.kind, .string t.name, .int .i64 t.n, .slice ao lW ac, .slice bo lK bc] 38 from by rw [← h7]; exact ((((M6.set 0 _).set 1 _).set 2 _).set 3 _).set 4 _)
          have B7 := Lib.hid (show Below w.heap.size w w7 from by rw [← h7]; exact below_set5 B6.out (Nat.le_refl _) _ _ _ _ _)
          have H7 := Lib.hid h7
          have HWS := Lib.hid (show w.heap.size < w5.heap.size from K5.out.lt)
          have nA : ∀ a, ao = some a → a.block ≠ w.heap.size := fun a ha => by have := n1 a ha; have := HWS.out; omega
          have nB : ∀ a, bo = some a → a.block ≠ w.heap.size := fun a ha => by have := n2 a ha; have := HWS.out; omega
          have HT7 := Lib.hid (show TyC w7 ao bo tt from ⟨by rw [← h7]; exact row_setstr (row_setstr (row_setstr (row_setstr (row_setstr r1 nA) nA) nA) nA) nA, by rw [← h7]; exact row_setint (row_setint (row_setint (row_setint (row_setint r2 nB) nB) nB) nB) nB, HOK.out⟩)
          have HAD0 := HAO.out w7 B7.out ao bo ac bc HT7.out g1 g2
          rw [HO.out, HN.out] at HAD0
          unfold tyV at HAD0
          rw [HTK.out.1, HTK.out.2.1, HTK.out.2.2, hlW, hlK] at HAD0
          have HAD := Lib.hid HAD0
          clear M6 ho b6 g1 g2 r1 r2 n1 n2 nA nB x0 x1 x2 x3 x4 e0 e1 e2 e3 e4 f4 h5 hlW hlK h7 HAD0
          go_wp2_with fail
          rw [H7.out]
          refine HAD.out.mono ?_
          rintro e w8 ⟨ao8, cap8, rfl, p1, p2, p3⟩
          have HP := Lib.hid (show PAddS Sb w R _ w8 from padds_up B7.out ⟨ao8, cap8, rfl, p1, p2, p3⟩)
          clear p1 p2 p3
          go_wp2_with fail
          go_ret3
          exact HP.out
      · have hq7 : (t.kind == 7) = false := by rw [beq_eq_false_iff_ne]; exact h7
        have HAO0 := padd_aps Sb l lo lc (swapT t I) wo (some ⟨nb, 0, none⟩) wc q w5 (fun b hbb => HCD.out b (Nat.le_trans B5.out.size hbb)) (HA2.out.same (SameS.below B5.out)) (by rw [HN.out]; omega) HCAP.out.1 (HE.out.below B5.out) HTY.out HSM.out HCAP.out.2 (by rw [HSL.out]; exact Nat.le_refl _)
        rw [padd_putn HRT.out h7, HR.out] at HAO0
        unfold tyV at HAO0
        rw [HSL.out, HN.out] at HAO0
        have hwl : (swapT t I).words.length = nw := HNW.out
        rw [hwl] at HAO0
        have HAO1 : Calls Tryz.prog 34 #[.slice lo n lc, .agg #[.int .i64 t.kind, .string t.name, .int .i64 t.n, .slice wo nw wc, .slice (some ⟨nb, 0, none⟩) q q]] w5 (PAddS Sb w5 R) := HAO0
        have HAO := Lib.hid HAO1
        clear HAO0 HAO1 hwl h7
        go_wp2_with fail
        refine HAO.out.mono ?_
        rintro e w6 ⟨ao, cap, rfl, p1, p2, p3⟩
        have HP := Lib.hid (show PAddS Sb w R _ w6 from padds_up B5.out ⟨ao, cap, rfl, p1, p2, p3⟩)
        clear p1 p2 p3 e0 e1 e2 e3 e4 f4 x0 x1 x2 x3 x4 h5
        go_wp2_with fail
        go_ret3
        exact HP.out
set_option maxHeartbeats 32000000 in
set_option maxRecDepth 100000 in
theorem subst_inS (Sb : Nat → Prop) (l : List Ty) (ao : Option Addr) (ac i : Nat) (args : List Int) (go : Option Addr) (gc : Nat) (w : World) (hcd : ∀ b, w.heap.size ≤ b → Sb b) (hl : ARowS Sb w ao l) (hr : rightT l = true) (hac : l.length ≤ ac) (hE : Env w) (hi : i < l.length) (hg : IRow w go args) (hgl : args.length ≤ 1000) (hg6 : ∀ a ∈ args, -9223372036854775808 ≤ a ∧ a ≤ 9223372036854775807) :
    Calls Tryz.prog 60 #[.slice ao l.length ac, .int .i64 i, .slice go args.length gc] w (PAddS Sb w (substT l i args)) := by
  have hll := (right_step hr).1
  have HT0 := there_any l ao ac i w hl.out (by omega) hac hE
  rw [there_ok hr (by omega) (by omega)] at HT0
  have HT := Lib.hid HT0
  have HAS0 := fun W (h : Below w.heap.size w W) => asked_any l ao ac i W (hl.out.below h) hr hac hi
  have HPA0 := fun W (h : Below w.heap.size w W) => parts_any l ao ac i W (hl.out.below h) hr hac hi
  have HA := Lib.hid hl.out
  have HA2 := Lib.hid hl
  have HCD := Lib.hid hcd
  have HRT := Lib.hid hr
  have HE := Lib.hid hE
  have HG := Lib.hid hg
  have HG6 := Lib.hid hg6
  have HIN := Lib.hid hi
  have HACL := Lib.hid hac
  obtain ⟨R, hR⟩ : ∃ R, substT l i args = R := ⟨_, rfl⟩
  rw [hR]
  have HR := Lib.hid hR
  obtain ⟨n, hn⟩ : ∃ n, l.length = n := ⟨_, rfl⟩
  have HN := Lib.hid hn
  obtain ⟨ga, hga⟩ : ∃ n, args.length = n := ⟨_, rfl⟩
  have HGA := Lib.hid hga
  rw [hga] at hgl ⊢
  rw [hn] at HT HAS0 HPA0 hll hac hi ⊢
  have HAS := Lib.hid HAS0
  have HPA := Lib.hid HPA0
  have hAi := askD_in (right_param hr) (i + 1) i
  obtain ⟨az, haz⟩ : ∃ az, askD (funT l) (i + 1) i = az := ⟨_, rfl⟩
  have HAZ := Lib.hid haz
  rw [haz] at hAi
  have hiI : (i : Int) < (i : Int) + 1 := by omega
  clear hl hcd hr hE hg hg6 hR hn hga HT0 HAS0 HPA0 haz
  go_enter Tryz.func60, Tryz.ntmps60
  go_wp2_with fail
  refine HT.out.mono ?_
  rintro e w1 ⟨rfl, b1⟩
  have B1 := Lib.hid b1
  clear b1
  go_wp2_with fail
  refine (HAS.out _ B1.out).mono ?_
  rintro e w2 ⟨ab, rfl, kb, hab, b2⟩
  have B2 := Lib.hid (B1.out.trans (b2.mono B1.out.size))
  have KA := Lib.hid kb
  have HAB := Lib.hid (show w.heap.size ≤ ab from Nat.le_trans B1.out.size hab)
  have ca := kb.cell i
  rw [rowZ_get (by omega), HAZ.out] at ca
  clear b2 kb hab
  by_cases hlt : (ga : Int) < az
  · have hd : decide ((ga : Int) < az) = true := decide_eq_true hlt
    have Hn := Lib.hid (show R = ([], 0, 1) by rw [← HR.out]; exact sub_few (by rw [HGA.out, HAZ.out]; exact hlt))
    clear hlt
    go_wp2_with fail
    go_ret3
    exact padds_none Hn.out B2.out
  have hd : decide ((ga : Int) < az) = false := decide_eq_false hlt
  have HLT := Lib.hid (show askD (funT l) (i + 1) i ≤ (args.length : Int) by rw [HGA.out, HAZ.out]; omega)
  clear hlt
  go_wp2_with fail
  clear ca hd
  go_loop [39] (fun v => ∃ k : Nat, k ≤ ga ∧ v = .int .i64 k ∧ Hid (∀ j, j < k → 0 ≤ args.getD j 0 ∧ args.getD j 0 < (l.length : Int))) (fun v => ga - (intOf v).toNat)
  case atStart => exact ⟨0, Nat.zero_le _, rfl, Lib.hid (fun j hj => absurd hj (Nat.not_lt_zero _))⟩
  case round =>
    obtain ⟨k, hk, rfl, HALL⟩ := hrel
    by_cases hkl : k < ga
    · have hkx : k < args.length := by rw [HGA.out]; exact hkl
      obtain ⟨gb, gof, rfl, hgb, hgcell⟩ := HG.out.cells (by omega)
      have cg := (B2.out.cell (p := ⟨gb, gof + k, none⟩) hgb).trans (hgcell k hkx)
      have HOUT := Lib.hid (fun h => out_arena (l := l) hkx h)
      obtain ⟨a, ha⟩ : ∃ a, args.getD k 0 = a := ⟨_, rfl⟩
      rw [ha] at cg HOUT
      have HAE := Lib.hid ha
      clear ha hgcell hgb
      by_cases h0 : a < 0
      · have hd0 : decide (a < 0) = true := decide_eq_true h0
        have Hn := Lib.hid (show R = ([], 0, 1) by rw [← HR.out]; exact sub_out (Int.not_lt.2 HLT.out) (HOUT.out (.inl h0)))
        clear h0 HOUT
        go_wp2_with fail
        go_ret3
        exact padds_none Hn.out B2.out
      · have hd0 : decide (a < 0) = false := decide_eq_false h0
        by_cases h1 : (n : Int) ≤ a
        · have hd1 : decide ((n : Int) ≤ a) = true := decide_eq_true h1
          have Hn := Lib.hid (show R = ([], 0, 1) by rw [← HR.out]; exact sub_out (Int.not_lt.2 HLT.out) (HOUT.out (.inr (by rw [HN.out]; exact h1))))
          clear h0 h1 HOUT
          go_wp2_with fail
          go_ret3
          exact padds_none Hn.out B2.out
        · have hd1 : decide ((n : Int) ≤ a) = false := decide_eq_false h1
          have HN2 := Lib.hid (show ∀ j, j < k + 1 → 0 ≤ args.getD j 0 ∧ args.getD j 0 < (l.length : Int) from fun j hj => by
            rcases Nat.lt_or_eq_of_le (Nat.le_of_lt_succ hj) with h3 | h3
            · exact HALL.out j h3
            · subst h3; rw [HAE.out, HN.out]; omega)
          clear h0 h1 HOUT
          go_wp2_with fail
          go_round
          case rel => exact ⟨k + 1, by omega, by go_num, HN2⟩
          case measure => first | (simp [intOf]; done) | (simp [intOf]; omega)
    · have HINA := Lib.hid (show inArena l args = true from all_arena (fun j hj => HALL.out j (by rw [HGA.out] at hj; omega)))
      clear HALL
      have hmk := make_imap w2
      obtain ⟨mb, hmb⟩ : ∃ mb, w2.heap.size = mb := ⟨_, rfl⟩
      have HMB := Lib.hid (show w.heap.size ≤ mb ∧ ab ≠ mb by have := B2.out.size; have := KA.out.lt; omega)
      obtain ⟨w3, h3⟩ : ∃ w3, w2.alloc (.map #[] 0) = w3 := ⟨_, rfl⟩
      have IM0 := imap_new w2 (needD (funT l) i (i + 1)) (fun _ => 0)
      have q3 : Below w2.heap.size w2 w3 := by rw [← h3]; exact (Below.refl _ _).alloc (Nat.le_refl _) _
      rw [h3, hmb] at IM0 hmk
      have IM := Lib.hid IM0
      have B3 := Lib.hid (B2.out.trans (q3.mono B2.out.size))
      have KA3 := Lib.hid (KA.out.below q3)
      clear h3 IM0 q3 hmb
      go_wp2_with fail
      refine (HPA.out _ B3.out).mono ?_
      rintro e w4 ⟨pb, rfl, kp, hpb, b4⟩
      have B4 := Lib.hid (B3.out.trans (b4.mono B3.out.size))
      have KP := Lib.hid kp
      have KA4 := Lib.hid (KA3.out.below b4)
      have IM4 := Lib.hid (IM.out.below b4)
      have HPB := Lib.hid (show pb ≠ mb by have := IM.out.lt; omega)
      have HA4 := Lib.hid (HA2.out.same (SameS.below B4.out))
      clear b4 kp hpb hmk
      go_wp2_with fail
      obtain ⟨nd, hnd⟩ : ∃ nd, needD (funT l) i (i + 1) = nd := ⟨_, rfl⟩
      obtain ⟨A, hA⟩ : ∃ A, askD (funT l) (i + 1) = A := ⟨_, rfl⟩
      have HND := Lib.hid hnd
      have HAA := Lib.hid hA
      rw [hnd] at KP IM4
      rw [hA] at KA4
      clear hnd hA
      have S0 := Lib.hid (show (runT l i args 0).err = 0 from rfl)
      go_loopw [14, 58] (fun v14 v58 wr => ∃ (c : Nat) (so : Option Addr) (sc : Nat) (s : SS), c ≤ i + 1 ∧ v14 = .slice so s.now.length sc ∧ v58 = .int .i64 c ∧ Hid (runT l i args c = s) ∧ Hid (s.err = 0) ∧ Hid (ARowS Sb wr so s.now) ∧ Hid (s.now.length ≤ sc) ∧ Hid (IMap wr mb c nd s.ins) ∧ Hid (BlockAt wr ab (rowZ (i + 1) A) 3) ∧ Hid (BlockAt wr pb (rowB (i + 1) nd) 4) ∧ Hid (Below w.heap.size w wr)) (fun _ v _ => i + 1 - (intOf v).toNat)
      case atStart => exact ⟨0, ao, ac, runT l i args 0, Nat.zero_le _, by (show Value.slice ao n ac = .slice ao l.length ac; rw [HN.out]), rfl, Lib.hid rfl, S0, HA4, HACL, IM4, KA4, KP, B4⟩
      case round =>
        obtain ⟨c, so, sc, s, hc, rfl, rfl, HRUN, HERR, HNOW, HSC, HIM, HKA, HKP, HB⟩ := hrel
        have HINV := Lib.hid (show Inv l i c s from by rw [← HRUN.out]; exact inv_run HRT.out HIN.out HINA.out (Int.not_lt.2 HLT.out) c hc (by rw [HRUN.out]; exact HERR.out))
        by_cases hcl : c < i + 1
        · have hcx : c < l.length := by rw [HN.out]; omega
          have hcI : (c : Int) < (i : Int) + 1 := by omega
          obtain ⟨lb, lof, rfl, hlb, hlcell⟩ := HA.out.cells (by omega)
          have hat := hlcell c hcx
          have HFX := Lib.hid (show funT l c = l[c] from getD_of hcx)
          have HSMX := Lib.hid (right_small HRT.out hcx)
          have HK7 := Lib.hid (fun h => kind7_len HRT.out hcx h)
          have HKID := Lib.hid (fun k (hk : k ∈ l[c].kids) => right_kids HRT.out hcx k hk)
          obtain ⟨x, hx⟩ : ∃ x, l[c] = x := ⟨_, rfl⟩
          rw [hx] at hat HFX HSMX HK7 HKID
          obtain ⟨xw, xwc, xk, xkc, a0', a1', a2', a3', a4', hwc, hkc, hxc⟩ := hat
          have a0 := (HB.out.cell hlb).trans a0'
          have a1 := (HB.out.cell hlb).trans a1'
          have a2 := (HB.out.cell hlb).trans a2'
          have a3 := (HB.out.cell hlb).trans a3'
          have a4 := (HB.out.cell hlb).trans a4'
          obtain ⟨wn, hwn⟩ : ∃ wn, wr.alloc (.cells #[.int .i64 x.kind, .string x.name, .int .i64 x.n, .slice xw x.words.length xwc, .slice xk x.kids.length xkc] 38) = wn := ⟨_, rfl⟩
          obtain ⟨kx, qx, zx⟩ := box_new hwn
          obtain ⟨c0, c1, c2, c3, c4⟩ := cell5 kx
          have QX := Lib.hid qx
          have BN := Lib.hid (HB.out.trans (qx.mono HB.out.size))
          have HXC := Lib.hid (And.intro hwc (And.intro hkc (hxc.below BN.out)))
          have IMN := Lib.hid (HIM.out.below qx)
          have KAN := Lib.hid (HKA.out.below qx)
          have KPN := Lib.hid (HKP.out.below qx)
          have NWN := Lib.hid (HNOW.out.same (SameS.below qx))
          have cp := HKP.out.cell c
          rw [rowB_get hcl] at cp
          have cq := KAN.out.cell c
          rw [rowZ_get hcl] at cq
          obtain ⟨ndc, hndc⟩ : ∃ b, nd c = b := ⟨_, rfl⟩
          rw [hndc] at cp
          have HNDC := Lib.hid hndc
          obtain ⟨azc, hazc⟩ : ∃ b, A c = b := ⟨_, rfl⟩
          rw [hazc] at cq
          have HAZC := Lib.hid hazc
          clear hx kx qx zx a0' a1' a2' a3' a4' hwc hkc hxc hlcell hndc hazc
          cases ndc
          · have HS := Lib.hid (show runT l i args (c + 1) = ⟨updI s.ins c c, s.now, 0⟩ from by
              rw [run_step, HRUN.out, HND.out, HAA.out]
              exact stepS_skip HERR.out (.inl HNDC.out))
            have IM2 := Lib.hid (IMN.out.skip HNDC.out (c : Int))
            have E0 := Lib.hid (show (0 : Int) = 0 from rfl)
            go_wp2_with fail
            go_roundw
            case rel => exact ⟨c + 1, so, sc, ⟨updI s.ins c c, s.now, 0⟩, by omega, rfl, by go_num, HS, Lib.hid rfl, NWN, HSC, IM2, KAN, KPN, BN⟩
            case measure => first | (simp [intOf]; done) | (simp [intOf]; omega)
          · by_cases h9 : x.kind = 9
            · have hq9 : (x.kind == 9) = true := by rw [beq_iff_eq]; exact h9
              have hpi := param_in HRT.out HIN.out (i := i) (c := c) (by omega) (by rw [HND.out]; exact HNDC.out) (by rw [HFX.out]; exact h9) (args := args) (Int.not_lt.2 HLT.out)
              rw [HFX.out] at hpi
              obtain ⟨N, hN⟩ : ∃ N : Nat, x.n = (N : Int) := ⟨x.n.toNat, by omega⟩
              have hNl : N < args.length := by omega
              have HS := Lib.hid (show runT l i args (c + 1) = ⟨updI s.ins c (args.getD N 0), s.now, 0⟩ from by
                rw [run_step, HRUN.out, HND.out, HAA.out, stepS_param HERR.out HNDC.out (fun g => by
                  have e := askD_self (f := funT l) (show c < i + 1 by omega)
                  have g1 := askF_ge (A := askD (funT l) c) (n := ask0 (funT l c)) (ks := (funT l c).kids)
                  rw [HAA.out, g] at e
                  rw [← e, HFX.out] at g1
                  unfold ask0 at g1
                  rw [if_pos h9] at g1
                  omega) (by rw [HFX.out]; exact h9), HFX.out, hN, Int.toNat_natCast])
              obtain ⟨gb, gof, rfl, hgb, hgcell⟩ := HG.out.cells (by omega)
              have cg := (BN.out.cell (p := ⟨gb, gof + N, none⟩) hgb).trans (hgcell N hNl)
              have hrg := HG6.out _ (getD_mem hNl)
              have hNga : N < ga := by rw [← HGA.out]; exact hNl
              have hNgaI : (N : Int) < (ga : Int) := by omega
              obtain ⟨vv, hvv⟩ : ∃ v, args.getD N 0 = v := ⟨_, rfl⟩
              rw [hvv] at cg hrg HS
              rw [hN] at a2 c2 hwn
              clear h9 hvv hgcell hgb hN hpi hNl
              obtain ⟨w8, hst, im8, g8⟩ := IMN.out.store (by omega) (v := vv) hrg
              have IM8 := Lib.hid im8
              have B8 := Lib.hid (BN.out.grown g8 BN.out.size (fun j hj => by injection hj with hj; rw [← hj]; exact HMB.out.1))
              have NW8 := Lib.hid (arowS_map (fun a v hc => IMN.out.none hc) g8 NWN.out)
              have KA8 := Lib.hid (block_map KAN.out HMB.out.2 g8)
              have KP8 := Lib.hid (block_map KPN.out HPB.out g8)
              clear im8 g8
              go_wp2_with fail
              go_roundw
              case rel => exact ⟨c + 1, so, sc, ⟨updI s.ins c vv, s.now, 0⟩, by omega, rfl, by go_num, HS, Lib.hid rfl, NW8, HSC, IM8, KA8, KP8, B8⟩
              case measure => first | (simp [intOf]; done) | (simp [intOf]; omega)
            · have hq9 : (x.kind == 9) = false := by rw [beq_eq_false_iff_ne]; exact h9
              by_cases hz : azc = 0
              · have HS := Lib.hid (show runT l i args (c + 1) = ⟨updI s.ins c c, s.now, 0⟩ from by
                  rw [run_step, HRUN.out, HND.out, HAA.out]
                  exact stepS_skip HERR.out (.inr (by rw [HAZC.out]; exact hz)))
                subst hz
                clear h9
                obtain ⟨w8, hst, im8, g8⟩ := IMN.out.store (by omega) (v := (c : Int)) (by omega)
                have IM8 := Lib.hid im8
                have B8 := Lib.hid (BN.out.grown g8 BN.out.size (fun j hj => by injection hj with hj; rw [← hj]; exact HMB.out.1))
                have NW8 := Lib.hid (arowS_map (fun a v hc => IMN.out.none hc) g8 NWN.out)
                have KA8 := Lib.hid (block_map KAN.out HMB.out.2 g8)
                have KP8 := Lib.hid (block_map KPN.out HPB.out g8)
                clear im8 g8
                go_wp2_with fail
                go_roundw
                case rel => exact ⟨c + 1, so, sc, ⟨updI s.ins c (c : Int), s.now, 0⟩, by omega, rfl, by go_num, HS, Lib.hid rfl, NW8, HSC, IM8, KA8, KP8, B8⟩
                case measure => first | (simp [intOf]; done) | (simp [intOf]; omega)
              · have hqz : (azc == 0) = false := by rw [beq_eq_false_iff_ne]; exact hz
                have HPUT0 := put_aps Sb s.now so sc x xw xk xwc xkc mb c nd s.ins wn (fun b hbb => HCD.out b (Nat.le_trans BN.out.size hbb)) NWN.out HINV.out.right HSC.out (HE.out.below BN.out) HXC.out.2.2 HSMX.out HXC.out.1 HK7.out IMN.out (by omega) (fun k hk => by
                  have g := HKID.out k hk
                  have g2 := need_kid (fun_kids HRT.out HIN.out) (c := c) (by omega) (by rw [HND.out]; exact HNDC.out) (by rw [HFX.out]; exact hk)
                  have g3 := HINV.out.ins k.toNat (by omega) g2
                  rw [HND.out] at g2
                  exact ⟨g.1, g.2, g2, g3.1, g3.2⟩)
                have HGOOD := Lib.hid (fun h => put_good (t := x) (I := s.ins) HINV.out.right h)
                obtain ⟨M, pz, ez, hRR⟩ : ∃ M pz ez, putT s.now x s.ins = (M, pz, ez) := ⟨_, _, _, rfl⟩
                rw [hRR] at HPUT0 HGOOD
                have HRR := Lib.hid hRR
                unfold tyV at HPUT0
                have HPUT := Lib.hid HPUT0
                clear HPUT0 hRR
                go_wp2_with fail
                refine HPUT.out.mono ?_
                rintro e w7 ⟨ao7, cap7, rfl, p1, p2, b7⟩
                have P1 := Lib.hid p1
                have P2 := Lib.hid p2
                have B7 := Lib.hid (BN.out.trans (b7.mono BN.out.size))
                have IM7 := Lib.hid (IMN.out.below b7)
                have KA7 := Lib.hid (KAN.out.below b7)
                have KP7 := Lib.hid (KPN.out.below b7)
                clear p1 p2 b7 c0 c1 c2 c3 c4 hwn a0 a1 a2 a3 a4
                by_cases he : ez = 0
                · have hqe : (ez != 0) = false := by simp [he]
                  obtain ⟨-, M', p, hpM, e', -, hR', -, -, -⟩ := HGOOD.out he
                  injection e' with e1 e2
                  injection e2 with e2 e3
                  subst e1
                  subst e2
                  have hM4 := (right_step hR').1.2
                  have HS := Lib.hid (show runT l i args (c + 1) = ⟨updI s.ins c p, M, 0⟩ from by
                    rw [run_step, HRUN.out, HND.out, HAA.out, stepS_put HERR.out HNDC.out (by rw [HAZC.out]; exact hz) (by rw [HFX.out]; exact h9) (by rw [HFX.out, HRR.out, he])])
                  obtain ⟨w8, hst, im8, g8⟩ := IM7.out.store (by omega) (v := (p : Int)) (by omega)
                  have IM8 := Lib.hid im8
                  have B8 := Lib.hid (B7.out.grown g8 B7.out.size (fun j hj => by injection hj with hj; rw [← hj]; exact HMB.out.1))
                  have NW8 := Lib.hid (arowS_map (fun a v hc => IM7.out.none hc) g8 P1.out)
                  have KA8 := Lib.hid (block_map KA7.out HMB.out.2 g8)
                  have KP8 := Lib.hid (block_map KP7.out HPB.out g8)
                  clear im8 g8 he hz h9 hpM hR' e3
                  go_wp2_with fail
                  go_roundw
                  case rel => exact ⟨c + 1, ao7, cap7, ⟨updI s.ins c p, M, 0⟩, by omega, rfl, by go_num, HS, Lib.hid rfl, NW8, P2, IM8, KA8, KP8, B8⟩
                  case measure => first | (simp [intOf]; done) | (simp [intOf]; omega)
                · have hqe : (ez != 0) = true := by simp [he]
                  have Hn := Lib.hid (show R = ([], 0, ez) by
                    rw [← HR.out]
                    refine sub_err (Int.not_lt.2 HLT.out) HINA.out (runS_bad (c := c + 1) (e := ez) ?_ he (by omega)) he
                    show (runT l i args (c + 1)).err = ez
                    rw [run_step, HRUN.out, HND.out, HAA.out, stepS_fail HERR.out HNDC.out (by rw [HAZC.out]; exact hz) (by rw [HFX.out]; exact h9) (by rw [HFX.out]; exact HRR.out) he])
                  clear he hz h9
                  go_wp2_with fail
                  go_ret3
                  exact padds_none Hn.out B7.out
        · obtain rfl : c = i + 1 := by omega
          have Hn := Lib.hid (show R = (s.now, s.ins i, 0) by rw [← HR.out]; exact sub_ok (Int.not_lt.2 HLT.out) HINA.out HRUN.out HERR.out)
          have hlk : ∀ nq, (Instr.lookup 108 (.map (some mb)) (.int .i64 (i : Int)) false).run Tryz.prog (wr.drewN nq) = .ok (.int .i64 (s.ins i)) (wr.drewN nq) := fun nq => IMap.look (HIM.out.below (below_drewN (Below.refl wr.heap.size wr) nq)) (by omega) (by rw [← HND.out]; exact needD_self _ _ _) (by omega)
          go_wp2_with fail
          go_quiet (fail)
          rename_i nq
          go_wp2_with fail
          go_ret3
          rw [Hn.out]
          exact ⟨so, sc, rfl, HNOW.out.same (SameS.below (below_drewN (Below.refl wr.heap.size wr) nq)), HSC.out, below_drewN HB.out nq⟩
set_option maxHeartbeats 4000000 in
theorem subst_aps (Sb : Nat → Prop) (l : List Ty) (ao : Option Addr) (ac : Nat) (i : Int) (args : List Int) (go : Option Addr) (gc : Nat) (w : World) (hcd : ∀ b, w.heap.size ≤ b → Sb b) (hl : ARowS Sb w ao l) (ll : l.length ≤ 1000) (hac : l.length ≤ ac) (hE : Env w) (hg : IRow w go args) (hgl : args.length ≤ 1000) (hg6 : ∀ a ∈ args, -9223372036854775808 ≤ a ∧ a ≤ 9223372036854775807) :
    Calls Tryz.prog 60 #[.slice ao l.length ac, .int .i64 i, .slice go args.length gc] w (PAddS Sb w (psubT l i args)) := by
  have HT0 := there_any l ao ac i w hl.out ll hac hE
  by_cases h0 : thereT l i = 0
  · obtain ⟨hr, g1, g2⟩ := there_zero h0
    obtain ⟨z, rfl⟩ : ∃ z : Nat, i = (z : Int) := ⟨i.toNat, by omega⟩
    have hP : psubT l z args = substT l z args := by unfold psubT; rw [if_pos h0, Int.toNat_natCast]
    rw [hP]
    exact subst_inS Sb l ao ac z args go gc w hcd hl hr hac hE (by omega) hg hgl hg6
  · have hP : psubT l i args = ([], 0, thereT l i) := by unfold psubT; rw [if_neg h0]
    rw [hP]
    obtain ⟨t, ht⟩ : ∃ t, thereT l i = t := ⟨_, rfl⟩
    rw [ht] at HT0 h0 ⊢
    have HT := Lib.hid HT0
    obtain ⟨n, hn⟩ : ∃ n, l.length = n := ⟨_, rfl⟩
    rw [hn] at HT ⊢
    have hq : (t != 0) = true := by simp [h0]
    clear ht h0 hl hcd hE ll hac HT0 hn hP hg hg6 hgl
    go_enter Tryz.func60, Tryz.ntmps60
    go_wp2_with fail
    refine HT.out.mono ?_
    rintro e w1 ⟨rfl, b1⟩
    have B1 := Lib.hid b1
    clear b1
    go_wp2_with fail
    go_ret3
    exact padds_none rfl B1.out
end Go.Proofs.YtkmnfkhchcoamaaGreatDoor

