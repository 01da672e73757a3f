import Derived.Test.YtkmnfkhchcoamaaGreatDoorTypMade
import Derived.Test.YtkmnfkhchcoamaaGreatDoorTypAt
import Derived.Test.YtkmnfkhchcoamaaGreatDoorTyB
/- The reference's Add. -/
namespace Go.Proofs.YtkmnfkhchcoamaaGreatDoor
open Go.RowKit
set_option linter.unusedSimpArgs false
set_option linter.unusedVariables false

/-- What Add gives: the arena, the place, the error. -/
def addT (l : List Ty) (t : Ty) : List Ty × Int × Int :=
  if 0 ≤ atT l t then (l, atT l t, 0) else if madeB l t = false then ([], 0, 1) else if l.length = 400 then ([], 0, 7) else (l ++ [t], (l.length : Int), 0)
theorem arow_zs {w : World} {b off : Nat} {l : List Ty} (h : ∀ i (h : i < l.length), TyAt w b (off + i * 5) l[i]) : ∀ n, n ≤ l.length → ∃ zs : List Tz, zs.map (·.t) = l.take n ∧ zs.length = n ∧ (∀ z ∈ zs, InZ w z) ∧ ∀ j u, (tzC zs)[j]? = some u → w.cell? ⟨b, off + j, none⟩ = some u
  | 0, _ => ⟨[], by simp, rfl, by simp, fun j u hu => by simp [tzC] at hu⟩
  | n + 1, hn => by
    obtain ⟨zs, h1, h2, h3, h4⟩ := arow_zs h n (by omega)
    obtain ⟨wo, wc, ko, kc, c0, c1, c2, c3, c4, q1, q2, q3⟩ := h n (by omega)
    refine ⟨zs ++ [⟨l[n], wo, wc, ko, kc⟩], ?_, by rw [List.length_append, h2]; rfl, fun z hz => ?_, fun j u hu => ?_⟩
    · rw [List.map_append, h1, List.take_add_one, List.getElem?_eq_getElem (by omega)]; rfl
    · rcases List.mem_append.1 hz with hz | hz
      · exact h3 z hz
      · rw [List.mem_singleton.1 hz]; exact ⟨q1, q2, q3⟩
    · rw [tzC_add] at hu
      have hl := tzC_len zs
      rw [h2] at hl
      by_cases hj : j < n * 5
      · rw [List.getElem?_append_left (by omega)] at hu
        exact h4 j u hu
      · rw [List.getElem?_append_right (by omega), hl] at hu
        obtain ⟨r, hr⟩ : ∃ r, j = n * 5 + r := ⟨j - n * 5, by omega⟩
        subst hr
        rw [show n * 5 + r - n * 5 = r by omega] at hu
        rw [← Nat.add_assoc]
        match r, hu with
        | 0, hu => simp [tzC1] at hu; rw [← hu]; exact c0
        | 1, hu => simp [tzC1] at hu; rw [← hu]; exact c1
        | 2, hu => simp [tzC1] at hu; rw [← hu]; exact c2
        | 3, hu => simp [tzC1] at hu; rw [← hu]; exact c3
        | 4, hu => simp [tzC1] at hu; rw [← hu]; exact c4
        | r + 5, hu => simp [tzC1] at hu
theorem addr_add (b o j : Nat) : (⟨b, o, none⟩ : Addr).add j = ⟨b, o + j, none⟩ := by unfold Addr.add; split <;> simp_all
theorem cell3A {w : World} {b : Nat} {a0 a1 a2 : Value} {T : TypeId} (h : BlockAt w b #[a0, a1, a2] T) :
    w.cell? ⟨b, 0, none⟩ = some a0 ∧ w.cell? ⟨b, 1, none⟩ = some a1 ∧ w.cell? ⟨b, 2, none⟩ = some a2 := ⟨h.cell 0, h.cell 1, h.cell 2⟩
theorem ret_A {w : World} {a : Value} {i j : Int} {n m : Nat} : True := trivial
theorem push_all0 {W wr w1 : World} {base : Nat} {v v' : Value} {l r : List Tz} {n : Nat} (hn : n = l.length + r.length) (hW : W.heap.size ≤ base) (ho : OwnZ wr base v l) (hB : Below W.heap.size W wr)
    (h1 : w1.ownsRow base 38 5 v' n (tzC l ++ tzC r)) (hg : wr.grownBy w1 v.ownBlock) :
    OwnZ w1 base v' (l ++ r) ∧ Below W.heap.size W w1 := by
  refine ⟨?_, hB.grown hg (by have := hB.size; omega) (fun k hk => ?_)⟩
  · subst hn
    unfold OwnZ
    rw [tzC_app, List.length_append]
    exact h1
  · have := World.ownsRow.lt ho k hk
    omega
theorem own_set {w : World} {base : Nat} {v : Value} {l : List Tz} (h : OwnZ w base v l) {b : Nat} (hb : v.ownBlock ≠ some b) (j : Nat) (u : Value) : OwnZ (w.setCell ⟨b, j, none⟩ u) base v l := by
  obtain ⟨h1, h2⟩ := h
  refine ⟨h1, ?_⟩
  rcases h2 with h2 | ⟨g, cap, cur, rfl, hg, hcur, rest⟩
  · exact .inl h2
  · have hne : g ≠ b := fun e => hb (by rw [e]; rfl)
    exact .inr ⟨g, cap, cur, rfl, hg, (show BlockAt (w.setCell ⟨b, j, none⟩ u) g cur _ from BlockAt.other (show BlockAt w g cur _ from hcur) hne j u), rest⟩
/-- What Add gives, in memory. -/
def AddR (w : World) (R : List Ty × Int × Int) (e : Ending) (w' : World) : Prop := ∃ ao cap, e = .returned (.agg #[.slice ao R.1.length cap, .int .i64 R.2.1, .int .i64 R.2.2]) ∧ ARow w' ao R.1 ∧ Below w.heap.size w w'
end Go.Proofs.YtkmnfkhchcoamaaGreatDoor

