/- Small facts for the laws of fractions. -/
import Derived.Test.YthmhljfaenekfaaRatMore
import Derived.Test.YthmhljfaenekfaaRatIs
import Derived.Deep.DeepCutAuto
namespace Go.Proofs.Ythmhljfaenekfaa
open Go.RowKit NM

theorem Sl.form {w : World} {v : Value} {xs : List Int} (h : Sl w v xs) : ∃ o n c, v = .slice o n c := by
  obtain ⟨o, c, h, _⟩ := h
  exact ⟨o, _, c, h⟩
theorem Sl.set3any {w : World} {v : Value} {xs : List Int} {a a' : Bool} {b : Nat} {t : TypeId} {o1 o2 o3 o4 : Option Addr} {n1 n2 n3 n4 c1 c2 c3 c4 : Nat} (h : Sl w v xs) (hb : BlockAt w b #[.bool a', .slice o3 n3 c3, .slice o4 n4 c4] t) :
    Sl (((w.setCell ⟨b, 0, none⟩ (.bool a)).setCell ⟨b, 1, none⟩ (.slice o1 n1 c1)).setCell ⟨b, 2, none⟩ (.slice o2 n2 c2)) v xs := by
  obtain ⟨ao, ca, h1, h2, h3, h4⟩ := h
  have s1 := hb.set 0 (.bool a)
  have s2 := s1.set 1 (.slice o1 n1 c1)
  exact ⟨ao, ca, h1, h2, ((h3.set_other hb (noLimb3 (fun _ h => by cases h) (fun _ h => by cases h)) _ _).set_other s1 (noLimb3 (fun _ h => by cases h) (fun _ h => by cases h)) _ _).set_other s2 (noLimb3 (fun _ h => by cases h) (fun _ h => by cases h)) _ _, h4⟩
/-- Both arguments, cut. -/
theorem both_set {w W : World} {a b a' b' : Bool} {p : Nat} {t : TypeId} {o1 o2 o3 o4 u1 u2 u3 u4 : Option Addr} {n1 n2 n3 n4 c1 c2 c3 c4 m1 m2 m3 m4 e1 e2 e3 e4 : Nat} {x1 x2 x3 x4 : List Int}
    (ha : BlockAt W p #[.bool a', .slice u1 m1 e1, .slice u2 m2 e2] t) (hb : BlockAt W (p + 1) #[.bool b', .slice u3 m3 e3, .slice u4 m4 e4] t) (hp : w.heap.size ≤ p) (B : Below w.heap.size w W)
    (h1 : Sl W (.slice o1 n1 c1) x1) (h2 : Sl W (.slice o2 n2 c2) x2) (h3 : Sl W (.slice o3 n3 c3) x3) (h4 : Sl W (.slice o4 n4 c4) x4) :
    ∃ V, V = ((((((W.setCell ⟨p, 0, none⟩ (.bool a)).setCell ⟨p, 1, none⟩ (.slice o1 n1 c1)).setCell ⟨p, 2, none⟩ (.slice o2 n2 c2)).setCell ⟨p + 1, 0, none⟩ (.bool b)).setCell ⟨p + 1, 1, none⟩ (.slice o3 n3 c3)).setCell ⟨p + 1, 2, none⟩ (.slice o4 n4 c4)) ∧
      BlockAt V p #[.bool a, .slice o1 n1 c1, .slice o2 n2 c2] t ∧ BlockAt V (p + 1) #[.bool b, .slice o3 n3 c3, .slice o4 n4 c4] t ∧ (Sl V (.slice o1 n1 c1) x1 ∧ Sl V (.slice o2 n2 c2) x2 ∧ Sl V (.slice o3 n3 c3) x3 ∧ Sl V (.slice o4 n4 c4) x4) ∧ Below w.heap.size w V := by
  refine ⟨_, rfl, ?_⟩
  have a1 := ((ha.set 0 (.bool a)).set 1 (.slice o1 n1 c1)).set 2 (.slice o2 n2 c2)
  have b1 := ((hb.other (show p + 1 ≠ p by omega) 0 (.bool a)).other (show p + 1 ≠ p by omega) 1 (.slice o1 n1 c1)).other (show p + 1 ≠ p by omega) 2 (.slice o2 n2 c2)
  have k1 := Sl.set3any (a := a) (o1 := o1) (n1 := n1) (c1 := c1) (o2 := o2) (n2 := n2) (c2 := c2) h1 ha
  have k2 := Sl.set3any (a := a) (o1 := o1) (n1 := n1) (c1 := c1) (o2 := o2) (n2 := n2) (c2 := c2) h2 ha
  have k3 := Sl.set3any (a := a) (o1 := o1) (n1 := n1) (c1 := c1) (o2 := o2) (n2 := n2) (c2 := c2) h3 ha
  have k4 := Sl.set3any (a := a) (o1 := o1) (n1 := n1) (c1 := c1) (o2 := o2) (n2 := n2) (c2 := c2) h4 ha
  have B1 := ((B.setCell (p := ⟨p, 0, none⟩) hp (.bool a)).setCell (p := ⟨p, 1, none⟩) hp (.slice o1 n1 c1)).setCell (p := ⟨p, 2, none⟩) hp (.slice o2 n2 c2)
  generalize ((W.setCell ⟨p, 0, none⟩ (.bool a)).setCell ⟨p, 1, none⟩ (.slice o1 n1 c1)).setCell ⟨p, 2, none⟩ (.slice o2 n2 c2) = U at *
  have hp1 : w.heap.size ≤ p + 1 := by omega
  exact ⟨((a1.other (by omega) _ _).other (by omega) _ _).other (by omega) _ _, ((b1.set 0 (.bool b)).set 1 (.slice o3 n3 c3)).set 2 (.slice o4 n4 c4), ⟨k1.set3any b1, k2.set3any b1, k3.set3any b1, k4.set3any b1⟩, ((B1.setCell (p := ⟨p + 1, 0, none⟩) hp1 _).setCell (p := ⟨p + 1, 1, none⟩) hp1 _).setCell (p := ⟨p + 1, 2, none⟩) hp1 _⟩
theorem RkPost.ok {over : Prop} {x : Rat} {e : Ending} {w : World} (h : RkPost over x e w) (ho : ¬ over) : ∃ r, e = .returned (.tuple #[r, .int .i64 0]) ∧ RatN w r x := by
  rcases h with ⟨_, h⟩ | ⟨h, _⟩
  · exact h
  · exact absurd h ho
theorem RkPost.over {over : Prop} {x : Rat} {e : Ending} {w : World} (h : RkPost over x e w) (ho : over) : e = .returned (.tuple #[.agg #[.bool false, .slice none 0 0, .slice none 0 0], .int .i64 2]) := by
  rcases h with ⟨h, _⟩ | ⟨_, h⟩
  · exact absurd ho h
  · exact h
theorem CmpPost.ok {over : Prop} {n : Int} {e : Ending} (h : CmpPost over n e) (ho : ¬ over) : e = .returned (.tuple #[.int .i64 n, .int .i64 0]) := by
  rcases h with ⟨_, h⟩ | ⟨h, _⟩
  · exact h
  · exact absurd h ho
theorem CmpPost.over {over : Prop} {n : Int} {e : Ending} (h : CmpPost over n e) (ho : over) : e = .returned (.tuple #[.int .i64 0, .int .i64 2]) := by
  rcases h with ⟨h, _⟩ | ⟨_, h⟩
  · exact absurd ho h
  · exact h
theorem overC_comm {x y : Rat} (h : OverC x y) : OverC y x := h.symm
theorem overA_comm {x y : Rat} (h : OverA y x) : OverA x y := by
  unfold OverA OverS at *
  rcases h with h | h | h | h
  · exact .inr (.inl h)
  · exact .inl h
  · exact .inr (.inr (.inl (by rw [Nat.mul_comm]; exact h)))
  · exact .inr (.inr (.inr (by rw [Nat.add_comm]; exact h)))
theorem same_eq {w : World} {v u : Value} {x : Rat} (h1 : RatN w v x) (h2 : RatN w u x) :
    Calls Try.prog 13 #[v, u] w fun e w' => e = .returned (.bool true) ∧ Below w.heap.size w w' := by
  have h := same_rat h1 h2
  rw [decide_eq_true rfl] at h
  exact h
theorem len_zero {w : World} {s : Bool} {o o' : Option Addr} {n c n' c' : Nat} {y : Rat} (h : RatN w (.agg #[.bool s, .slice o n c, .slice o' n' c']) y) : (¬ (0 : Int) < n ∧ y = 0) ∨ ((0 : Int) < n ∧ y ≠ 0) := by
  obtain ⟨a, d, e, h1, _⟩ := h
  cases e
  obtain ⟨_, _, _, e, _, h2, _⟩ := h1.len
  cases e
  by_cases hy : y = 0
  · refine .inl ⟨?_, hy⟩
    have := h2.2 (by rw [hy]; rfl)
    omega
  · refine .inr ⟨?_, hy⟩
    have hn : y.num ≠ 0 := fun h => hy (Rat.num_eq_zero.1 h)
    have : n ≠ 0 := fun h => by have := h2.1 h; omega
    omega
def BadPair (w : World) (v u : Value) : Prop := BadR w v ∨ (∃ x, RatN w v x) ∧ BadR w u
theorem BadPair.below {w w' : World} {v u : Value} (h : BadPair w v u) (hb : Below w.heap.size w w') : BadPair w' v u := by
  rcases h with h | ⟨⟨x, h⟩, h2⟩
  · exact .inl (h.below hb)
  · exact .inr ⟨⟨x, h.below hb⟩, h2.below hb⟩
theorem rat_tri (x y : Rat) : x < y ∨ x = y ∨ y < x := by
  by_cases h : x < y
  · exact .inl h
  · by_cases h2 : y < x
    · exact .inr (.inr h2)
    · exact .inr (.inl (Rat.le_antisymm (Rat.not_lt.1 h2) (Rat.not_lt.1 h)))
theorem rat_not {x y : Rat} (h : x < y) : ¬ y < x ∧ x ≠ y := by
  constructor
  · intro h2
    rw [Rat.lt_iff] at h h2
    omega
  · intro h2
    rw [h2] at h
    exact Rat.lt_irrefl h
theorem sgn_ways (x y : Rat) : (ratSgn x y = -1 ∧ ratSgn y x = 1 ∧ x ≠ y) ∨ (ratSgn x y = 0 ∧ ratSgn y x = 0 ∧ x = y) ∨ (ratSgn x y = 1 ∧ ratSgn y x = -1 ∧ x ≠ y) := by
  rcases rat_tri x y with h | h | h
  · exact .inl ⟨by rw [ratSgn, if_pos h], by rw [ratSgn, if_neg (rat_not h).1, if_pos h], (rat_not h).2⟩
  · subst h
    exact .inr (.inl ⟨by rw [ratSgn, if_neg Rat.lt_irrefl, if_neg Rat.lt_irrefl], by rw [ratSgn, if_neg Rat.lt_irrefl, if_neg Rat.lt_irrefl], rfl⟩)
  · exact .inr (.inr ⟨by rw [ratSgn, if_neg (rat_not h).1, if_pos h], by rw [ratSgn, if_pos h], fun e => (rat_not h).2 e.symm⟩)
end Go.Proofs.Ythmhljfaenekfaa
