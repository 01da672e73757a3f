/- The next version: the mathematics. -/
import Derived.Test.YtbdhmelebedpiaaGreatDoorSemVerM
namespace Go.Proofs.YtbdhmelebedpiaaGreatDoor
open Go.RowKit

def GtN (a b : Vr) : Prop := b.ma < a.ma ∨ (a.ma = b.ma ∧ (b.mi < a.mi ∨ (a.mi = b.mi ∧ b.pa < a.pa)))
def EqN (a b : Vr) : Prop := a.ma = b.ma ∧ a.mi = b.mi ∧ a.pa = b.pa
theorem cmpN_ways (a b : Vr) : (cmpN a b = 1 ∧ GtN a b) ∨ (cmpN a b = 0 ∧ EqN a b) ∨ (cmpN a b = -1 ∧ GtN b a) := by
  unfold cmpN GtN EqN
  rcases Int.lt_trichotomy a.ma b.ma with h1 | h1 | h1
  · rw [sgn_neg h1]; right; right; exact ⟨rfl, .inl h1⟩
  · rcases Int.lt_trichotomy a.mi b.mi with h2 | h2 | h2
    · rw [sgn_zero h1, sgn_neg h2]; right; right; exact ⟨rfl, .inr ⟨h1.symm, .inl h2⟩⟩
    · rcases Int.lt_trichotomy a.pa b.pa with h3 | h3 | h3
      · rw [sgn_zero h1, sgn_zero h2, sgn_neg h3]; right; right; exact ⟨rfl, .inr ⟨h1.symm, .inr ⟨h2.symm, h3⟩⟩⟩
      · rw [sgn_zero h1, sgn_zero h2, sgn_zero h3]; right; left; exact ⟨rfl, h1, h2, h3⟩
      · rw [sgn_zero h1, sgn_zero h2, sgn_pos h3]; left; exact ⟨rfl, .inr ⟨h1, .inr ⟨h2, h3⟩⟩⟩
    · rw [sgn_zero h1, sgn_pos h2]; left; exact ⟨rfl, .inr ⟨h1, .inl h2⟩⟩
  · rw [sgn_pos h1]; left; exact ⟨rfl, .inl h1⟩
/-- How a release compares. -/
theorem cmpV_rel (a b : Vr) (ha : a.pre = []) : (cmpV a b = 1 ∧ (GtN a b ∨ (EqN a b ∧ b.pre ≠ []))) ∨ (cmpV a b = 0 ∧ EqN a b ∧ b.pre = []) ∨ (cmpV a b = -1 ∧ GtN b a) := by
  have e : cmpV a b = orI (cmpN a b) (cmpP a b) := rfl
  rcases cmpN_ways a b with ⟨h1, h2⟩ | ⟨h1, h2⟩ | ⟨h1, h2⟩
  · rw [e, h1]; exact .inl ⟨rfl, .inl h2⟩
  · by_cases hb : b.pre = []
    · rw [e, h1, cmpP_none ha hb]; exact .inr (.inl ⟨rfl, h2, hb⟩)
    · rw [e, h1, cmpP_first ha hb]; exact .inl ⟨rfl, .inr ⟨h2, hb⟩⟩
  · rw [e, h1]; exact .inr (.inr ⟨rfl, h2⟩)
def bigM : Int := 9223372036854775807
def preN (v : Vr) : Bool := decide (0 < v.pre.length)
theorem preN_iff {v : Vr} : preN v = true ↔ v.pre ≠ [] := by unfold preN; rw [decide_eq_true_iff, List.length_pos_iff]
def nextV (v : Vr) (k : Int) : Option Vr :=
  if k = 0 then (if preN v = true then some ⟨v.ma, v.mi, v.pa, [], []⟩ else if v.pa = bigM then none else some ⟨v.ma, v.mi, v.pa + 1, [], []⟩)
  else if k = 1 ∨ v.ma = 0 then (if preN v = true ∧ v.pa = 0 then some ⟨v.ma, v.mi, 0, [], []⟩ else if v.mi = bigM then none else some ⟨v.ma, v.mi + 1, 0, [], []⟩)
  else if preN v = true ∧ v.mi = 0 ∧ v.pa = 0 then some ⟨v.ma, 0, 0, [], []⟩ else if v.ma = bigM then none else some ⟨v.ma + 1, 0, 0, [], []⟩
/-- The numbers of a version that may be. -/
def NumsOk (v : Vr) : Prop := 0 ≤ v.ma ∧ 0 ≤ v.mi ∧ 0 ≤ v.pa ∧ v.ma ≤ bigM ∧ v.mi ≤ bigM ∧ v.pa ≤ bigM
/-- The ways of the next one. -/
theorem nextV_ways {v n : Vr} {k : Int} (h : nextV v k = some n) : n.pre = [] ∧ n.build = [] ∧
    ((k = 0 ∧ n.ma = v.ma ∧ n.mi = v.mi ∧ ((v.pre ≠ [] ∧ n.pa = v.pa) ∨ (v.pre = [] ∧ v.pa ≠ bigM ∧ n.pa = v.pa + 1))) ∨
     (k ≠ 0 ∧ (k = 1 ∨ v.ma = 0) ∧ n.ma = v.ma ∧ n.pa = 0 ∧ ((v.pre ≠ [] ∧ v.pa = 0 ∧ n.mi = v.mi) ∨ ((v.pre = [] ∨ v.pa ≠ 0) ∧ v.mi ≠ bigM ∧ n.mi = v.mi + 1))) ∨
     (k ≠ 0 ∧ k ≠ 1 ∧ v.ma ≠ 0 ∧ n.mi = 0 ∧ n.pa = 0 ∧ ((v.pre ≠ [] ∧ v.mi = 0 ∧ v.pa = 0 ∧ n.ma = v.ma) ∨ ((v.pre = [] ∨ v.mi ≠ 0 ∨ v.pa ≠ 0) ∧ v.ma ≠ bigM ∧ n.ma = v.ma + 1)))) := by
  unfold nextV at h
  by_cases hk : k = 0
  · rw [if_pos hk] at h
    by_cases hp : preN v = true
    · rw [if_pos hp] at h; cases h; exact ⟨rfl, rfl, .inl ⟨hk, rfl, rfl, .inl ⟨preN_iff.1 hp, rfl⟩⟩⟩
    · rw [if_neg hp] at h
      by_cases hm : v.pa = bigM
      · rw [if_pos hm] at h; cases h
      · rw [if_neg hm] at h; cases h
        exact ⟨rfl, rfl, .inl ⟨hk, rfl, rfl, .inr ⟨Decidable.byContradiction fun e => hp (preN_iff.2 e), hm, rfl⟩⟩⟩
  · rw [if_neg hk] at h
    by_cases hs : k = 1 ∨ v.ma = 0
    · rw [if_pos hs] at h
      by_cases hp : preN v = true ∧ v.pa = 0
      · rw [if_pos hp] at h; cases h; exact ⟨rfl, rfl, .inr (.inl ⟨hk, hs, rfl, rfl, .inl ⟨preN_iff.1 hp.1, hp.2, rfl⟩⟩)⟩
      · rw [if_neg hp] at h
        by_cases hm : v.mi = bigM
        · rw [if_pos hm] at h; cases h
        · rw [if_neg hm] at h; cases h
          refine ⟨rfl, rfl, .inr (.inl ⟨hk, hs, rfl, rfl, .inr ⟨?_, hm, rfl⟩⟩)⟩
          by_cases e : v.pre = []
          · exact .inl e
          · exact .inr fun e2 => hp ⟨preN_iff.2 e, e2⟩
    · rw [if_neg hs] at h
      by_cases hp : preN v = true ∧ v.mi = 0 ∧ v.pa = 0
      · rw [if_pos hp] at h; cases h; exact ⟨rfl, rfl, .inr (.inr ⟨hk, fun e => hs (.inl e), fun e => hs (.inr e), rfl, rfl, .inl ⟨preN_iff.1 hp.1, hp.2.1, hp.2.2, rfl⟩⟩)⟩
      · rw [if_neg hp] at h
        by_cases hm : v.ma = bigM
        · rw [if_pos hm] at h; cases h
        · rw [if_neg hm] at h; cases h
          refine ⟨rfl, rfl, .inr (.inr ⟨hk, fun e => hs (.inl e), fun e => hs (.inr e), rfl, rfl, .inr ⟨?_, hm, rfl⟩⟩)⟩
          by_cases e : v.pre = []
          · exact .inl e
          · by_cases e2 : v.mi = 0
            · exact .inr (.inr fun e3 => hp ⟨preN_iff.2 e, e2, e3⟩)
            · exact .inr (.inl e2)
theorem next_nums {v n : Vr} {k : Int} (hv : NumsOk v) (h : nextV v k = some n) : NumsOk n := by
  obtain ⟨_, _, hw⟩ := nextV_ways h
  unfold NumsOk bigM at *
  omega
/-- It is ahead. -/
theorem next_ahead {v n : Vr} {k : Int} (_hv : NumsOk v) (h : nextV v k = some n) : cmpV n v = 1 := by
  obtain ⟨hp, _, hw⟩ := nextV_ways h
  rcases cmpV_rel n v hp with ⟨h1, h2⟩ | ⟨h1, h2, h3⟩ | ⟨h1, h2⟩
  · exact h1
  · exfalso
    unfold EqN at h2
    rcases hw with ⟨_, a, b, ⟨c, d⟩ | ⟨c, d, e⟩⟩ | ⟨_, _, a, b, ⟨c, d, e⟩ | ⟨c, d, e⟩⟩ | ⟨_, _, _, a, b, ⟨c, d, e, f⟩ | ⟨c, d, e⟩⟩
    all_goals first | exact c h3 | omega
  · exfalso
    unfold GtN at h2
    unfold NumsOk at _hv
    rcases hw with ⟨_, a, b, ⟨c, d⟩ | ⟨c, d, e⟩⟩ | ⟨_, _, a, b, ⟨c, d, e⟩ | ⟨c, d, e⟩⟩ | ⟨_, _, _, a, b, ⟨c, d, e, f⟩ | ⟨c, d, e⟩⟩
    all_goals omega
/-- No release of its kind is between. -/
theorem next_between {v n o : Vr} {k : Int} (_hv : NumsOk v) (h : nextV v k = some n) (ho : NumsOk o) (hop : o.pre = []) (h0 : 0 ≤ k) (h1 : 0 < k → o.pa = 0) (h2 : 1 < k → 0 < v.ma → o.mi = 0) : ¬ (cmpV o v = 1 ∧ cmpV o n = -1) := by
  rintro ⟨c1, c2⟩
  obtain ⟨hp, _, hw⟩ := nextV_ways h
  unfold NumsOk at _hv ho
  have k1 : GtN o v ∨ (EqN o v ∧ v.pre ≠ []) := by
    rcases cmpV_rel o v hop with ⟨a, b⟩ | ⟨a, _⟩ | ⟨a, _⟩
    · exact b
    · omega
    · omega
  have k2 : GtN n o := by
    rcases cmpV_rel o n hop with ⟨a, _⟩ | ⟨a, _⟩ | ⟨_, b⟩
    · omega
    · omega
    · exact b
  unfold GtN EqN at k1
  unfold GtN at k2
  rcases hw with ⟨_, a, b, ⟨c, d⟩ | ⟨c, d, e⟩⟩ | ⟨_, _, a, b, ⟨c, d, e⟩ | ⟨c, d, e⟩⟩ | ⟨_, _, _, a, b, ⟨c, d, e, f⟩ | ⟨c, d, e⟩⟩
  all_goals first
    | omega
    | (rcases k1 with k1 | ⟨k1, k3⟩
       · omega
       · first | omega | (rcases c with c | c <;> first | exact k3 c | omega) | exact k3 c)
/-- Of a greater class it is not less. -/
theorem next_class {v n m : Vr} {k j : Int} (_hv : NumsOk v) (h : nextV v k = some n) (hj : nextV v j = some m) (h0 : 0 ≤ j) (h1 : j < k) : cmpV m n ≤ 0 := by
  obtain ⟨hp, _, hw⟩ := nextV_ways h
  obtain ⟨hp', _, hw'⟩ := nextV_ways hj
  unfold NumsOk at _hv
  rcases cmpV_rel m n hp' with ⟨a, b⟩ | ⟨a, _⟩ | ⟨a, _⟩
  · exfalso
    have k2 : GtN m n := by
      rcases b with b | ⟨_, b⟩
      · exact b
      · exact absurd hp b
    unfold GtN at k2
    rcases hw with ⟨_, a, b, ⟨c, d⟩ | ⟨c, d, e⟩⟩ | ⟨_, _, a, b, ⟨c, d, e⟩ | ⟨c, d, e⟩⟩ | ⟨_, _, _, a, b, ⟨c, d, e, f⟩ | ⟨c, d, e⟩⟩ <;>
    rcases hw' with ⟨_, a', b', ⟨c', d'⟩ | ⟨c', d', e'⟩⟩ | ⟨_, _, a', b', ⟨c', d', e'⟩ | ⟨c', d', e'⟩⟩ | ⟨_, _, _, a', b', ⟨c', d', e', f'⟩ | ⟨c', d', e'⟩⟩
    all_goals first
      | omega
      | exact c' c
      | exact c c'
      | (rcases c with c | c <;> first | exact c' c | omega)
      | (rcases c' with c' | c' <;> first | exact c c' | omega)
  · omega
  · omega
theorem nums_of {v : Vr} (h : rightB v = true) (h1 : v.ma ≤ bigM) (h2 : v.mi ≤ bigM) (h3 : v.pa ≤ bigM) : NumsOk v := by
  unfold rightB at h
  simp only [Bool.and_eq_true, decide_eq_true_eq] at h
  exact ⟨h.1.1.1.1.1.1, h.1.1.1.1.1.2, h.1.1.1.1.2, h1, h2, h3⟩
/-- A release is right by its numbers. -/
theorem right_rel {v : Vr} (hp : v.pre = []) (hb : v.build = []) (hv : NumsOk v) : rightB v = true := by
  unfold rightB
  rw [hp, hb, decide_eq_true hv.1, decide_eq_true hv.2.1, decide_eq_true hv.2.2.1]
  rfl
end Go.Proofs.YtbdhmelebedpiaaGreatDoor
