/- Versions: which may be, which of two is ahead, the next one: the mathematics. -/
import Derived.Test.YtbdhmelebedpiaaGreatDoorSemWords
namespace Go.Proofs.YtbdhmelebedpiaaGreatDoor
open Go.RowKit

/-- A version. -/
structure Vr where
  ma : Int
  mi : Int
  pa : Int
  pre : List ByteArray
  build : List ByteArray
def okPre (s : ByteArray) : Bool := wordB s && preB s && (!numB s || (numRes s).2)
def rightB (v : Vr) : Bool := decide (0 ≤ v.ma) && decide (0 ≤ v.mi) && decide (0 ≤ v.pa) && fewB v.pre && fewB v.build && v.pre.all okPre && !v.build.any badWord
def sgn (a b : Int) : Int := if a < b then -1 else if b < a then 1 else 0
def cmpS (a b : ByteArray) : Int := if Op.bytesLess a.toList b.toList = true then -1 else if Op.bytesLess b.toList a.toList = true then 1 else 0
def cmpWord (a b : ByteArray) : Int := if numB a = true then (if numB b = true then sgn (numRes a).1 (numRes b).1 else -1) else if numB b = true then 1 else cmpS a b
def cmpL : List ByteArray → List ByteArray → Int
  | [], [] => 0
  | [], _ :: _ => -1
  | _ :: _, [] => 1
  | a :: r, b :: s => if cmpWord a b = 0 then cmpL r s else cmpWord a b
def orI (a b : Int) : Int := if a = 0 then b else a
def cmpN (a b : Vr) : Int := orI (sgn a.ma b.ma) (orI (sgn a.mi b.mi) (sgn a.pa b.pa))
def cmpV (a b : Vr) : Int := if cmpN a b = 0 then (if a.pre = [] ∨ b.pre = [] then sgn b.pre.length a.pre.length else cmpL a.pre b.pre) else cmpN a b
/-- A comparison that is an order. -/
structure Ord {α : Type} (f : α → α → Int) : Prop where
  turn : ∀ a b, f b a = - f a b
  chain : ∀ a b c, f a b ≤ 0 → f b c ≤ 0 → f a c ≤ 0 ∧ (f a c = 0 ↔ f a b = 0 ∧ f b c = 0)
theorem sgn_ord : Ord sgn := by
  constructor
  · intro a b; unfold sgn; split <;> split <;> first | omega | rfl | (split <;> omega) | skip
  · intro a b c; unfold sgn; intro h1 h2; repeat' split at h1
    all_goals repeat' split at h2
    all_goals repeat' split
    all_goals omega
theorem sgn_range (a b : Int) : -1 ≤ sgn a b ∧ sgn a b ≤ 1 := by unfold sgn; split <;> (try split) <;> omega
theorem less_trans (a : List UInt8) : ∀ (b c : List UInt8), Op.bytesLess b a = false → Op.bytesLess c b = false → Op.bytesLess c a = false := by
  induction a with
  | nil => intro b c _ _; cases c <;> rfl
  | cons x r ih =>
    intro b c h1 h2
    match b, c, h1, h2 with
    | [], _, h1, _ => simp [Op.bytesLess] at h1
    | y :: s, [], _, h2 => simp [Op.bytesLess] at h2
    | y :: s, z :: t, h1, h2 =>
      rw [Op.bytesLess, Bool.or_eq_false_iff, decide_eq_false_iff_not, UInt8.lt_iff_toNat_lt] at h1 h2 ⊢
      refine ⟨by omega, ?_⟩
      rw [Bool.and_eq_false_iff, beq_eq_false_iff_ne] at h1 h2 ⊢
      by_cases e : z = x
      · right
        obtain rfl := e
        have e2 : y = z := UInt8.toNat_inj.1 (by omega)
        obtain rfl := e2
        rcases h1.2 with h3 | h3
        · exact absurd rfl h3
        rcases h2.2 with h4 | h4
        · exact absurd rfl h4
        exact ih s t h3 h4
      · exact .inl e
theorem less_asym (a b : List UInt8) (h : Op.bytesLess a b = true) : Op.bytesLess b a = false := by
  rw [Bool.eq_false_iff]
  intro h2
  have h3 : ∀ (a b : List UInt8), Op.bytesLess a b = true → Op.bytesLess b a = true → False := by
    intro a
    induction a with
    | nil => intro b _ h2; cases b <;> simp [Op.bytesLess] at h2
    | cons x r ih =>
      intro b h1 h2
      match b, h1, h2 with
      | [], h1, _ => simp [Op.bytesLess] at h1
      | y :: s, h1, h2 =>
        rw [Op.bytesLess, Bool.or_eq_true, decide_eq_true_eq, UInt8.lt_iff_toNat_lt, Bool.and_eq_true, beq_iff_eq] at h1 h2
        rcases h1 with h1 | ⟨h1, h1'⟩
        · rcases h2 with h2 | ⟨h2, _⟩
          · omega
          · rw [h2] at h1; omega
        · rcases h2 with h2 | ⟨_, h2'⟩
          · rw [h1] at h2; omega
          · exact ih s h1' h2'
  exact h3 a b h h2
theorem cmpS_ord : Ord cmpS := by
  constructor
  · intro a b
    unfold cmpS
    cases h1 : Op.bytesLess a.toList b.toList
    · cases h2 : Op.bytesLess b.toList a.toList <;> simp
    · rw [less_asym _ _ h1]; simp
  · intro a b c h1 h2
    have k1 : Op.bytesLess b.toList a.toList = false := by
      rw [Bool.eq_false_iff]; intro e; unfold cmpS at h1; rw [less_asym _ _ e, e] at h1; simp at h1
    have k2 : Op.bytesLess c.toList b.toList = false := by
      rw [Bool.eq_false_iff]; intro e; unfold cmpS at h2; rw [less_asym _ _ e, e] at h2; simp at h2
    have k3 := less_trans _ _ _ k1 k2
    unfold cmpS
    rw [k1, k2, k3]
    cases h4 : Op.bytesLess a.toList b.toList
    · have e1 := less_tri _ _ h4 k1
      cases h5 : Op.bytesLess b.toList c.toList
      · have e2 := less_tri _ _ h5 k2
        rw [e1, e2, less_irr]; simp
      · rw [e1, h5]; simp
    · cases h5 : Op.bytesLess b.toList c.toList
      · have e2 := less_tri _ _ h5 k2
        rw [← e2, h4]; simp
      · have h6 : Op.bytesLess a.toList c.toList = true := by
          cases h7 : Op.bytesLess a.toList c.toList
          · have e := less_tri _ _ h7 k3
            rw [e, less_asym _ _ h5] at h4; cases h4
          · rfl
        rw [h6]; simp
theorem cmpWord_ord : Ord cmpWord := by
  constructor
  · intro a b
    unfold cmpWord
    cases ha : numB a <;> cases hb : numB b <;> simp
    · exact cmpS_ord.turn a b
    · exact sgn_ord.turn _ _
  · intro a b c
    unfold cmpWord
    cases ha : numB a <;> cases hb : numB b <;> cases hc : numB c <;> simp
    · intro h1 h2; simpa using cmpS_ord.chain a b c h1 h2
    · intro h1 h2; simpa using sgn_ord.chain _ _ _ h1 h2
theorem cmpL_ord : Ord cmpL := by
  constructor
  · intro a
    induction a with
    | nil => intro b; cases b <;> rfl
    | cons x r ih =>
      intro b
      cases b with
      | nil => rfl
      | cons y s =>
        have h1 := cmpWord_ord.turn x y
        rw [cmpL, cmpL, h1]
        by_cases h : cmpWord x y = 0
        · rw [if_pos h, if_pos (by omega), ih]
        · rw [if_neg h, if_neg (by omega)]
  · intro a
    induction a with
    | nil =>
      intro b c h1 h2
      cases b <;> cases c <;> simp [cmpL] at h1 h2 ⊢
    | cons x r ih =>
      intro b c h1 h2
      match b, c, h1, h2 with
      | [], _, h1, _ => simp [cmpL] at h1
      | y :: s, [], _, h2 => simp [cmpL] at h2
      | y :: s, z :: t, h1, h2 =>
        rw [cmpL] at h1 h2 ⊢
        rw [cmpL, cmpL]
        have k := cmpWord_ord.chain x y z
        by_cases e1 : cmpWord x y = 0
        · rw [if_pos e1] at h1 ⊢
          by_cases e2 : cmpWord y z = 0
          · rw [if_pos e2] at h2 ⊢
            obtain ⟨k1, k2⟩ := k (by omega) (by omega)
            have e3 : cmpWord x z = 0 := k2.2 ⟨e1, e2⟩
            rw [if_pos e3]
            exact ih s t h1 h2
          · rw [if_neg e2] at h2 ⊢
            obtain ⟨k1, k2⟩ := k (by omega) (by omega)
            have e3 : cmpWord x z ≠ 0 := fun e => e2 (k2.1 e).2
            rw [if_neg e3]
            exact ⟨k1, ⟨fun e => absurd e e3, fun e => absurd e.2 e2⟩⟩
        · rw [if_neg e1] at h1 ⊢
          have h2' : cmpWord y z ≤ 0 := by
            by_cases e2 : cmpWord y z = 0
            · omega
            · rw [if_neg e2] at h2; exact h2
          obtain ⟨k1, k2⟩ := k (by omega) h2'
          have e3 : cmpWord x z ≠ 0 := fun e => e1 (k2.1 e).1
          rw [if_neg e3]
          exact ⟨k1, ⟨fun e => absurd e e3, fun e => absurd e.1 e1⟩⟩
/-- The one's answer, or if it is 0 the other's. -/
theorem or_ord {α : Type} {f g : α → α → Int} (hf : Ord f) (hg : Ord g) : Ord (fun a b => orI (f a b) (g a b)) := by
  constructor
  · intro a b
    show orI _ _ = - orI _ _
    unfold orI
    rw [hf.turn a b, hg.turn a b]
    by_cases h : f a b = 0
    · rw [if_pos h, if_pos (by omega)]
    · rw [if_neg h, if_neg (by omega)]
  · intro a b c
    show orI _ _ ≤ 0 → orI _ _ ≤ 0 → orI _ _ ≤ 0 ∧ (orI _ _ = 0 ↔ orI _ _ = 0 ∧ orI _ _ = 0)
    unfold orI
    intro h1 h2
    have k := hf.chain a b c
    have m := hg.chain a b c
    by_cases e1 : f a b = 0 <;> by_cases e2 : f b c = 0
    · rw [if_pos e1] at h1 ⊢; rw [if_pos e2] at h2 ⊢
      have e3 := (k (by omega) (by omega)).2.2 ⟨e1, e2⟩
      rw [if_pos e3]; exact m h1 h2
    · rw [if_pos e1] at h1 ⊢; rw [if_neg e2] at h2 ⊢
      have k' := k (by omega) h2
      have e3 : f a c ≠ 0 := fun e => e2 (k'.2.1 e).2
      rw [if_neg e3]
      exact ⟨k'.1, ⟨fun e => absurd e e3, fun e => absurd e.2 e2⟩⟩
    · rw [if_neg e1] at h1 ⊢; rw [if_pos e2] at h2 ⊢
      have k' := k h1 (by omega)
      have e3 : f a c ≠ 0 := fun e => e1 (k'.2.1 e).1
      rw [if_neg e3]
      exact ⟨k'.1, ⟨fun e => absurd e e3, fun e => absurd e.1 e1⟩⟩
    · rw [if_neg e1] at h1 ⊢; rw [if_neg e2] at h2 ⊢
      have k' := k h1 h2
      have e3 : f a c ≠ 0 := fun e => e2 (k'.2.1 e).2
      rw [if_neg e3]
      exact ⟨k'.1, ⟨fun e => absurd e e3, fun e => absurd e.2 e2⟩⟩
theorem ord_by {α β : Type} {f : β → β → Int} (hf : Ord f) (g : α → β) : Ord (fun a b => f (g a) (g b)) :=
  ⟨fun _ _ => hf.turn _ _, fun _ _ _ => hf.chain _ _ _⟩
def cmpP (a b : Vr) : Int := if a.pre = [] ∨ b.pre = [] then sgn b.pre.length a.pre.length else cmpL a.pre b.pre
theorem sgn_pos {a b : Int} (h : b < a) : sgn a b = 1 := by unfold sgn; rw [if_neg (by omega), if_pos h]
theorem sgn_neg {a b : Int} (h : a < b) : sgn a b = -1 := by unfold sgn; rw [if_pos h]
theorem sgn_zero {a b : Int} (h : a = b) : sgn a b = 0 := by unfold sgn; rw [if_neg (by omega), if_neg (by omega)]
theorem cmpP_none {a b : Vr} (ha : a.pre = []) (hb : b.pre = []) : cmpP a b = 0 := by unfold cmpP; rw [if_pos (.inl ha), ha, hb]; rfl
theorem cmpP_first {a b : Vr} (ha : a.pre = []) (hb : b.pre ≠ []) : cmpP a b = 1 := by
  unfold cmpP; rw [if_pos (.inl ha), ha]; exact sgn_pos (by have := List.length_pos_iff.2 hb; simp; omega)
theorem cmpP_second {a b : Vr} (ha : a.pre ≠ []) (hb : b.pre = []) : cmpP a b = -1 := by
  unfold cmpP; rw [if_pos (.inr hb), hb]; exact sgn_neg (by have := List.length_pos_iff.2 ha; simp; omega)
theorem cmpP_both {a b : Vr} (ha : a.pre ≠ []) (hb : b.pre ≠ []) : cmpP a b = cmpL a.pre b.pre := by
  unfold cmpP; rw [if_neg (fun h => h.elim ha hb)]
theorem cmpP_ord : Ord cmpP := by
  constructor
  · intro a b
    by_cases ha : a.pre = [] <;> by_cases hb : b.pre = []
    · rw [cmpP_none ha hb, cmpP_none hb ha]; rfl
    · rw [cmpP_first ha hb, cmpP_second hb ha]
    · rw [cmpP_second ha hb, cmpP_first hb ha]; rfl
    · rw [cmpP_both ha hb, cmpP_both hb ha]; exact cmpL_ord.turn _ _
  · intro a b c h1 h2
    by_cases ha : a.pre = [] <;> by_cases hb : b.pre = [] <;> by_cases hc : c.pre = []
    · rw [cmpP_none ha hb, cmpP_none hb hc, cmpP_none ha hc]; simp
    · rw [cmpP_first hb hc] at h2; omega
    · rw [cmpP_first ha hb] at h1; omega
    · rw [cmpP_first ha hb] at h1; omega
    · rw [cmpP_second ha hb, cmpP_none hb hc, cmpP_second ha hc]; simp
    · rw [cmpP_first hb hc] at h2; omega
    · rw [cmpP_second hb hc, cmpP_second ha hc]; simp
    · rw [cmpP_both ha hb] at h1 ⊢; rw [cmpP_both hb hc] at h2 ⊢; rw [cmpP_both ha hc]; exact cmpL_ord.chain _ _ _ h1 h2
theorem cmpV_eq : cmpV = fun a b => orI (orI (sgn a.ma b.ma) (orI (sgn a.mi b.mi) (sgn a.pa b.pa))) (cmpP a b) := rfl
theorem cmpV_ord : Ord cmpV := by
  rw [cmpV_eq]
  exact or_ord (or_ord (ord_by sgn_ord Vr.ma) (or_ord (ord_by sgn_ord Vr.mi) (ord_by sgn_ord Vr.pa))) cmpP_ord
end Go.Proofs.YtbdhmelebedpiaaGreatDoor
