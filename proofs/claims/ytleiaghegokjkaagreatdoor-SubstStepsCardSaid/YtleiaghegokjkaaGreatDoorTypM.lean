/- Types, as functions: what both the program and the document's answer compute. -/
import Derived.Test.YtleiaghegokjkaaGreatDoorSrcBase
namespace Go.Proofs.YtleiaghegokjkaaGreatDoor
open Go.RowKit
set_option linter.unusedSimpArgs false
set_option linter.unusedVariables false

/-- A type. -/
structure Ty where
  kind : Int
  name : ByteArray
  n : Int
  words : List ByteArray
  kids : List Int
deriving DecidableEq
/-- Its words are short. -/
def TySm (t : Ty) : Prop := ∀ s ∈ t.words, s.size ≤ 30
def basicNames : List ByteArray := [⟨#[98, 111, 111, 108]⟩, ⟨#[115, 116, 114, 105, 110, 103]⟩, ⟨#[105, 110, 116]⟩, ⟨#[105, 110, 116, 56]⟩, ⟨#[105, 110, 116, 49, 54]⟩, ⟨#[105, 110, 116, 51, 50]⟩, ⟨#[105, 110, 116, 54, 52]⟩, ⟨#[117, 105, 110, 116]⟩, ⟨#[117, 105, 110, 116, 56]⟩, ⟨#[117, 105, 110, 116, 49, 54]⟩, ⟨#[117, 105, 110, 116, 51, 50]⟩, ⟨#[117, 105, 110, 116, 54, 52]⟩, ⟨#[102, 108, 111, 97, 116, 51, 50]⟩, ⟨#[102, 108, 111, 97, 116, 54, 52]⟩,
  ⟨#[117, 110, 116, 121, 112, 101, 100, 32, 98, 111, 111, 108]⟩, ⟨#[117, 110, 116, 121, 112, 101, 100, 32, 115, 116, 114, 105, 110, 103]⟩, ⟨#[117, 110, 116, 121, 112, 101, 100, 32, 105, 110, 116]⟩, ⟨#[117, 110, 116, 121, 112, 101, 100, 32, 114, 117, 110, 101]⟩, ⟨#[117, 110, 116, 121, 112, 101, 100, 32, 102, 108, 111, 97, 116]⟩, ⟨#[117, 110, 116, 121, 112, 101, 100, 32, 110, 105, 108]⟩]
def basics : List Ty := basicNames.map (fun s => ⟨0, s, 0, [], []⟩) ++ [⟨7, ⟨#[]⟩, 0, [], []⟩, ⟨7, ⟨#[]⟩, 1, [], []⟩]
theorem basics_len : basics.length = 22 := rfl
/-- A word's name. -/
def fieldT (w : ByteArray) : ByteArray := if 0 < w.size ∧ byteAt w 0 = 43 then w.extract 1 w.size else w
def blankB (w : ByteArray) : Bool := w.toList == [95]
def markB (w : ByteArray) : Bool := w.toList == [61] || w.toList == [126]
/-- May the field at place i be, for those ahead? -/
def fieldB (ws : List ByteArray) (i : Nat) (w : ByteArray) : Bool :=
  nameB (fieldT w) && (ws.take i).all (fun x => !((fieldT x).toList == (fieldT w).toList && !blankB (fieldT w)))
def fieldsB (ws : List ByteArray) : Bool := (List.range ws.length).all fun i => fieldB ws i (ws.getD i ⟨#[]⟩)
def kindAt (l : List Ty) (k : Int) : Int := ((l[k.toNat]?).map (·.kind)).getD 0
/-- May the element at place i be: its word, its kid, those ahead of them. -/
def elemB (l : List Ty) (n : Int) (ahead : Option (ByteArray × Int)) (w : ByteArray) (k : Int) : Bool :=
  if markB w = true then
    decide (2 ≤ n ∧ kindAt l k ≠ 7 ∧ kindAt l k ≠ 9 ∧ ¬ (14 ≤ k ∧ k ≤ 19)) && (match ahead with | none => true | some (v, j) => !(markB v && decide (k ≤ j)))
  else nameB w && decide (kindAt l k = 5) && (match ahead with | none => true | some (v, _) => !markB v && Op.bytesLess v.toList w.toList)
def aheadOf (ws : List ByteArray) (ks : List Int) (i : Nat) : Option (ByteArray × Int) := if i = 0 then none else some (ws.getD (i - 1) ⟨#[]⟩, ks.getD (i - 1) 0)
def elemsB (l : List Ty) (n : Int) (ws : List ByteArray) (ks : List Int) : Bool := (List.range ws.length).all fun i => elemB l n (aheadOf ws ks i) (ws.getD i ⟨#[]⟩) (ks.getD i 0)
/-- Where the point is. -/
def dotAt (s : ByteArray) : Option Nat := (List.range s.size).find? fun i => decide (byteAt s i = 46)
def namedB (s : ByteArray) : Bool := match dotAt s with
  | none => false
  | some i => nameB (s.extract 0 i) && nameB (s.extract (i + 1) s.size)
def kidsB (l : List Ty) (ks : List Int) : Bool := ks.all fun k => decide (0 ≤ k ∧ k < (l.length : Int))
def bareB (t : Ty) : Bool := decide (t.name.size = 0 ∧ t.words = [])
/-- Is a type made right, for a row of others? -/
def madeB (l : List Ty) (t : Ty) : Bool :=
  kidsB l t.kids && (
  if t.kind = 1 ∨ t.kind = 2 then bareB t && decide (t.kids.length = 1 ∧ t.n = 0)
  else if t.kind = 3 then bareB t && decide (t.kids.length = 1 ∧ 0 ≤ t.n ∧ t.n ≤ 2147483648)
  else if t.kind = 4 then bareB t && decide (t.kids.length = 2 ∧ t.n = 0)
  else if t.kind = 5 then bareB t && decide (t.kids.length ≤ 16 ∧ (t.n = 0 ∨ t.n = 1 ∧ 0 < t.kids.length))
  else if t.kind = 6 then decide (t.name.size = 0 ∧ t.n = 0 ∧ t.kids.length ≤ 16 ∧ t.words.length = t.kids.length) && fieldsB t.words
  else if t.kind = 7 then decide (t.name.size = 0 ∧ 0 ≤ t.n ∧ t.n ≤ 3 ∧ t.kids.length ≤ 16 ∧ t.words.length = t.kids.length) && elemsB l t.n t.words t.kids
  else if t.kind = 8 then namedB t.name && decide (t.kids.length ≤ 16 ∧ t.n = 0 ∧ t.words = [])
  else if t.kind = 9 then bareB t && decide (t.kids.length = 0 ∧ 0 ≤ t.n ∧ t.n < 16)
  else false)
/-- The place of a type; -1: it is not there. -/
def atT (l : List Ty) (t : Ty) : Int := match l.findIdx? (fun x => decide (x = t)) with
  | none => -1
  | some i => (i : Int)
/-- May the type at place i be? -/
def stepB (l : List Ty) (i : Nat) (t : Ty) : Bool :=
  if i < 22 then decide (some t = basics[i]?) else madeB (l.take i) t && decide (t ∉ l.take i)
/-- May an arena be? -/
def rightT (l : List Ty) : Bool := decide (22 ≤ l.length ∧ l.length ≤ 400) && (List.range l.length).all fun i => match l[i]? with
  | none => true
  | some t => stepB l i t
theorem atT_neg {l : List Ty} {t : Ty} : atT l t < 0 ↔ t ∉ l := by
  unfold atT
  cases h : l.findIdx? (fun x => decide (x = t)) with
  | none =>
    rw [List.findIdx?_eq_none_iff] at h
    simp only
    constructor
    · intro _ hm
      have := h t hm
      simp at this
    · intro _; decide
  | some i =>
    simp only
    constructor
    · intro hh; omega
    · intro hm
      rw [List.findIdx?_eq_some_iff_getElem] at h
      obtain ⟨hi, hp, _⟩ := h
      exact absurd (by rw [← of_decide_eq_true hp]; exact List.getElem_mem hi) hm
end Go.Proofs.YtleiaghegokjkaaGreatDoor
