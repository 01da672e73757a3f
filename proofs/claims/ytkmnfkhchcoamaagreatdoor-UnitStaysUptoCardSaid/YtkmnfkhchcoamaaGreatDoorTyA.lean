import Derived.Test.YtkmnfkhchcoamaaGreatDoorSrcBase
import Derived.Test.YtkmnfkhchcoamaaGreatDoorSrcName
import Derived.Test.YtkmnfkhchcoamaaGreatDoorBlock
import Derived.WalkSmall
import Derived.IntWalk
import Derived.Below
import Derived.Deep.QuietTactic
import Derived.BigQuiet
/- Types, as functions: what both the program and the document's answer compute. -/
namespace Go.Proofs.YtkmnfkhchcoamaaGreatDoor
open Go.RowKit
set_option linter.unusedSimpArgs false
set_option linter.unusedVariables false

/-- A type. -/
structure Ty where
  kind : Int
  name : ByteArray
  n : Int
  words : List ByteArray
  kids : List Int
deriving DecidableEq
/-- Its words are short. -/
def TySm (t : Ty) : Prop := ∀ s ∈ t.words, s.size ≤ 1100000
def basicNames : List ByteArray := [⟨#[98, 111, 111, 108]⟩, ⟨#[115, 116, 114, 105, 110, 103]⟩, ⟨#[105, 110, 116]⟩, ⟨#[105, 110, 116, 56]⟩, ⟨#[105, 110, 116, 49, 54]⟩, ⟨#[105, 110, 116, 51, 50]⟩, ⟨#[105, 110, 116, 54, 52]⟩, ⟨#[117, 105, 110, 116]⟩, ⟨#[117, 105, 110, 116, 56]⟩, ⟨#[117, 105, 110, 116, 49, 54]⟩, ⟨#[117, 105, 110, 116, 51, 50]⟩, ⟨#[117, 105, 110, 116, 54, 52]⟩, ⟨#[102, 108, 111, 97, 116, 51, 50]⟩, ⟨#[102, 108, 111, 97, 116, 54, 52]⟩,
  ⟨#[117, 110, 116, 121, 112, 101, 100, 32, 98, 111, 111, 108]⟩, ⟨#[117, 110, 116, 121, 112, 101, 100, 32, 115, 116, 114, 105, 110, 103]⟩, ⟨#[117, 110, 116, 121, 112, 101, 100, 32, 105, 110, 116]⟩, ⟨#[117, 110, 116, 121, 112, 101, 100, 32, 114, 117, 110, 101]⟩, ⟨#[117, 110, 116, 121, 112, 101, 100, 32, 102, 108, 111, 97, 116]⟩, ⟨#[117, 110, 116, 121, 112, 101, 100, 32, 110, 105, 108]⟩]
def basics : List Ty := basicNames.map (fun s => ⟨0, s, 0, [], []⟩) ++ [⟨7, ⟨#[]⟩, 0, [], []⟩, ⟨7, ⟨#[]⟩, 1, [], []⟩]
theorem basics_len : basics.length = 22 := rfl
/-- A word's name. -/
def fieldT (w : ByteArray) : ByteArray := if 0 < w.size ∧ byteAt w 0 = 43 then w.extract 1 w.size else w
def blankB (w : ByteArray) : Bool := w.toList == [95]
def markB (w : ByteArray) : Bool := w.toList == [61] || w.toList == [126]
/-- May the field at place i be, for those ahead? -/
def fieldB (ws : List ByteArray) (i : Nat) (w : ByteArray) : Bool :=
  nameB (fieldT w) && (ws.take i).all (fun x => !((fieldT x).toList == (fieldT w).toList && !blankB (fieldT w)))
def fieldsB (ws : List ByteArray) : Bool := (List.range ws.length).all fun i => fieldB ws i (ws.getD i ⟨#[]⟩)
def kindAt (l : List Ty) (k : Int) : Int := ((l[k.toNat]?).map (·.kind)).getD 0
/-- May the element at place i be: its word, its kid, those ahead of them. -/
def elemB (l : List Ty) (n : Int) (ahead : Option (ByteArray × Int)) (w : ByteArray) (k : Int) : Bool :=
  if markB w = true then
    decide (2 ≤ n ∧ kindAt l k ≠ 7 ∧ kindAt l k ≠ 9 ∧ ¬ (14 ≤ k ∧ k ≤ 19)) && (match ahead with | none => true | some (v, j) => !(markB v && decide (k ≤ j)))
  else nameB w && decide (kindAt l k = 5) && (match ahead with | none => true | some (v, _) => !markB v && Op.bytesLess v.toList w.toList)
def aheadOf (ws : List ByteArray) (ks : List Int) (i : Nat) : Option (ByteArray × Int) := if i = 0 then none else some (ws.getD (i - 1) ⟨#[]⟩, ks.getD (i - 1) 0)
def elemsB (l : List Ty) (n : Int) (ws : List ByteArray) (ks : List Int) : Bool := (List.range ws.length).all fun i => elemB l n (aheadOf ws ks i) (ws.getD i ⟨#[]⟩) (ks.getD i 0)
/-- Where the point is. -/
def dotAt (s : ByteArray) : Option Nat := (List.range s.size).find? fun i => decide (byteAt s i = 46)
def namedB (s : ByteArray) : Bool := match dotAt s with
  | none => false
  | some i => nameB (s.extract 0 i) && nameB (s.extract (i + 1) s.size)
def kidsB (l : List Ty) (ks : List Int) : Bool := ks.all fun k => decide (0 ≤ k ∧ k < (l.length : Int))
def bareB (t : Ty) : Bool := decide (t.name.size = 0 ∧ t.words = [])
/-- Is a type made right, for a row of others? -/
def madeB (l : List Ty) (t : Ty) : Bool :=
  kidsB l t.kids && (
  if t.kind = 1 ∨ t.kind = 2 then bareB t && decide (t.kids.length = 1 ∧ t.n = 0)
  else if t.kind = 3 then bareB t && decide (t.kids.length = 1 ∧ 0 ≤ t.n ∧ t.n ≤ 2147483648)
  else if t.kind = 4 then bareB t && decide (t.kids.length = 2 ∧ t.n = 0)
  else if t.kind = 5 then bareB t && decide (t.kids.length ≤ 16 ∧ (t.n = 0 ∨ t.n = 1 ∧ 0 < t.kids.length))
  else if t.kind = 6 then decide (t.name.size = 0 ∧ t.n = 0 ∧ t.kids.length ≤ 16 ∧ t.words.length = t.kids.length) && fieldsB t.words
  else if t.kind = 7 then decide (t.name.size = 0 ∧ 0 ≤ t.n ∧ t.n ≤ 3 ∧ t.kids.length ≤ 16 ∧ t.words.length = t.kids.length) && elemsB l t.n t.words t.kids
  else if t.kind = 8 then namedB t.name && decide (t.kids.length ≤ 16 ∧ t.n = 0 ∧ t.words = [])
  else if t.kind = 9 then bareB t && decide (t.kids.length = 0 ∧ 0 ≤ t.n ∧ t.n < 16)
  else false)
/-- The place of a type; -1: it is not there. -/
def atT (l : List Ty) (t : Ty) : Int := match l.findIdx? (fun x => decide (x = t)) with
  | none => -1
  | some i => (i : Int)
/-- May the type at place i be? -/
def stepB (l : List Ty) (i : Nat) (t : Ty) : Bool :=
  if i < 22 then decide (some t = basics[i]?) else madeB (l.take i) t && decide (t ∉ l.take i)
/-- May an arena be? -/
def rightT (l : List Ty) : Bool := decide (22 ≤ l.length ∧ l.length ≤ 400) && (List.range l.length).all fun i => match l[i]? with
  | none => true
  | some t => stepB l i t
theorem atT_neg {l : List Ty} {t : Ty} : atT l t < 0 ↔ t ∉ l := by
  unfold atT
  cases h : l.findIdx? (fun x => decide (x = t)) with
  | none =>
    rw [List.findIdx?_eq_none_iff] at h
    simp only
    constructor
    · intro _ hm
      have := h t hm
      simp at this
    · intro _; decide
  | some i =>
    simp only
    constructor
    · intro hh; omega
    · intro hm
      rw [List.findIdx?_eq_some_iff_getElem] at h
      obtain ⟨hi, hp, _⟩ := h
      exact absurd (by rw [← of_decide_eq_true hp]; exact List.getElem_mem hi) hm
end Go.Proofs.YtkmnfkhchcoamaaGreatDoor
/- Types in memory. -/
namespace Go.Proofs.YtkmnfkhchcoamaaGreatDoor
open Go.RowKit
set_option linter.unusedSimpArgs false
set_option linter.unusedVariables false

theorem ty_str_eq (a b : ByteArray) : (a.toList == b.toList) = decide (a = b) := by
  rw [Bool.eq_iff_iff, beq_iff_eq, decide_eq_true_iff, ByteArray.toList_eq, ByteArray.toList_eq]
  constructor
  · intro h
    exact ByteArray.ext (Array.toList_inj.1 h)
  · rintro rfl
    rfl
/-- A row of texts in memory. -/
def SRow (w : World) (ao : Option Addr) (ss : List ByteArray) : Prop :=
  ss = [] ∨ ∃ b off, ao = some ⟨b, off, none⟩ ∧ b < w.heap.size ∧ ∀ i, i < ss.length → w.cell? ⟨b, off + i, none⟩ = some (.string (ss.getD i ⟨#[]⟩))
theorem SRow.below {w w' : World} {ao : Option Addr} {ss : List ByteArray} (h : SRow w ao ss) (hb : Below w.heap.size w w') : SRow w' ao ss := by
  rcases h with h | ⟨b, off, h1, h2, h3⟩
  · exact .inl h
  · exact .inr ⟨b, off, h1, Nat.lt_of_lt_of_le h2 hb.size, fun i hi => by rw [hb.cell (p := ⟨b, off + i, none⟩) h2]; exact h3 i hi⟩
theorem SRow.cells {w : World} {ao : Option Addr} {ss : List ByteArray} (h : SRow w ao ss) (hn : 0 < ss.length) : ∃ b off, ao = some ⟨b, off, none⟩ ∧ b < w.heap.size ∧ ∀ i, i < ss.length → w.cell? ⟨b, off + i, none⟩ = some (.string (ss.getD i ⟨#[]⟩)) := by
  rcases h with h | h
  · rw [h] at hn; exact absurd hn (by simp)
  · exact h
/-- A row of integers in memory. -/
def IRow (w : World) (ao : Option Addr) (zs : List Int) : Prop :=
  zs = [] ∨ ∃ b off, ao = some ⟨b, off, none⟩ ∧ b < w.heap.size ∧ ∀ i, i < zs.length → w.cell? ⟨b, off + i, none⟩ = some (.int .i64 (zs.getD i 0))
theorem IRow.below {w w' : World} {ao : Option Addr} {zs : List Int} (h : IRow w ao zs) (hb : Below w.heap.size w w') : IRow w' ao zs := by
  rcases h with h | ⟨b, off, h1, h2, h3⟩
  · exact .inl h
  · exact .inr ⟨b, off, h1, Nat.lt_of_lt_of_le h2 hb.size, fun i hi => by rw [hb.cell (p := ⟨b, off + i, none⟩) h2]; exact h3 i hi⟩
theorem IRow.cells {w : World} {ao : Option Addr} {zs : List Int} (h : IRow w ao zs) (hn : 0 < zs.length) : ∃ b off, ao = some ⟨b, off, none⟩ ∧ b < w.heap.size ∧ ∀ i, i < zs.length → w.cell? ⟨b, off + i, none⟩ = some (.int .i64 (zs.getD i 0)) := by
  rcases h with h | h
  · rw [h] at hn; exact absurd hn (by simp)
  · exact h
/-- How great a type may be. -/
structure TyOk (t : Ty) : Prop where
  nl : t.name.size ≤ 50
  wl : t.words.length ≤ 18
  kl : t.kids.length ≤ 18
  ws : ∀ s ∈ t.words, s.size ≤ 9223372036854775807
  nums : (-9223372036854775808 ≤ t.kind ∧ t.kind ≤ 9223372036854775807) ∧ -9223372036854775808 ≤ t.n ∧ t.n ≤ 9223372036854775807
  ks : ∀ k ∈ t.kids, -9223372036854775808 ≤ k ∧ k ≤ 9223372036854775807
/-- A type, as a value. -/
def tyV (t : Ty) (wo : Option Addr) (wc : Nat) (ko : Option Addr) (kc : Nat) : Value :=
  .agg #[.int .i64 t.kind, .string t.name, .int .i64 t.n, .slice wo t.words.length wc, .slice ko t.kids.length kc]
/-- Its rows in memory. -/
structure TyC (w : World) (wo ko : Option Addr) (t : Ty) : Prop where
  words : SRow w wo t.words
  kids : IRow w ko t.kids
  ok : TyOk t
theorem TyC.below {w w' : World} {wo ko : Option Addr} {t : Ty} (h : TyC w wo ko t) (hb : Below w.heap.size w w') : TyC w' wo ko t :=
  ⟨h.words.below hb, h.kids.below hb, h.ok⟩
/-- A type's five cells. -/
def TyAt (w : World) (b o : Nat) (t : Ty) : Prop :=
  ∃ wo wc ko kc, w.cell? ⟨b, o, none⟩ = some (.int .i64 t.kind) ∧ w.cell? ⟨b, o + 1, none⟩ = some (.string t.name) ∧ w.cell? ⟨b, o + 2, none⟩ = some (.int .i64 t.n) ∧
    w.cell? ⟨b, o + 3, none⟩ = some (.slice wo t.words.length wc) ∧ w.cell? ⟨b, o + 4, none⟩ = some (.slice ko t.kids.length kc) ∧ t.words.length ≤ wc ∧ t.kids.length ≤ kc ∧ TyC w wo ko t
theorem TyAt.below {w w' : World} {b o : Nat} {t : Ty} (h : TyAt w b o t) (hlt : b < w.heap.size) (hb : Below w.heap.size w w') : TyAt w' b o t := by
  obtain ⟨wo, wc, ko, kc, h1, h2, h3, h4, h5, h6, h7, h8⟩ := h
  refine ⟨wo, wc, ko, kc, ?_, ?_, ?_, ?_, ?_, h6, h7, h8.below hb⟩
  · rw [hb.cell (p := ⟨b, o, none⟩) hlt]; exact h1
  · rw [hb.cell (p := ⟨b, o + 1, none⟩) hlt]; exact h2
  · rw [hb.cell (p := ⟨b, o + 2, none⟩) hlt]; exact h3
  · rw [hb.cell (p := ⟨b, o + 3, none⟩) hlt]; exact h4
  · rw [hb.cell (p := ⟨b, o + 4, none⟩) hlt]; exact h5
/-- A row of types in memory. -/
def ARow (w : World) (ao : Option Addr) (l : List Ty) : Prop :=
  l = [] ∨ ∃ b off, ao = some ⟨b, off, none⟩ ∧ b < w.heap.size ∧ ∀ i (h : i < l.length), TyAt w b (off + i * 5) l[i]
theorem ARow.below {w w' : World} {ao : Option Addr} {l : List Ty} (h : ARow w ao l) (hb : Below w.heap.size w w') : ARow w' ao l := by
  rcases h with h | ⟨b, off, h1, h2, h3⟩
  · exact .inl h
  · exact .inr ⟨b, off, h1, Nat.lt_of_lt_of_le h2 hb.size, fun i hi => (h3 i hi).below h2 hb⟩
theorem ARow.cells {w : World} {ao : Option Addr} {l : List Ty} (h : ARow w ao l) (hn : 0 < l.length) : ∃ b off, ao = some ⟨b, off, none⟩ ∧ b < w.heap.size ∧ ∀ i (h : i < l.length), TyAt w b (off + i * 5) l[i] := by
  rcases h with h | h
  · rw [h] at hn; exact absurd hn (by simp)
  · exact h
theorem ARow.take {w : World} {ao : Option Addr} {l : List Ty} (h : ARow w ao l) (k : Nat) : ARow w ao (l.take k) := by
  rcases h with h | ⟨b, off, h1, h2, h3⟩
  · exact .inl (by rw [h]; simp)
  · refine .inr ⟨b, off, h1, h2, fun i hi => ?_⟩
    rw [List.getElem_take]
    exact h3 i (by rw [List.length_take] at hi; omega)
theorem ARow.ok {w : World} {ao : Option Addr} {l : List Ty} (h : ARow w ao l) : ∀ t ∈ l, TyOk t := by
  intro t ht
  obtain ⟨i, hi, rfl⟩ := List.getElem_of_mem ht
  rcases h with h | ⟨b, off, h1, h2, h3⟩
  · subst h; simp at hi
  · obtain ⟨_, _, _, _, _, _, _, _, _, _, _, h8⟩ := h3 i hi
    exact h8.ok
theorem cell5 {w : World} {b : Nat} {a0 a1 a2 a3 a4 : Value} {T : TypeId} (h : BlockAt w b #[a0, a1, a2, a3, a4] T) :
    w.cell? ⟨b, 0, none⟩ = some a0 ∧ w.cell? ⟨b, 1, none⟩ = some a1 ∧ w.cell? ⟨b, 2, none⟩ = some a2 ∧ w.cell? ⟨b, 3, none⟩ = some a3 ∧ w.cell? ⟨b, 4, none⟩ = some a4 :=
  ⟨h.cell 0, h.cell 1, h.cell 2, h.cell 3, h.cell 4⟩
theorem box_new {w w1 : World} {xs : Array Value} {T : TypeId} (h : w.alloc (.cells xs T) = w1) : BlockAt w1 w.heap.size xs T ∧ Below w.heap.size w w1 ∧ w1.heap.size = w.heap.size + 1 := by
  subst h
  exact ⟨BlockAt.new _ _ _, (Below.refl _ _).alloc (Nat.le_refl _) _, by simp⟩
theorem getD_mem {zs : List Int} {k : Nat} (h : k < zs.length) : zs.getD k 0 ∈ zs := by
  rw [List.getD_eq_getElem?_getD, List.getElem?_eq_getElem h]
  exact List.getElem_mem h
theorem getD_memS {zs : List ByteArray} {k : Nat} (h : k < zs.length) : zs.getD k ⟨#[]⟩ ∈ zs := by
  rw [List.getD_eq_getElem?_getD, List.getElem?_eq_getElem h]
  exact List.getElem_mem h
theorem getD_of {α : Type} {zs : List α} {d : α} {k : Nat} (h : k < zs.length) : zs.getD k d = zs[k] := by
  rw [List.getD_eq_getElem?_getD, List.getElem?_eq_getElem h]; rfl
theorem list_ext {α : Type} {d : α} {xs ys : List α} (hl : xs.length = ys.length) (h : ∀ j, j < xs.length → xs.getD j d = ys.getD j d) : xs = ys := by
  refine List.ext_getElem hl fun j h1 h2 => ?_
  have := h j h1
  rwa [getD_of h1, getD_of h2] at this
end Go.Proofs.YtkmnfkhchcoamaaGreatDoor
/- Like, of two types. -/
namespace Go.Proofs.YtkmnfkhchcoamaaGreatDoor
open Go.RowKit
set_option linter.unusedSimpArgs false
set_option linter.unusedVariables false

set_option maxHeartbeats 16000000 in
set_option maxRecDepth 100000 in
theorem like_any (x y : Ty) (xw xk yw yk : Option Addr) (xwc xkc ywc ykc : Nat) (w : World) (hx : TyC w xw xk x) (hy : TyC w yw yk y) :
    Calls Tryz.prog 15 #[tyV x xw xwc xk xkc, tyV y yw ywc yk ykc] w fun e w' => e = .returned (.bool (decide (x = y))) ∧ Below w.heap.size w w' := by
  obtain ⟨a, s, n, ws, ks⟩ := x
  obtain ⟨c, t, m, vs, ls⟩ := y
  obtain ⟨r, hr⟩ : ∃ r, decide ((⟨a, s, n, ws, ks⟩ : Ty) = ⟨c, t, m, vs, ls⟩) = r := ⟨_, rfl⟩
  rw [hr]
  have HR := Lib.hid hr
  clear hr
  have l1 : ws.length ≤ 18 := hx.ok.wl
  have l2 : ks.length ≤ 18 := hx.ok.kl
  have l3 : vs.length ≤ 18 := hy.ok.wl
  have l4 : ls.length ≤ 18 := hy.ok.kl
  have HX := Lib.hid hx
  have HY := Lib.hid hy
  clear hx hy
  unfold tyV
  show Calls _ _ #[.agg #[.int .i64 a, .string s, .int .i64 n, .slice xw ws.length xwc, .slice xk ks.length xkc], .agg #[.int .i64 c, .string t, .int .i64 m, .slice yw vs.length ywc, .slice yk ls.length ykc]] _ _
  have hst := ty_str_eq s t
  by_cases c1 : a = c
  case neg =>
    have Hn := Lib.hid (show false = r by rw [← HR.out]; symm; rw [decide_eq_false_iff_not]; intro e; injection e; contradiction)
    have hq : (a != c) = true := by rw [bne_iff_ne]; exact c1
    clear c1
    go_enter Tryz.func15, Tryz.ntmps15
    go_wp2_with fail
    go_ret
    exact ⟨ret_bool Hn.out, ((Below.refl _ _).alloc (Nat.le_refl _) _).alloc (by simp) _⟩
  subst c1
  by_cases c2 : s = t
  case neg =>
    have Hn := Lib.hid (show false = r by rw [← HR.out]; symm; rw [decide_eq_false_iff_not]; intro e; injection e; contradiction)
    rw [decide_eq_false c2] at hst
    clear c2
    go_enter Tryz.func15, Tryz.ntmps15
    go_wp2_with fail
    go_ret
    exact ⟨ret_bool Hn.out, ((Below.refl _ _).alloc (Nat.le_refl _) _).alloc (by simp) _⟩
  subst c2
  rw [decide_eq_true rfl] at hst
  by_cases c3 : n = m
  case neg =>
    have Hn := Lib.hid (show false = r by rw [← HR.out]; symm; rw [decide_eq_false_iff_not]; intro e; injection e; contradiction)
    have hq : (n != m) = true := by rw [bne_iff_ne]; exact c3
    clear c3
    go_enter Tryz.func15, Tryz.ntmps15
    go_wp2_with fail
    go_ret
    exact ⟨ret_bool Hn.out, ((Below.refl _ _).alloc (Nat.le_refl _) _).alloc (by simp) _⟩
  subst c3
  obtain ⟨p, hp⟩ : ∃ p, ws.length = p := ⟨_, rfl⟩
  obtain ⟨p2, hp2⟩ : ∃ p, vs.length = p := ⟨_, rfl⟩
  obtain ⟨q, hq⟩ : ∃ q, ks.length = q := ⟨_, rfl⟩
  obtain ⟨q2, hq2⟩ : ∃ q, ls.length = q := ⟨_, rfl⟩
  have HP := Lib.hid hp
  have HP2 := Lib.hid hp2
  have HQ := Lib.hid hq
  have HQ2 := Lib.hid hq2
  rw [hp] at l1 ⊢
  rw [hp2] at l3 ⊢
  rw [hq] at l2 ⊢
  rw [hq2] at l4 ⊢
  clear hp hp2 hq hq2
  by_cases c4 : p = p2
  case neg =>
    have Hn := Lib.hid (show false = r by rw [← HR.out]; symm; rw [decide_eq_false_iff_not]; intro e; injection e with _ _ _ e _; exact c4 (by rw [← HP.out, ← HP2.out, e]))
    have hq : ((p : Int) == (p2 : Int)) = false := by rw [beq_eq_false_iff_ne]; omega
    go_enter Tryz.func15, Tryz.ntmps15
    go_wp2_with fail
    go_ret
    exact ⟨ret_bool Hn.out, ((Below.refl _ _).alloc (Nat.le_refl _) _).alloc (by simp) _⟩
  subst c4
  by_cases c5 : q = q2
  case neg =>
    have Hn := Lib.hid (show false = r by rw [← HR.out]; symm; rw [decide_eq_false_iff_not]; intro e; injection e with _ _ _ _ e; exact c5 (by rw [← HQ.out, ← HQ2.out, e]))
    have hq : ((q : Int) == (q2 : Int)) = false := by rw [beq_eq_false_iff_ne]; omega
    go_enter Tryz.func15, Tryz.ntmps15
    go_wp2_with fail
    go_ret
    exact ⟨ret_bool Hn.out, ((Below.refl _ _).alloc (Nat.le_refl _) _).alloc (by simp) _⟩
  subst c5
  obtain ⟨w1, h1⟩ : ∃ w1, w.alloc (.cells #[.int .i64 a, .string s, .int .i64 n, .slice xw p xwc, .slice xk q xkc] 38) = w1 := ⟨_, rfl⟩
  obtain ⟨w2, h2⟩ : ∃ w2, w1.alloc (.cells #[.int .i64 a, .string s, .int .i64 n, .slice yw p ywc, .slice yk q ykc] 38) = w2 := ⟨_, rfl⟩
  obtain ⟨k1, q1, z1⟩ := box_new h1
  obtain ⟨k2, q22, z2⟩ := box_new h2
  have BW := Lib.hid (q1.trans (q22.mono q1.size))
  have K1 := Lib.hid (k1.below q22)
  have K2 := Lib.hid k2
  have Z := Lib.hid (And.intro z1 z2)
  obtain ⟨x0, x1, x2, x3, x4⟩ := cell5 K1.out
  obtain ⟨y0, y1, y2, y3, y4⟩ := cell5 K2.out
  clear k1 k2 q1 q22 z1 z2
  go_enter Tryz.func15, Tryz.ntmps15
  go_wp2_with fail
  clear x0 x1 x2 x3 x4 y0 y1 y2 y3 y4 hst
  go_loopw [47] (fun i wr => ∃ k : Nat, k ≤ p ∧ i = .int .i64 k ∧ Hid (∀ j, j < k → ws.getD j ⟨#[]⟩ = vs.getD j ⟨#[]⟩) ∧ Hid (Below w2.heap.size w2 wr)) (fun i _ => p - (intOf i).toNat)
  case atStart => exact ⟨0, Nat.zero_le _, rfl, Lib.hid (fun j hj => absurd hj (Nat.not_lt_zero _)), Lib.hid (Below.refl _ _)⟩
  case round =>
    obtain ⟨k, hk, rfl, Hall, HB⟩ := hrel
    obtain ⟨-, -, -, x3, x4⟩ := cell5 (K1.out.below HB.out)
    obtain ⟨-, -, -, y3, y4⟩ := cell5 (K2.out.below HB.out)
    have BB := Lib.hid (BW.out.trans (HB.out.mono BW.out.size))
    by_cases hkl : k < p
    · obtain ⟨xb, xo, rfl, hxb, hxc⟩ := (HX.out.below BB.out).words.cells (by show 0 < ws.length; rw [HP.out]; omega)
      obtain ⟨yb, yo, rfl, hyb, hyc⟩ := (HY.out.below BB.out).words.cells (by show 0 < vs.length; rw [HP2.out]; omega)
      have cx : wr.cell? ⟨xb, xo + k, none⟩ = some (.string (ws.getD k ⟨#[]⟩)) := hxc k (by show k < ws.length; rw [HP.out]; exact hkl)
      have cy : wr.cell? ⟨yb, yo + k, none⟩ = some (.string (vs.getD k ⟨#[]⟩)) := hyc k (by show k < vs.length; rw [HP2.out]; exact hkl)
      obtain ⟨u, hu⟩ : ∃ u, ws.getD k ⟨#[]⟩ = u := ⟨_, rfl⟩
      obtain ⟨v, hv⟩ : ∃ v, vs.getD k ⟨#[]⟩ = v := ⟨_, rfl⟩
      have HU := Lib.hid (And.intro hu hv)
      rw [hu] at cx
      rw [hv] at cy
      have hst := ty_str_eq u v
      clear hu hv hxb hyb hxc hyc x4 y4
      by_cases he : u = v
      · rw [decide_eq_true he] at hst
        have Hx := Lib.hid (show ∀ j, j < k + 1 → ws.getD j ⟨#[]⟩ = vs.getD j ⟨#[]⟩ from fun j hj => by
          rcases Nat.lt_or_eq_of_le (Nat.le_of_lt_succ hj) with h3 | h3
          · exact Hall.out j h3
          · subst h3; rw [HU.out.1, HU.out.2]; exact he)
        clear he
        go_wp2_with fail
        go_quiet (fail)
        rename_i nq
        have BD := Lib.hid (below_drewN HB.out nq)
        clear x3 y3 cx cy
        go_wp2_with fail
        go_roundw
        case rel => exact ⟨k + 1, by omega, by go_num, Hx, BD⟩
        case measure => simp [intOf]; omega
      · rw [decide_eq_false he] at hst
        have Hn := Lib.hid (show false = r by
          rw [← HR.out]; symm; rw [decide_eq_false_iff_not]; intro e
          injection e with _ _ _ e _
          exact he (by rw [← HU.out.1, ← HU.out.2, e]))
        clear he
        go_wp2_with fail
        go_quiet (fail)
        rename_i nq
        have BD := Lib.hid (below_drewN HB.out nq)
        clear x3 y3 cx cy
        go_wp2_with fail
        go_ret
        exact ⟨ret_bool Hn.out, BW.out.trans (BD.out.mono BW.out.size)⟩
    · obtain rfl : k = p := by omega
      have HW := Lib.hid (show ws = vs from list_ext (HP.out.trans HP2.out.symm) (fun j hj => Hall.out j (by rw [HP.out] at hj; exact hj)))
      clear hkl x3 y3
      go_wp2_with fail
      clear x4 y4
      go_loopw [65] (fun i wr => ∃ g : Nat, g ≤ q ∧ i = .int .i64 g ∧ Hid (∀ j, j < g → ks.getD j 0 = ls.getD j 0) ∧ Hid (Below w2.heap.size w2 wr)) (fun i _ => q - (intOf i).toNat)
      case atStart => exact ⟨0, Nat.zero_le _, rfl, Lib.hid (fun j hj => absurd hj (Nat.not_lt_zero _)), HB⟩
      case round =>
        clear BB HB Hall
        obtain ⟨g, hg, rfl, Hall, HB⟩ := hrel
        obtain ⟨-, -, -, -, x4⟩ := cell5 (K1.out.below HB.out)
        obtain ⟨-, -, -, -, y4⟩ := cell5 (K2.out.below HB.out)
        have BB := Lib.hid (BW.out.trans (HB.out.mono BW.out.size))
        by_cases hgl : g < q
        · obtain ⟨xb, xo, rfl, hxb, hxc⟩ := (HX.out.below BB.out).kids.cells (by show 0 < ks.length; rw [HQ.out]; omega)
          obtain ⟨yb, yo, rfl, hyb, hyc⟩ := (HY.out.below BB.out).kids.cells (by show 0 < ls.length; rw [HQ2.out]; omega)
          have cx : wr.cell? ⟨xb, xo + g, none⟩ = some (.int .i64 (ks.getD g 0)) := hxc g (by show g < ks.length; rw [HQ.out]; exact hgl)
          have cy : wr.cell? ⟨yb, yo + g, none⟩ = some (.int .i64 (ls.getD g 0)) := hyc g (by show g < ls.length; rw [HQ2.out]; exact hgl)
          obtain ⟨u, hu⟩ : ∃ u, ks.getD g 0 = u := ⟨_, rfl⟩
          obtain ⟨v, hv⟩ : ∃ v, ls.getD g 0 = v := ⟨_, rfl⟩
          have HU := Lib.hid (And.intro hu hv)
          rw [hu] at cx
          rw [hv] at cy
          clear hu hv hxb hyb hxc hyc
          go_wp2_with fail
          go_quiet (fail)
          rename_i nq
          have BD := Lib.hid (below_drewN HB.out nq)
          clear x4 y4 cx cy
          by_cases he : u = v
          · have Hx := Lib.hid (show ∀ j, j < g + 1 → ks.getD j 0 = ls.getD j 0 from fun j hj => by
              rcases Nat.lt_or_eq_of_le (Nat.le_of_lt_succ hj) with h3 | h3
              · exact Hall.out j h3
              · subst h3; rw [HU.out.1, HU.out.2]; exact he)
            have hqb : (u != v) = false := by rw [bne_eq_false_iff_eq]; exact he
            clear he
            go_wp2_with fail
            go_roundw
            case rel => exact ⟨g + 1, by omega, by go_num, Hx, BD⟩
            case measure => simp [intOf]; omega
          · have Hn := Lib.hid (show false = r by
              rw [← HR.out]; symm; rw [decide_eq_false_iff_not]; intro e
              injection e with _ _ _ _ e
              exact he (by rw [← HU.out.1, ← HU.out.2, e]))
            have hqb : (u != v) = true := by rw [bne_iff_ne]; exact he
            clear he
            go_wp2_with fail
            go_ret
            exact ⟨ret_bool Hn.out, BW.out.trans (BD.out.mono BW.out.size)⟩
        · obtain rfl : g = q := by omega
          have Hn := Lib.hid (show true = r by
            have hk2 : ks = ls := list_ext (HQ.out.trans HQ2.out.symm) (fun j hj => Hall.out j (by rw [HQ.out] at hj; exact hj))
            rw [← HR.out, HW.out, hk2]
            exact (decide_eq_true rfl).symm)
          clear hgl x4 y4
          go_wp2_with fail
          go_ret
          exact ⟨ret_bool Hn.out, BB.out⟩
end Go.Proofs.YtkmnfkhchcoamaaGreatDoor
/- The reference's field, mark, named. -/
namespace Go.Proofs.YtkmnfkhchcoamaaGreatDoor
open Go.RowKit
set_option linter.unusedSimpArgs false
set_option linter.unusedVariables false

theorem ret_str {a b : ByteArray} (h : a = b) : Ending.returned (.string a) = .returned (.string b) := by rw [h]
theorem idx_byte {s : ByteArray} {k : Nat} (h : k < s.size) : s.data[k]? = some s.data[k] := Array.getElem?_eq_getElem h
set_option maxHeartbeats 400000 in
theorem field_any (s : ByteArray) (w : World) (hs : s.size ≤ 9223372036854775807) :
    Calls Tryz.prog 88 #[.string s] w fun e w' => e = .returned (.string (fieldT s)) ∧ w = w' := by
  by_cases h0 : s.size = 0
  · have HR := Lib.hid (show s = fieldT s by unfold fieldT; rw [if_neg (by omega)])
    go_enter Tryz.func88, Tryz.ntmps88
    go_wp2_with fail
    go_ret
    exact ⟨ret_str HR.out, rfl⟩
  · have hk : 0 < s.size := by omega
    have hb := byteAt_eq hk
    by_cases h1 : byteAt s 0 = 43
    · have HR := Lib.hid (show s.extract 1 s.size = fieldT s by unfold fieldT; rw [if_pos ⟨hk, h1⟩])
      have h2 : (s[0].toNat : Int) = 43 := by rw [← hb]; exact h1
      clear h1 hb h0
      go_enter Tryz.func88, Tryz.ntmps88
      go_wp2_with fail
      go_ret
      exact ⟨ret_str HR.out, rfl⟩
    · have HR := Lib.hid (show s = fieldT s by unfold fieldT; rw [if_neg (by omega)])
      have h2 : ¬ (s[0].toNat : Int) = 43 := by rw [← hb]; exact h1
      clear h1 hb h0
      go_enter Tryz.func88, Tryz.ntmps88
      go_wp2_with fail
      go_ret
      exact ⟨ret_str HR.out, rfl⟩
set_option maxHeartbeats 400000 in
theorem mark_any (s : ByteArray) (w : World) :
    Calls Tryz.prog 89 #[.string s] w fun e w' => e = .returned (.bool (markB s)) ∧ w = w' := by
  unfold markB
  by_cases h1 : s.toList = [61]
  · have HR := Lib.hid (show true = (s.toList == [61] || s.toList == [126]) by rw [h1]; rfl)
    go_enter Tryz.func89, Tryz.ntmps89
    go_wp2_with fail
    go_ret
    exact ⟨ret_bool HR.out, rfl⟩
  · have h1' : (s.toList == [61]) = false := by rw [beq_eq_false_iff_ne]; exact h1
    have HR := Lib.hid (show (s.toList == [126]) = (s.toList == [61] || s.toList == [126]) by rw [h1', Bool.false_or])
    go_enter Tryz.func89, Tryz.ntmps89
    go_wp2_with fail
    go_ret
    exact ⟨ret_bool HR.out, rfl⟩
/-- The point's place, or none up to here. -/
def NoDot (s : ByteArray) (k : Nat) : Prop := ∀ j, j < k → byteAt s j ≠ 46
theorem dot_none {s : ByteArray} (h : NoDot s s.size) : dotAt s = none := by
  unfold dotAt
  rw [List.find?_eq_none]
  intro x hx
  rw [List.mem_range] at hx
  simpa using h x hx
theorem dot_some {s : ByteArray} {k : Nat} (hk : k < s.size) (h : NoDot s k) (hb : byteAt s k = 46) : dotAt s = some k := by
  unfold dotAt
  rw [List.find?_range_eq_some]
  refine ⟨by simpa using hb, List.mem_range.2 hk, fun j hj => ?_⟩
  simpa using h j hj
set_option maxHeartbeats 1000000 in
theorem named_any (s : ByteArray) (w : World) (hs : s.size ≤ 1000) :
    Calls Tryz.prog 65 #[.string s] w fun e w' => e = .returned (.bool (namedB s)) ∧ w = w' := by
  go_enter Tryz.func65, Tryz.ntmps65
  go_wp2_with fail
  go_loopw [3] (fun i wr => ∃ k : Nat, k ≤ s.size ∧ i = .int .i64 k ∧ Hid (NoDot s k) ∧ wr = w) (fun i _ => s.size - (intOf i).toNat)
  case atStart => exact ⟨0, Nat.zero_le _, rfl, Lib.hid (fun j hj => absurd hj (Nat.not_lt_zero _)), rfl⟩
  case round =>
    obtain ⟨k, hk, rfl, Hno, rfl⟩ := hrel
    by_cases hkl : k < s.size
    · have hb := byteAt_eq hkl
      by_cases hq : byteAt s k = 46
      · have h2 : (s[k].toNat : Int) = 46 := by rw [← hb]; exact hq
        have H1 := Lib.hid (refName_any (s.extract 0 k) wr (by rw [ByteArray.size_extract]; omega))
        have H2 := Lib.hid (refName_any (s.extract (k + 1) s.size) wr (by rw [ByteArray.size_extract]; omega))
        have HR := Lib.hid (show (nameB (s.extract 0 k) && nameB (s.extract (k + 1) s.size)) = namedB s by unfold namedB; rw [dot_some hkl Hno.out hq])
        clear hq hb
        cases h3 : nameB (s.extract 0 k) <;> rw [h3] at H1 HR <;> clear h3
        · rw [Bool.false_and] at HR
          go_wp2_with fail
          refine H1.out.mono ?_
          rintro e w' ⟨rfl, rfl⟩
          go_wp2_with fail
          go_ret
          exact ⟨ret_bool HR.out, rfl⟩
        · rw [Bool.true_and] at HR
          go_wp2_with fail
          refine H1.out.mono ?_
          rintro e w' ⟨rfl, rfl⟩
          go_wp2_with fail
          refine H2.out.mono ?_
          rintro e w' ⟨rfl, rfl⟩
          go_wp2_with fail
          go_ret
          exact ⟨ret_bool HR.out, rfl⟩
      · have h2 : ¬ (s[k].toNat : Int) = 46 := by rw [← hb]; exact hq
        have Hno2 := Lib.hid (show NoDot s (k + 1) from fun j hj => by
          rcases Nat.lt_or_eq_of_le (Nat.le_of_lt_succ hj) with h1 | h1
          · exact Hno.out j h1
          · rw [h1]; exact hq)
        clear hq hb
        go_wp2_with fail
        go_roundw
        case rel => exact ⟨k + 1, by omega, by go_num, Hno2, by first | rfl | trivial⟩
        case measure => simp [intOf]; omega
    · obtain rfl : k = s.size := by omega
      have HR := Lib.hid (show false = namedB s by unfold namedB; rw [dot_none Hno.out])
      go_wp2_with fail
      go_ret
      exact ⟨ret_bool HR.out, rfl⟩
end Go.Proofs.YtkmnfkhchcoamaaGreatDoor
/- The reference's fields: a struct's words. -/
namespace Go.Proofs.YtkmnfkhchcoamaaGreatDoor
open Go.RowKit
set_option linter.unusedSimpArgs false
set_option linter.unusedVariables false

def clashB (x w : ByteArray) : Bool := (fieldT x).toList == (fieldT w).toList && !blankB (fieldT w)
theorem fieldB_eq (ws : List ByteArray) (i : Nat) (w : ByteArray) : fieldB ws i w = (nameB (fieldT w) && (ws.take i).all (fun x => !clashB x w)) := rfl
theorem fieldB_name {ws : List ByteArray} {i : Nat} {w : ByteArray} (h : nameB (fieldT w) = false) : fieldB ws i w = false := by
  rw [fieldB_eq, h]; rfl
theorem fieldB_clash {ws : List ByteArray} {i j : Nat} {w : ByteArray} (hj : j < i) (hi : i ≤ ws.length) (h : clashB (ws.getD j ⟨#[]⟩) w = true) : fieldB ws i w = false := by
  rw [fieldB_eq, Bool.and_eq_false_iff]
  right
  rw [Bool.eq_false_iff]
  intro ha
  rw [List.all_eq_true] at ha
  have hm : ws.getD j ⟨#[]⟩ ∈ ws.take i := by
    rw [getD_of (by omega)]
    rw [List.mem_take_iff_getElem]
    exact ⟨j, by omega, rfl⟩
  have := ha _ hm
  rw [h] at this
  cases this
theorem fieldB_yes {ws : List ByteArray} {i : Nat} {w : ByteArray} (hn : nameB (fieldT w) = true) (hi : i ≤ ws.length) (h : ∀ j, j < i → clashB (ws.getD j ⟨#[]⟩) w = false) : fieldB ws i w = true := by
  rw [fieldB_eq, hn, Bool.true_and, List.all_eq_true]
  intro x hx
  rw [List.mem_take_iff_getElem] at hx
  obtain ⟨j, hj, rfl⟩ := hx
  have := h j (by omega)
  rw [getD_of (by omega)] at this
  rw [this]; rfl
theorem fieldsB_no {ws : List ByteArray} {k : Nat} (hk : k < ws.length) (h : fieldB ws k (ws.getD k ⟨#[]⟩) = false) : fieldsB ws = false := by
  unfold fieldsB
  rw [Bool.eq_false_iff]
  intro ha
  rw [List.all_eq_true] at ha
  have := ha k (List.mem_range.2 hk)
  rw [h] at this
  cases this
theorem fieldsB_yes {ws : List ByteArray} (h : ∀ k, k < ws.length → fieldB ws k (ws.getD k ⟨#[]⟩) = true) : fieldsB ws = true := by
  unfold fieldsB
  rw [List.all_eq_true]
  intro k hk
  exact h k (List.mem_range.1 hk)
theorem field_size {s : ByteArray} : (fieldT s).size ≤ s.size := by
  unfold fieldT
  split
  · rw [ByteArray.size_extract]; omega
  · exact Nat.le_refl _
set_option maxHeartbeats 4000000 in
set_option maxRecDepth 100000 in
theorem fields_any (t : Ty) (wo ko : Option Addr) (wc kc : Nat) (w : World) (ht : TyC w wo ko t) (hwc : t.words.length ≤ wc) :
    Calls Tryz.prog 63 #[tyV t wo wc ko kc] w fun e w' => e = .returned (.bool (fieldsB t.words && decide (t.words.length = t.kids.length))) ∧ Below w.heap.size w w' := by
  obtain ⟨r, hr⟩ : ∃ r, (fieldsB t.words && decide (t.words.length = t.kids.length)) = r := ⟨_, rfl⟩
  rw [hr]
  have HR := Lib.hid hr
  clear hr
  unfold tyV
  obtain ⟨n, hn⟩ : ∃ n, t.words.length = n := ⟨_, rfl⟩
  obtain ⟨m, hm⟩ : ∃ m, t.kids.length = m := ⟨_, rfl⟩
  have HN := Lib.hid hn
  have HM := Lib.hid hm
  have l1 := ht.ok.wl
  have l2 := ht.ok.kl
  rw [hn] at l1 hwc ⊢
  rw [hm] at l2 ⊢
  have HT := Lib.hid ht
  clear hn hm ht
  obtain ⟨w1, h1⟩ : ∃ w1, w.alloc (.cells #[.int .i64 t.kind, .string t.name, .int .i64 t.n, .slice wo n wc, .slice ko m kc] 38) = w1 := ⟨_, rfl⟩
  obtain ⟨k1, q1, z1⟩ := box_new h1
  have BW := Lib.hid q1
  obtain ⟨x0, x1, x2, x3, x4⟩ := cell5 k1
  have X3 := Lib.hid x3
  have X4 := Lib.hid x4
  clear k1 q1 z1
  go_enter Tryz.func63, Tryz.ntmps63
  go_wp2_with fail
  clear h1 x0 x1 x2 x3 x4
  go_loopw [10] (fun i wr => ∃ k : Nat, k ≤ n ∧ i = .int .i64 k ∧ Hid (∀ j, j < k → fieldB t.words j (t.words.getD j ⟨#[]⟩) = true) ∧ wr = w1) (fun i _ => n - (intOf i).toNat)
  case atStart => exact ⟨0, Nat.zero_le _, rfl, Lib.hid (fun j hj => absurd hj (Nat.not_lt_zero _)), by first | rfl | trivial⟩
  case round =>
    obtain ⟨k, hk, rfl, Hall, rfl⟩ := hrel
    by_cases hkl : k < n
    · obtain ⟨b, o, rfl, hb, hc⟩ := (HT.out.below BW.out).words.cells (by rw [HN.out]; omega)
      have HC := Lib.hid hc
      have cx := hc k (by rw [HN.out]; exact hkl)
      have hsz := HT.out.ok.ws _ (getD_memS (show k < t.words.length by rw [HN.out]; exact hkl))
      obtain ⟨u, hu⟩ : ∃ u, t.words.getD k ⟨#[]⟩ = u := ⟨_, rfl⟩
      have HU := Lib.hid hu
      rw [hu] at cx hsz
      have HF := Lib.hid (field_any u wr (by omega))
      have hfs := field_size (s := u)
      obtain ⟨f, hf⟩ : ∃ f, fieldT u = f := ⟨_, rfl⟩
      have HFE := Lib.hid hf
      rw [hf] at HF hfs
      have HNM := Lib.hid (refName_any f wr (by omega))
      clear hu hc hb hf
      cases h3 : nameB f <;> rw [h3] at HNM <;> have H3 := Lib.hid h3 <;> clear h3
      · have Hn := Lib.hid (show false = r by
          rw [← HR.out, fieldsB_no (k := k) (by rw [HN.out]; exact hkl) (by rw [HU.out]; exact fieldB_name (by rw [HFE.out]; exact H3.out))]; rfl)
        go_wp2_with fail
        refine HF.out.mono ?_
        rintro e w' ⟨rfl, rfl⟩
        go_wp2_with fail
        refine HNM.out.mono ?_
        rintro e w' ⟨rfl, rfl⟩
        go_wp2_with fail
        go_ret
        exact ⟨ret_bool Hn.out, BW.out⟩
      · have x3 := X3.out
        go_wp2_with fail
        refine HF.out.mono ?_
        rintro e w' ⟨rfl, rfl⟩
        go_wp2_with fail
        refine HNM.out.mono ?_
        rintro e w' ⟨rfl, rfl⟩
        go_wp2_with fail
        clear x3 cx
        go_loopw [24] (fun i wr2 => ∃ j : Nat, j ≤ k ∧ i = .int .i64 j ∧ Hid (∀ h, h < j → clashB (t.words.getD h ⟨#[]⟩) u = false) ∧ wr2 = wr) (fun i _ => k - (intOf i).toNat)
        case atStart => exact ⟨0, Nat.zero_le _, rfl, Lib.hid (fun j hj => absurd hj (Nat.not_lt_zero _)), by first | rfl | trivial⟩
        case round =>
          obtain ⟨j, hj, rfl, Hno, rfl⟩ := hrel
          by_cases hjl : j < k
          · have cy := HC.out j (by rw [HN.out]; omega)
            have hsy := HT.out.ok.ws _ (getD_memS (show j < t.words.length by rw [HN.out]; omega))
            obtain ⟨v, hv⟩ : ∃ v, t.words.getD j ⟨#[]⟩ = v := ⟨_, rfl⟩
            have HV := Lib.hid hv
            rw [hv] at cy hsy
            have HG := Lib.hid (field_any v wr (by omega))
            obtain ⟨g, hg⟩ : ∃ g, fieldT v = g := ⟨_, rfl⟩
            have HGE := Lib.hid hg
            rw [hg] at HG
            clear hv hg
            have HCL := Lib.hid (show clashB v u = (g.toList == f.toList && !blankB f) by unfold clashB; rw [HGE.out, HFE.out])
            by_cases he : g.toList = f.toList
            · have hq : (g.toList == f.toList) = true := by rw [beq_iff_eq]; exact he
              by_cases hbl : f.toList = [95]
              · have Hx := Lib.hid (show ∀ h, h < j + 1 → clashB (t.words.getD h ⟨#[]⟩) u = false from fun h hh => by
                  rcases Nat.lt_or_eq_of_le (Nat.le_of_lt_succ hh) with h1 | h1
                  · exact Hno.out h h1
                  · rw [h1, HV.out, HCL.out, hq]; unfold blankB; rw [hbl]; rfl)
                have hq2 : (f.toList == [95]) = true := by rw [beq_iff_eq]; exact hbl
                clear hbl he
                go_wp2_with fail
                refine HG.out.mono ?_
                rintro e w' ⟨rfl, rfl⟩
                go_wp2_with fail
                refine HF.out.mono ?_
                rintro e w' ⟨rfl, rfl⟩
                go_wp2_with fail
                refine HF.out.mono ?_
                rintro e w' ⟨rfl, rfl⟩
                go_wp2_with fail
                go_roundw
                case rel => exact ⟨j + 1, by omega, by go_num, Hx, by first | rfl | trivial⟩
                case measure => simp [intOf]; omega
              · have Hn := Lib.hid (show false = r by
                  rw [← HR.out, fieldsB_no (k := k) (by rw [HN.out]; exact hkl) (by
                    rw [HU.out]
                    refine fieldB_clash hjl (by rw [HN.out]; omega) ?_
                    rw [HV.out, HCL.out, hq]
                    unfold blankB
                    rw [show (f.toList == [95]) = false by rw [beq_eq_false_iff_ne]; exact hbl]
                    rfl)]
                  rfl)
                have hq2 : (f.toList == [95]) = false := by rw [beq_eq_false_iff_ne]; exact hbl
                clear hbl he
                go_wp2_with fail
                refine HG.out.mono ?_
                rintro e w' ⟨rfl, rfl⟩
                go_wp2_with fail
                refine HF.out.mono ?_
                rintro e w' ⟨rfl, rfl⟩
                go_wp2_with fail
                refine HF.out.mono ?_
                rintro e w' ⟨rfl, rfl⟩
                go_wp2_with fail
                go_ret
                exact ⟨ret_bool Hn.out, BW.out⟩
            · have hq : (g.toList == f.toList) = false := by rw [beq_eq_false_iff_ne]; exact he
              have Hx := Lib.hid (show ∀ h, h < j + 1 → clashB (t.words.getD h ⟨#[]⟩) u = false from fun h hh => by
                rcases Nat.lt_or_eq_of_le (Nat.le_of_lt_succ hh) with h1 | h1
                · exact Hno.out h h1
                · rw [h1, HV.out, HCL.out, hq]; rfl)
              go_wp2_with fail
              refine HG.out.mono ?_
              rintro e w' ⟨rfl, rfl⟩
              go_wp2_with fail
              refine HF.out.mono ?_
              rintro e w' ⟨rfl, rfl⟩
              go_wp2_with fail
              go_roundw
              case rel => exact ⟨j + 1, by omega, by go_num, Hx, by first | rfl | trivial⟩
              case measure => simp [intOf]; omega
          · obtain rfl : j = k := by omega
            have Hall2 := Lib.hid (show ∀ h, h < j + 1 → fieldB t.words h (t.words.getD h ⟨#[]⟩) = true from fun h hh => by
              rcases Nat.lt_or_eq_of_le (Nat.le_of_lt_succ hh) with h1 | h1
              · exact Hall.out h h1
              · subst h1
                rw [HU.out]
                exact fieldB_yes (by rw [HFE.out]; exact H3.out) (by rw [HN.out]; omega) Hno.out)
            go_wp2_with fail
            go_roundw
            case rel => exact ⟨j + 1, by omega, by go_num, Hall2, by first | rfl | trivial⟩
            case measure => simp [intOf]; omega
    · obtain rfl : k = n := by omega
      have HF := Lib.hid (show fieldsB t.words = true from fieldsB_yes (fun j hj => Hall.out j (by rw [HN.out] at hj; exact hj)))
      have x3 := X3.out
      have x4 := X4.out
      by_cases hnm : k = m
      · have Hn := Lib.hid (show true = r by rw [← HR.out, HF.out, Bool.true_and, HN.out, HM.out, decide_eq_true hnm])
        have hq : ((k : Int) == (m : Int)) = true := by rw [beq_iff_eq]; omega
        go_wp2_with fail
        go_ret
        exact ⟨ret_bool Hn.out, BW.out⟩
      · have Hn := Lib.hid (show false = r by rw [← HR.out, HF.out, Bool.true_and, HN.out, HM.out, decide_eq_false hnm])
        have hq : ((k : Int) == (m : Int)) = false := by rw [beq_eq_false_iff_ne]; omega
        go_wp2_with fail
        go_ret
        exact ⟨ret_bool Hn.out, BW.out⟩
end Go.Proofs.YtkmnfkhchcoamaaGreatDoor

