/- A type's text, as a function. -/
import Derived.Test.YtleiaghegokjkaaGreatDoorTypPAdd
import Derived.Laws.MakeOwn
import Derived.Laws.OwnMore
import Derived.Deep.OwnRows
namespace Go.Proofs.YtleiaghegokjkaaGreatDoor
open Go.RowKit
set_option linter.unusedSimpArgs false
set_option linter.unusedVariables false

def itoaS (n : Int) : ByteArray := ⟨(Lib.itoa n).toArray⟩
/-- What stands in an interface's text. -/
def partF (w k : ByteArray) : ByteArray := w ++ ⟨(Lib.trimPrefix k.data.toList [102, 117, 110, 99]).toArray⟩
def methodsF (t : Ty) (ks : List ByteArray) : List ByteArray := (if t.n % 2 = 1 then [⟨#[99, 111, 109, 112, 97, 114, 97, 98, 108, 101]⟩] else []) ++ ((t.words.zip ks).filter (fun p => !markB p.1)).map (fun p => partF p.1 p.2)
def termsF (t : Ty) (ks : List ByteArray) : List ByteArray := ((t.words.zip ks).filter (fun p => markB p.1)).map (fun p => if p.1.toList = [61] then p.2 else p.1 ++ p.2)
def partsF (t : Ty) (ks : List ByteArray) : List ByteArray :=
  if t.n < 2 then methodsF t ks else if termsF t ks = [] then methodsF t ks ++ [⟨#[110, 111, 110, 101]⟩] else methodsF t ks ++ [joinT (termsF t ks) ⟨#[32, 124, 32]⟩]
/-- A type's text, told its kids'. -/
def textF (t : Ty) (ks : List ByteArray) : ByteArray :=
  if t.kind = 1 then ⟨#[42]⟩ ++ ks.getD 0 ⟨#[]⟩
  else if t.kind = 2 then ⟨#[91, 93]⟩ ++ ks.getD 0 ⟨#[]⟩
  else if t.kind = 3 then ((⟨#[91]⟩ ++ itoaS t.n) ++ ⟨#[93]⟩) ++ ks.getD 0 ⟨#[]⟩
  else if t.kind = 4 then ((⟨#[109, 97, 112, 91]⟩ ++ ks.getD 0 ⟨#[]⟩) ++ ⟨#[93]⟩) ++ ks.getD 1 ⟨#[]⟩
  else if t.kind = 5 then joinT (((⟨#[102, 117, 110, 99, 40]⟩ ++ joinT (ks.take (ks.length - t.n.toNat)) ⟨#[44, 32]⟩) ++ ⟨#[41]⟩) :: ks.drop (ks.length - t.n.toNat)) ⟨#[32]⟩
  else if t.kind = 6 then (⟨#[115, 116, 114, 117, 99, 116, 123]⟩ ++ joinT (List.zipWith (fun w k => (w ++ ⟨#[32]⟩) ++ k) t.words ks) ⟨#[59, 32]⟩) ++ ⟨#[125]⟩
  else if t.kind = 7 then (⟨#[105, 110, 116, 101, 114, 102, 97, 99, 101, 123]⟩ ++ joinT (partsF t ks) ⟨#[59, 32]⟩) ++ ⟨#[125]⟩
  else if t.kind = 9 then ⟨#[35]⟩ ++ itoaS t.n
  else if 0 < ks.length then ((t.name ++ ⟨#[91]⟩) ++ joinT ks ⟨#[44, 32]⟩) ++ ⟨#[93]⟩
  else t.name
def kidsT (T : Nat → ByteArray) (t : Ty) : List ByteArray := t.kids.map fun k => T k.toNat
theorem kidsT_len (T : Nat → ByteArray) (t : Ty) : (kidsT T t).length = t.kids.length := by unfold kidsT; simp
theorem kidsT_get {T : Nat → ByteArray} {t : Ty} {j : Nat} (h : j < t.kids.length) : (kidsT T t).getD j ⟨#[]⟩ = T (t.kids.getD j 0).toNat := by
  rw [getD_of (by rw [kidsT_len]; exact h), getD_of h]
  simp [kidsT]
/-- Which types' texts are needed: behind c rounds from i down. -/
def kmark (nd : Nat → Bool) (j : Nat) (ks : List Int) : Nat → Bool := fun m => nd m || (nd j && decide ((m : Int) ∈ ks))
def needD (f : Nat → Ty) (i : Nat) : Nat → Nat → Bool
  | 0 => fun m => decide (m = i)
  | c + 1 => kmark (needD f i c) (i - c) (f (i - c)).kids
theorem kmark_nil (nd : Nat → Bool) (j : Nat) : kmark nd j [] = nd := by
  funext m
  unfold kmark
  simp
theorem kmark_self (nd : Nat → Bool) (j : Nat) (ks : List Int) : kmark nd j ks j = nd j := by
  unfold kmark
  cases nd j <;> simp
theorem kmark_step {nd : Nat → Bool} {j : Nat} {ks : List Int} {q z : Nat} (hq : q < ks.length) (hz : ks.getD q 0 = (z : Int)) (hzj : z ≠ j) :
    (fun m => if m = z then (kmark nd j (ks.take q) z || kmark nd j (ks.take q) j) else kmark nd j (ks.take q) m) = kmark nd j (ks.take (q + 1)) := by
  funext m
  rw [kmark_self]
  have e : ks.take (q + 1) = ks.take q ++ [(z : Int)] := by
    rw [List.take_succ_eq_append_getElem hq, ← hz, getD_of hq]
  rw [e]
  by_cases hm : m = z
  · subst hm
    rw [if_pos rfl]
    unfold kmark
    cases nd m <;> cases nd j <;> simp
  · rw [if_neg hm]
    unfold kmark
    have : ((m : Int) ∈ ks.take q ++ [(z : Int)]) ↔ (m : Int) ∈ ks.take q := by
      rw [List.mem_append, List.mem_singleton]
      constructor
      · rintro (h | h)
        · exact h
        · exact absurd (by omega) hm
      · exact .inl
    simp only [this]
theorem needD_self (f : Nat → Ty) (i : Nat) : ∀ c, needD f i c i = true
  | 0 => by simp [needD]
  | c + 1 => by
    show kmark (needD f i c) (i - c) (f (i - c)).kids i = true
    unfold kmark
    rw [needD_self f i c]
    rfl
/-- The texts behind j rounds; none, if one is too long. -/
def runF (f : Nat → Ty) (nd : Nat → Bool) : Nat → Option (Nat → ByteArray)
  | 0 => some fun _ => ⟨#[]⟩
  | j + 1 => match runF f nd j with
    | none => none
    | some T => if nd j = true then (if 4000 < (textF (f j) (kidsT T (f j))).size then none else some fun m => if m = j then textF (f j) (kidsT T (f j)) else T m) else some T
def outF (f : Nat → Ty) (i : Nat) : ByteArray × Int := match runF f (needD f i (i + 1)) (i + 1) with
  | none => (⟨#[]⟩, 7)
  | some T => (T i, 0)
theorem runF_none {f : Nat → Ty} {nd : Nat → Bool} {j : Nat} (h : runF f nd j = none) : ∀ k, j ≤ k → runF f nd k = none
  | 0, hk => by
    have : j = 0 := by omega
    subst this
    exact h
  | k + 1, hk => by
    rcases Nat.lt_or_eq_of_le hk with hk | hk
    · show (match runF f nd k with | none => none | some T => _) = none
      rw [runF_none h k (by omega)]
    · rw [← hk]; exact h
theorem runF_skip {f : Nat → Ty} {nd : Nat → Bool} {j : Nat} {T : Nat → ByteArray} (h : runF f nd j = some T) (hn : nd j = false) : runF f nd (j + 1) = some T := by
  show (match runF f nd j with | none => none | some T => _) = some T
  rw [h]
  simp [hn]
theorem runF_long {f : Nat → Ty} {nd : Nat → Bool} {j : Nat} {T : Nat → ByteArray} (h : runF f nd j = some T) (hn : nd j = true) (hl : 4000 < (textF (f j) (kidsT T (f j))).size) : runF f nd (j + 1) = none := by
  show (match runF f nd j with | none => none | some T => _) = none
  rw [h]
  simp [hn, hl]
theorem runF_next {f : Nat → Ty} {nd : Nat → Bool} {j : Nat} {T : Nat → ByteArray} (h : runF f nd j = some T) (hn : nd j = true) (hl : ¬ 4000 < (textF (f j) (kidsT T (f j))).size) : runF f nd (j + 1) = some fun m => if m = j then textF (f j) (kidsT T (f j)) else T m := by
  show (match runF f nd j with | none => none | some T => _) = _
  rw [h]
  simp [hn, hl]
theorem runF_size {f : Nat → Ty} {nd : Nat → Bool} : ∀ {j : Nat} {T : Nat → ByteArray}, runF f nd j = some T → ∀ m, (T m).size ≤ 4000
  | 0, T, h, m => by
    have h : (some fun _ => (⟨#[]⟩ : ByteArray)) = some T := h
    injection h with h
    rw [← h]
    exact Nat.zero_le _
  | j + 1, T, h, m => by
    have h : (match runF f nd j with | none => none | some T => if nd j = true then (if 4000 < (textF (f j) (kidsT T (f j))).size then none else some fun m => if m = j then textF (f j) (kidsT T (f j)) else T m) else some T) = some T := h
    cases hr : runF f nd j with
    | none => rw [hr] at h; cases h
    | some T0 =>
      rw [hr] at h
      simp only at h
      split at h
      · split at h
        · cases h
        · injection h with h
          rw [← h]
          simp only
          split
          · omega
          · exact runF_size hr m
      · injection h with h
        rw [← h]
        exact runF_size hr m
/-! ### Rows told by functions -/
def rowS (L : Nat) (f : Nat → ByteArray) : Array Value := ((List.range L).map fun j => Value.string (f j)).toArray
def rowB (L : Nat) (f : Nat → Bool) : Array Value := ((List.range L).map fun j => Value.bool (f j)).toArray
theorem rowS_get {L : Nat} {f : Nat → ByteArray} {j : Nat} (h : j < L) : (rowS L f)[j]? = some (.string (f j)) := by unfold rowS; simp [h]
theorem rowB_get {L : Nat} {f : Nat → Bool} {j : Nat} (h : j < L) : (rowB L f)[j]? = some (.bool (f j)) := by unfold rowB; simp [h]
theorem rowS_size {L : Nat} {f : Nat → ByteArray} : (rowS L f).size = L := by simp [rowS]
theorem rowB_size {L : Nat} {f : Nat → Bool} : (rowB L f).size = L := by simp [rowB]
theorem rowS_set {L : Nat} {f : Nat → ByteArray} {k : Nat} {d : ByteArray} : (rowS L f).setIfInBounds k (.string d) = rowS L fun j => if j = k then d else f j := by
  apply Array.ext_getElem?
  intro j
  by_cases hj : j < L
  · rw [rowS_get hj]
    by_cases hk : k = j
    · subst hk
      rw [Array.getElem?_setIfInBounds_self_of_lt (by rw [rowS_size]; exact hj)]
      simp
    · rw [Array.getElem?_setIfInBounds_ne hk, rowS_get hj, if_neg (fun e => hk e.symm)]
  · rw [Array.getElem?_eq_none (by rw [Array.size_setIfInBounds, rowS_size]; omega), Array.getElem?_eq_none (by rw [rowS_size]; omega)]
theorem rowB_set {L : Nat} {f : Nat → Bool} {k : Nat} {d : Bool} : (rowB L f).setIfInBounds k (.bool d) = rowB L fun j => if j = k then d else f j := by
  apply Array.ext_getElem?
  intro j
  by_cases hj : j < L
  · rw [rowB_get hj]
    by_cases hk : k = j
    · subst hk
      rw [Array.getElem?_setIfInBounds_self_of_lt (by rw [rowB_size]; exact hj)]
      simp
    · rw [Array.getElem?_setIfInBounds_ne hk, rowB_get hj, if_neg (fun e => hk e.symm)]
  · rw [Array.getElem?_eq_none (by rw [Array.size_setIfInBounds, rowB_size]; omega), Array.getElem?_eq_none (by rw [rowB_size]; omega)]
theorem rowS_made (n : Nat) : madeCells #[.string ⟨#[]⟩] n = rowS n fun _ => ⟨#[]⟩ := by
  apply Array.toList_inj.1
  rw [toList_madeCells_one]
  unfold rowS
  simp [List.map_const']
theorem rowB_made (n : Nat) : madeCells #[.bool false] n = rowB n fun _ => false := by
  apply Array.toList_inj.1
  rw [toList_madeCells_one]
  unfold rowB
  simp [List.map_const']
theorem info_boolT : (Tryz.prog.info? 4).map (fun i => (i.zero, i.size, i.bytes)) = some (some (.bool false), 1, 1) := by kernel_rfl
theorem info_strT : (Tryz.prog.info? 9).map (fun i => (i.zero, i.size, i.bytes)) = some (some (.string ⟨#[]⟩), 1, 16) := by kernel_rfl
theorem make_strs (n : Nat) (hn : n ≤ 1000000) (w : World) :
    (Instr.makeSlice 39 (.int .i64 (n : Int)) (.int .i64 (n : Int))).run Tryz.prog w = .ok (.slice (some ⟨w.heap.size, 0, none⟩) n n) (w.alloc (.cells (rowS n fun _ => ⟨#[]⟩) 9)) := by
  rw [← rowS_made]
  exact run_make_row' 39 9 (.string ⟨#[]⟩) 16 Tryz.underlying39 info_strT rfl .i64 .i64 n (by omega) (by omega) w
theorem make_boolsT (n : Nat) (hn : n ≤ 1000000) (w : World) :
    (Instr.makeSlice 45 (.int .i64 (n : Int)) (.int .i64 (n : Int))).run Tryz.prog w = .ok (.slice (some ⟨w.heap.size, 0, none⟩) n n) (w.alloc (.cells (rowB n fun _ => false) 4)) := by
  rw [← rowB_made]
  exact run_make_row' 45 4 (.bool false) 1 Tryz.underlying45 info_boolT rfl .i64 .i64 n (by omega) (by omega) w
/-- The contract of a type's text. -/
def TextC (t : Ty) : Prop := ∀ (W : World) (wo ko : Option Addr) (wc kc tb n : Nat) (T : Nat → ByteArray), TyC W wo ko t → t.words.length ≤ wc → t.kids.length ≤ kc → BlockAt W tb (rowS n T) 9 → n ≤ 400 → (∀ m, (T m).size ≤ 4000) →
  (∀ k ∈ t.kids, 0 ≤ k ∧ k < (n : Int)) → PowAt W → Calls Tryz.prog 39 #[tyV t wo wc ko kc, .slice (some ⟨tb, 0, none⟩) n n] W fun e w' => e = .returned (.string (textF t (kidsT T t))) ∧ Below W.heap.size W w'
end Go.Proofs.YtleiaghegokjkaaGreatDoor
