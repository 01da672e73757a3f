/- Tokens, as functions: what both the program and the document's answer compute. -/
import Derived.Test.YtjhgibdebcapfaaSrcBase
import Derived.Test.YtjhgibdebcapfaaSrcCheck
namespace Go.Proofs.Ytjhgibdebcapfaa
open Go.RowKit
set_option linter.unusedSimpArgs false
set_option linter.unusedVariables false

/-- A token: its kind, its text, its place. -/
structure Tk where
  kind : Int
  text : ByteArray
  pos : Nat
deriving DecidableEq

/-- From i on, as long as p holds, below n. -/
def runF (p : Nat → Bool) (n : Nat) : Nat → Nat → Nat
  | 0, i => i
  | f + 1, i => if i < n ∧ p i = true then runF p n f (i + 1) else i
def run (p : Nat → Bool) (n i : Nat) : Nat := runF p n (n - i) i
theorem run_step {p : Nat → Bool} {n i : Nat} (h : i < n) (hp : p i = true) : run p n i = run p n (i + 1) := by
  unfold run
  obtain ⟨f, hf⟩ : ∃ f, n - i = f + 1 := ⟨n - i - 1, by omega⟩
  rw [hf, show n - (i + 1) = f by omega]
  show (if i < n ∧ p i = true then _ else i) = _
  rw [if_pos ⟨h, hp⟩]
theorem run_stop {p : Nat → Bool} {n i : Nat} (h : ¬ (i < n ∧ p i = true)) : run p n i = i := by
  unfold run
  cases n - i with
  | zero => rfl
  | succ f =>
    show (if i < n ∧ p i = true then _ else i) = i
    rw [if_neg h]
theorem runF_bounds {p : Nat → Bool} {n : Nat} : ∀ f i : Nat, i ≤ runF p n f i ∧ (runF p n f i ≤ n ∨ runF p n f i = i)
  | 0, i => ⟨Nat.le_refl _, .inr rfl⟩
  | f + 1, i => by
    have ih := runF_bounds (p := p) (n := n) f (i + 1)
    show i ≤ (if i < n ∧ p i = true then _ else i) ∧ ((if i < n ∧ p i = true then _ else i) ≤ n ∨ (if i < n ∧ p i = true then _ else i) = i)
    split <;> omega
theorem run_le {p : Nat → Bool} {n i : Nat} (h : i ≤ n) : run p n i ≤ n := by
  have := (runF_bounds (p := p) (n := n) (n - i) i).2
  unfold run
  omega
theorem le_run {p : Nat → Bool} {n i : Nat} : i ≤ run p n i := (runF_bounds (n - i) i).1
theorem run_same {p q : Nat → Bool} {n : Nat} : ∀ f i : Nat, (∀ j, i ≤ j → j < n → p j = q j) → runF p n f i = runF q n f i
  | 0, _, _ => rfl
  | f + 1, i, h => by
    show (if i < n ∧ p i = true then _ else i) = (if i < n ∧ q i = true then _ else i)
    by_cases hi : i < n
    · rw [h i (Nat.le_refl _) hi, run_same f (i + 1) (fun j h1 h2 => h j (by omega) h2)]
    · rw [if_neg (fun h => hi h.1), if_neg (fun h => hi h.1)]
theorem run_eq {p q : Nat → Bool} {n i : Nat} (h : ∀ j, i ≤ j → j < n → p j = q j) : run p n i = run q n i := run_same _ _ h

def upC (c : Int) : Int := if 97 ≤ c ∧ c ≤ 122 then c - 32 else c
def keys : List ByteArray := [⟨#[98, 114, 101, 97, 107]⟩, ⟨#[99, 97, 115, 101]⟩, ⟨#[99, 104, 97, 110]⟩, ⟨#[99, 111, 110, 115, 116]⟩, ⟨#[99, 111, 110, 116, 105, 110, 117, 101]⟩, ⟨#[100, 101, 102, 97, 117, 108, 116]⟩, ⟨#[100, 101, 102, 101, 114]⟩, ⟨#[101, 108, 115, 101]⟩, ⟨#[102, 97, 108, 108, 116, 104, 114, 111, 117, 103, 104]⟩, ⟨#[102, 111, 114]⟩, ⟨#[102, 117, 110, 99]⟩, ⟨#[103, 111]⟩, ⟨#[103, 111, 116, 111]⟩, ⟨#[105, 102]⟩, ⟨#[105, 109, 112, 111, 114, 116]⟩, ⟨#[105, 110, 116, 101, 114, 102, 97, 99, 101]⟩, ⟨#[109, 97, 112]⟩, ⟨#[112, 97, 99, 107, 97, 103, 101]⟩, ⟨#[114, 97, 110, 103, 101]⟩, ⟨#[114, 101, 116, 117, 114, 110]⟩, ⟨#[115, 101, 108, 101, 99, 116]⟩, ⟨#[115, 116, 114, 117, 99, 116]⟩, ⟨#[115, 119, 105, 116, 99, 104]⟩, ⟨#[116, 121, 112, 101]⟩, ⟨#[118, 97, 114]⟩]
def opers : List ByteArray := [⟨#[43]⟩, ⟨#[45]⟩, ⟨#[42]⟩, ⟨#[47]⟩, ⟨#[37]⟩, ⟨#[38]⟩, ⟨#[124]⟩, ⟨#[94]⟩, ⟨#[60, 60]⟩, ⟨#[62, 62]⟩, ⟨#[38, 38]⟩, ⟨#[124, 124]⟩, ⟨#[61, 61]⟩, ⟨#[33, 61]⟩, ⟨#[60]⟩, ⟨#[60, 61]⟩, ⟨#[62]⟩, ⟨#[62, 61]⟩, ⟨#[33]⟩, ⟨#[40]⟩, ⟨#[41]⟩, ⟨#[91]⟩, ⟨#[93]⟩, ⟨#[123]⟩, ⟨#[125]⟩, ⟨#[44]⟩, ⟨#[46]⟩, ⟨#[59]⟩, ⟨#[61]⟩, ⟨#[58, 61]⟩, ⟨#[58]⟩, ⟨#[126]⟩, ⟨#[46, 46, 46]⟩]
def keyB (s : ByteArray) : Bool := keys.any fun k => s.toList == k.toList
def opB (s : ByteArray) : Bool := opers.any fun k => s.toList == k.toList
/-- What is taken at a place: its kind, where it ends, the error. -/
structure Got where
  kind : Int
  stop : Nat
  err : Int
deriving DecidableEq
def nameT (s : ByteArray) (i : Nat) : Got :=
  let e := run (fun k => inB (byteAt s k)) s.size i
  if 20 < e - i then ⟨0, 0, 7⟩ else if keyB (s.extract i e) = true then ⟨7, e, 0⟩ else ⟨1, e, 0⟩
def baseC (s : ByteArray) (i : Nat) : Int := if byteAt s i = 48 then upC (byteAt s (i + 1)) else 0
def otherB (s : ByteArray) (i : Nat) : Bool := decide (baseC s i = 88 ∨ baseC s i = 66 ∨ baseC s i = 79)
/-- Is byte k one of the number's that begins at i? -/
def numC (s : ByteArray) (i k : Nat) : Bool := inB (byteAt s k) || decide (byteAt s k = 46) || (decide (i < k ∧ upC (byteAt s (k - 1)) = 69 ∧ ¬ baseC s i = 88) && decide (byteAt s k = 43 ∨ byteAt s k = 45))
def dotB (s : ByteArray) (k : Nat) : Bool := decide (byteAt s k = 46 ∨ upC (byteAt s k) = 69)
def dotIn (s : ByteArray) (i e : Nat) : Bool := (List.range' i (e - i)).any (dotB s)
def numberT (s : ByteArray) (i : Nat) : Got :=
  let e := run (numC s i) s.size i
  ⟨if otherB s i = false ∧ dotIn s i e = true then 3 else 2, e, 0⟩
/-- Behind the quote q that ends it; none: there is none. -/
def quoF (s : ByteArray) (q : Int) : Nat → Nat → Option Nat
  | 0, _ => none
  | f + 1, e =>
    if s.size ≤ e then none else if byteAt s e = q then some (e + 1) else
      let d := if q ≠ 96 ∧ byteAt s e = 92 then e + 1 else e
      if q ≠ 96 ∧ byteAt s d = 10 then none else quoF s q f (d + 1)
def quo (s : ByteArray) (q : Int) (e : Nat) : Option Nat := quoF s q (s.size + 1 - e) e
def quoG (q : Int) : Option Nat → Got
  | none => ⟨0, 0, 5⟩
  | some e => ⟨if q = 39 then 4 else 5, e, 0⟩
def quotedT (s : ByteArray) (i : Nat) : Got := quoG (byteAt s i) (quo s (byteAt s i) (i + 1))
def operT (s : ByteArray) (i : Nat) : Got :=
  if i + 3 ≤ s.size ∧ opB (s.extract i (i + 3)) = true then ⟨6, i + 3, 0⟩ else if i + 2 ≤ s.size ∧ opB (s.extract i (i + 2)) = true then ⟨6, i + 2, 0⟩
  else if i + 1 ≤ s.size ∧ opB (s.extract i (i + 1)) = true then ⟨6, i + 1, 0⟩ else ⟨0, 0, 12⟩
def isNum (s : ByteArray) (i : Nat) : Bool := digB (byteAt s i) || (decide (byteAt s i = 46) && digB (byteAt s (i + 1)))
def isQuo (s : ByteArray) (i : Nat) : Bool := decide (byteAt s i = 39 ∨ byteAt s i = 34 ∨ byteAt s i = 96)
def tokT (s : ByteArray) (i : Nat) : Got :=
  if letB (byteAt s i) = true then nameT s i else if isNum s i = true then numberT s i else if isQuo s i = true then quotedT s i else operT s i
/-- What is left out at a place: where it ends, whether it is a new line, the error. -/
structure Left where
  stop : Nat
  line : Bool
  err : Int
deriving DecidableEq
def comC (s : ByteArray) (k : Nat) : Bool := decide (k + 1 < s.size) && !(decide (byteAt s k = 42) && decide (byteAt s (k + 1) = 47))
def nlIn (s : ByteArray) (i e : Nat) : Bool := (List.range' i (e - i)).any (fun k => decide (byteAt s k = 10))
def skipT (s : ByteArray) (i : Nat) : Left :=
  if byteAt s i = 9 ∨ byteAt s i = 13 ∨ byteAt s i = 32 then ⟨i + 1, false, 0⟩ else if byteAt s i = 10 then ⟨i + 1, true, 0⟩ else if byteAt s i ≠ 47 then ⟨i, false, 0⟩
  else if byteAt s (i + 1) = 47 then ⟨run (fun k => !decide (byteAt s k = 10)) s.size (i + 2), false, 0⟩ else if byteAt s (i + 1) ≠ 42 then ⟨i, false, 0⟩
  else
    let e := run (comC s) s.size (i + 2)
    if s.size ≤ e + 1 then ⟨0, false, 5⟩ else ⟨e + 2, nlIn s (i + 2) e, 0⟩
def shutT (t : Tk) : Bool := if t.kind = 6 then (t.text.toList == [41] || t.text.toList == [93] || t.text.toList == [125]) else if t.kind = 7 then t.text.toList == [114, 101, 116, 117, 114, 110] else true
def endsT (l : List Tk) : Bool := match l.getLast? with
  | none => false
  | some t => shutT t
def nlT (i : Nat) : Tk := ⟨6, ⟨#[10]⟩, i⟩
def lineT (b : Bool) (i : Nat) (l : List Tk) : List Tk := if b = true ∧ endsT l = true then l ++ [nlT i] else l
/-- A text's tokens, where an error is, and the error. -/
structure Res where
  toks : List Tk
  pos : Int
  err : Int
deriving DecidableEq
def closeT (s : ByteArray) (l : List Tk) : Res :=
  let l2 := lineT true s.size l ++ [⟨0, ⟨#[]⟩, s.size⟩]
  if 1500 < l2.length then ⟨[], 0, 7⟩ else ⟨l2, 0, 0⟩
def scanF (s : ByteArray) : Nat → Nat → List Tk → Res
  | 0, _, l => closeT s l
  | f + 1, i, l =>
    if s.size ≤ i then closeT s l else
      let k := skipT s i
      if k.err ≠ 0 then ⟨[], i, k.err⟩ else
        if i < k.stop then scanF s f k.stop (lineT k.line i l) else
          let t := tokT s i
          if t.err ≠ 0 then ⟨[], i, t.err⟩ else scanF s f t.stop (lineT k.line i l ++ [⟨t.kind, s.extract i t.stop, i⟩])
def scanR (s : ByteArray) (i : Nat) (l : List Tk) : Res := scanF s (s.size - i) i l
def scanT (s : ByteArray) : Res := if 4000 < s.size then ⟨[], 0, 7⟩ else if spoil s ≠ -1 then ⟨[], spoil s, 12⟩ else scanR s 0 []

theorem name_rise {s : ByteArray} {i : Nat} (h : i < s.size) (hl : letB (byteAt s i) = true) (he : (nameT s i).err = 0) : i < (nameT s i).stop ∧ (nameT s i).stop ≤ s.size := by
  have h1 : inB (byteAt s i) = true := by unfold inB; rw [hl]; rfl
  have h2 : i < run (fun k => inB (byteAt s k)) s.size i := by rw [run_step h h1]; exact Nat.lt_of_lt_of_le (Nat.lt_succ_self _) le_run
  have h3 : run (fun k => inB (byteAt s k)) s.size i ≤ s.size := run_le (by omega)
  unfold nameT at he ⊢
  simp only at he ⊢
  split at he
  · cases he
  · rename_i hn
    rw [if_neg hn]
    split <;> exact ⟨h2, h3⟩
theorem number_rise {s : ByteArray} {i : Nat} (h : i < s.size) (hl : isNum s i = true) : i < (numberT s i).stop ∧ (numberT s i).stop ≤ s.size := by
  have h1 : numC s i i = true := by
    unfold isNum at hl
    unfold numC inB
    rcases Bool.or_eq_true_iff.1 hl with h1 | h1
    · rw [h1]; simp
    · rw [Bool.and_eq_true_iff] at h1
      rw [h1.1]; simp
  have h2 : i < run (numC s i) s.size i := by rw [run_step h h1]; exact Nat.lt_of_lt_of_le (Nat.lt_succ_self _) le_run
  exact ⟨h2, run_le (by omega)⟩
theorem quoF_rise {s : ByteArray} {q : Int} : ∀ (f e r : Nat), quoF s q f e = some r → e < r ∧ r ≤ s.size
  | 0, _, _, h => by cases h
  | f + 1, e, r, h => by
    unfold quoF at h
    split at h
    · cases h
    · split at h
      · injection h with h; omega
      · simp only at h
        generalize hd : (if q ≠ 96 ∧ byteAt s e = 92 then e + 1 else e) = d at h
        have hde : e ≤ d := by rw [← hd]; split <;> omega
        split at h
        · cases h
        · have := quoF_rise f _ _ h
          omega
theorem quoted_rise {s : ByteArray} {i : Nat} (he : (quotedT s i).err = 0) : i < (quotedT s i).stop ∧ (quotedT s i).stop ≤ s.size := by
  unfold quotedT at he ⊢
  cases hq : quo s (byteAt s i) (i + 1) with
  | none => rw [hq] at he; exact absurd (show (5 : Int) = 0 from he) (by decide)
  | some e =>
    have := quoF_rise _ _ _ hq
    show i < e ∧ e ≤ s.size
    omega
theorem oper_rise {s : ByteArray} {i : Nat} (he : (operT s i).err = 0) : i < (operT s i).stop ∧ (operT s i).stop ≤ s.size := by
  unfold operT at he ⊢
  split at he
  · rename_i h; rw [if_pos h]; exact ⟨by show i < i + 3; omega, h.1⟩
  · rename_i h; rw [if_neg h]
    split at he
    · rename_i h; rw [if_pos h]; exact ⟨by show i < i + 2; omega, h.1⟩
    · rename_i h; rw [if_neg h]
      split at he
      · rename_i h; rw [if_pos h]; exact ⟨by show i < i + 1; omega, h.1⟩
      · cases he
theorem tok_rise {s : ByteArray} {i : Nat} (h : i < s.size) (he : (tokT s i).err = 0) : i < (tokT s i).stop ∧ (tokT s i).stop ≤ s.size := by
  unfold tokT at he ⊢
  split at he
  · rename_i h1; rw [if_pos h1]; exact name_rise h h1 he
  · rename_i h1; rw [if_neg h1]
    split at he
    · rename_i h1; rw [if_pos h1]; exact number_rise h h1
    · rename_i h1; rw [if_neg h1]
      split at he
      · rename_i h1; rw [if_pos h1]; exact quoted_rise he
      · rename_i h1; rw [if_neg h1]; exact oper_rise he
theorem byte_lt {s : ByteArray} {k : Nat} (h : byteAt s k ≠ 0) : k < s.size := by
  rcases Nat.lt_or_ge k s.size with h1 | h1
  · exact h1
  · exact absurd (byteAt_none (by omega)) h
theorem skip_le {s : ByteArray} {i : Nat} (h : i < s.size) (he : (skipT s i).err = 0) : (skipT s i).stop ≤ s.size := by
  unfold skipT at he ⊢
  split
  · exact h
  split
  · exact h
  split
  · exact Nat.le_of_lt h
  split
  · rename_i h4
    exact run_le (by have := byte_lt (s := s) (k := i + 1) (by rw [h4]; decide); omega)
  split
  · exact Nat.le_of_lt h
  · rename_i h1 h2 h3 h4 h5
    rw [if_neg h1, if_neg h2, if_neg h3, if_neg h4, if_neg h5] at he
    simp only at he ⊢
    split at he
    · cases he
    · rename_i h6
      rw [if_neg h6]
      show run (comC s) s.size (i + 2) + 2 ≤ s.size
      omega
/-- A round of the reckoning. -/
theorem scanR_end {s : ByteArray} {i : Nat} {l : List Tk} (h : s.size ≤ i) : scanR s i l = closeT s l := by
  unfold scanR
  rw [show s.size - i = 0 by omega]
  rfl
theorem scanF_more {s : ByteArray} : ∀ (f g i : Nat) (l : List Tk), s.size - i ≤ f → f ≤ g → scanF s f i l = scanF s g i l
  | 0, 0, _, _, _, _ => rfl
  | 0, g + 1, i, l, h, _ => by
    show closeT s l = (if s.size ≤ i then closeT s l else _)
    rw [if_pos (by omega)]
  | f + 1, 0, _, _, _, h => by omega
  | f + 1, g + 1, i, l, h, hg => by
    unfold scanF
    by_cases hi : s.size ≤ i
    · rw [if_pos hi, if_pos hi]
    · rw [if_neg hi, if_neg hi]
      simp only
      split
      · rfl
      · split
        · rename_i h2
          exact scanF_more f g _ _ (by omega) (by omega)
        · split
          · rfl
          · rename_i h3
            have := tok_rise (s := s) (i := i) (by omega) (by simpa using h3)
            exact scanF_more f g _ _ (by omega) (by omega)
theorem scanR_unf {s : ByteArray} {i : Nat} {l : List Tk} (h : i < s.size) : scanR s i l =
    if (skipT s i).err ≠ 0 then ⟨[], i, (skipT s i).err⟩ else
      if i < (skipT s i).stop then scanR s (skipT s i).stop (lineT (skipT s i).line i l) else
        if (tokT s i).err ≠ 0 then ⟨[], i, (tokT s i).err⟩ else scanR s (tokT s i).stop (lineT (skipT s i).line i l ++ [⟨(tokT s i).kind, s.extract i (tokT s i).stop, i⟩]) := by
  have e : scanR s i l = scanF s (s.size - i - 1 + 1) i l := by unfold scanR; rw [show s.size - i = s.size - i - 1 + 1 by omega]; rfl
  rw [e]
  unfold scanF
  rw [if_neg (by omega)]
  simp only
  split
  · rfl
  · split
    · rename_i h2
      unfold scanR
      exact (scanF_more _ _ _ _ (Nat.le_refl _) (by omega)).symm
    · split
      · rfl
      · rename_i h3
        have := tok_rise (s := s) (i := i) h (by simpa using h3)
        unfold scanR
        exact (scanF_more _ _ _ _ (Nat.le_refl _) (by omega)).symm
theorem scanR_bad {s : ByteArray} {i : Nat} {l : List Tk} (h : i < s.size) (he : (skipT s i).err ≠ 0) : scanR s i l = ⟨[], i, (skipT s i).err⟩ := by rw [scanR_unf h, if_pos he]
theorem scanR_skip {s : ByteArray} {i : Nat} {l : List Tk} (h : i < s.size) (he : (skipT s i).err = 0) (hs : i < (skipT s i).stop) : scanR s i l = scanR s (skipT s i).stop (lineT (skipT s i).line i l) := by
  rw [scanR_unf h, if_neg (fun h => h he), if_pos hs]
theorem scanR_wrong {s : ByteArray} {i : Nat} {l : List Tk} (h : i < s.size) (he : (skipT s i).err = 0) (hs : ¬ i < (skipT s i).stop) (ht : (tokT s i).err ≠ 0) : scanR s i l = ⟨[], i, (tokT s i).err⟩ := by
  rw [scanR_unf h, if_neg (fun h => h he), if_neg hs, if_pos ht]
theorem scanR_tok {s : ByteArray} {i : Nat} {l : List Tk} (h : i < s.size) (he : (skipT s i).err = 0) (hs : ¬ i < (skipT s i).stop) (ht : (tokT s i).err = 0) : scanR s i l = scanR s (tokT s i).stop (lineT (skipT s i).line i l ++ [⟨(tokT s i).kind, s.extract i (tokT s i).stop, i⟩]) := by
  rw [scanR_unf h, if_neg (fun h => h he), if_neg hs, if_neg (fun h => h ht)]
/-- A token stands where nothing is left out: there is no new line. -/
theorem skip_line {s : ByteArray} {i : Nat} (he : (skipT s i).err = 0) (hs : ¬ i < (skipT s i).stop) : (skipT s i).line = false := by
  unfold skipT at he hs ⊢
  split
  · rfl
  split
  · rename_i h1 h2
    rw [if_neg h1, if_pos h2] at hs
    exact absurd (Nat.lt_succ_self i) hs
  split
  · rfl
  split
  · rfl
  split
  · rfl
  · rename_i h1 h2 h3 h4 h5
    rw [if_neg h1, if_neg h2, if_neg h3, if_neg h4, if_neg h5] at he hs
    simp only at he hs ⊢
    split at he
    · cases he
    · rename_i h6
      rw [if_neg h6] at hs
      have h7 : i + 2 ≤ run (comC s) s.size (i + 2) := le_run
      exact absurd (show i < run (comC s) s.size (i + 2) + 2 by omega) hs
theorem lineT_no (i : Nat) (l : List Tk) : lineT false i l = l := by unfold lineT; rw [if_neg (fun h => by cases h.1)]
end Go.Proofs.Ytjhgibdebcapfaa
