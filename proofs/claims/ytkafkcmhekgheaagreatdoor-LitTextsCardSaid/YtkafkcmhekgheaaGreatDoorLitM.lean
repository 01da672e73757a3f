/- Literals: what stands between quotes, as functions. -/
import Derived.Test.YtkafkcmhekgheaaGreatDoorSrcCheck
import Derived.Lib.RuneBytes
namespace Go.Proofs.YtkafkcmhekgheaaGreatDoor
open Go.RowKit
set_option linter.unusedSimpArgs false
set_option linter.unusedVariables false

def digC (c : Int) : Int := if 48 ≤ c ∧ c ≤ 57 then c - 48 else if 97 ≤ c ∧ c ≤ 102 then c - 87 else if 65 ≤ c ∧ c ≤ 70 then c - 55 else 16
def numF (t : ByteArray) (base : Int) : Nat → Nat → Int → Option Int
  | 0, _, v => some v
  | m + 1, j, v => if digC (byteAt t j) < base then numF t base m (j + 1) (v * base + digC (byteAt t j)) else none
def numA (t : ByteArray) (k many : Nat) (base : Int) : Option Int := if t.size < k + many then none else numF t base many k 0
/-- A piece: what it stands for, whether that is a byte, how long it is. -/
structure Pc where
  val : Int
  plain : Bool
  size : Nat
def shortC (c : Int) : Option Int :=
  if c = 97 then some 7 else if c = 98 then some 8 else if c = 102 then some 12 else if c = 110 then some 10 else if c = 114 then some 13 else if c = 116 then some 9 else if c = 118 then some 11 else if c = 92 then some 92 else none
def letV (v : Int) : Bool := decide (v ≤ 1114111 ∧ ¬ (55296 ≤ v ∧ v ≤ 57343))
def uniT (t : ByteArray) (many : Nat) : Option Pc := match numA t 2 many 16 with
  | none => none
  | some v => if letV v = true then some ⟨v, false, 2 + many⟩ else none
def hexT (t : ByteArray) : Option Pc := match numA t 2 2 16 with
  | none => none
  | some v => some ⟨v, true, 4⟩
def octT (t : ByteArray) : Option Pc := match numA t 1 3 8 with
  | none => none
  | some v => if v ≤ 255 then some ⟨v, true, 4⟩ else none
/-- Of a text that begins with byte 92. -/
def escT (t : ByteArray) (q : Int) : Option Pc :=
  if t.size ≤ 1 then none else if byteAt t 1 = q then some ⟨q, true, 2⟩ else
    match shortC (byteAt t 1) with
    | some v => some ⟨v, true, 2⟩
    | none => if byteAt t 1 = 120 then hexT t else if byteAt t 1 = 117 then uniT t 4 else if byteAt t 1 = 85 then uniT t 8 else octT t
def valT (t : ByteArray) : Int :=
  if szAt t 0 = 2 then 64 * (byteAt t 0 - 192) + byteAt t 1 - 128
  else if szAt t 0 = 3 then 64 * (64 * (byteAt t 0 - 224) + byteAt t 1 - 128) + byteAt t 2 - 128
  else if szAt t 0 = 4 then 64 * (64 * (64 * (byteAt t 0 - 240) + byteAt t 1 - 128) + byteAt t 2 - 128) + byteAt t 3 - 128
  else byteAt t 0
/-- What a text between quotes q begins with. -/
def firstT (t : ByteArray) (q : Int) : Option Pc :=
  if t.size = 0 ∨ byteAt t 0 = 10 ∨ byteAt t 0 = q then none else if byteAt t 0 = 92 then escT t q else some ⟨valT t, false, (szAt t 0).toNat⟩
def pcB (p : Pc) : List Int := if p.plain = true then [p.val] else Lib.encodeRuneZ p.val
def runeT (s : ByteArray) : Option Int :=
  if s.size < 2 ∨ byteAt s 0 ≠ 39 then none else match firstT (s.extract 1 s.size) 39 with
    | none => none
    | some p => if p.size + 2 = s.size ∧ byteAt s (s.size - 1) = 39 then some p.val else none
def restF : Nat → ByteArray → Option (List Int)
  | 0, _ => none
  | f + 1, t => if t.size = 1 ∧ byteAt t 0 = 34 then some [] else match firstT t 34 with
    | none => none
    | some p => (restF f (t.extract p.size t.size)).map (pcB p ++ ·)
/-- The bytes from i up to n, but bytes 13. -/
def rawL (s : ByteArray) (i n : Nat) : List Int := ((List.range' i (n - i)).map (byteAt s)).filter (fun c => !decide (c = 13))
def hasB (s : ByteArray) (i n : Nat) (c : Int) : Bool := (List.range' i (n - i)).any (fun k => decide (byteAt s k = c))
def rawT (s : ByteArray) : Option (List Int) :=
  if s.size < 2 ∨ byteAt s (s.size - 1) ≠ 96 ∨ hasB s 1 (s.size - 1) 96 = true then none else some (rawL s 1 (s.size - 1))
def textT (s : ByteArray) : Option (List Int) :=
  if 0 < s.size ∧ byteAt s 0 = 96 then rawT s else if s.size < 2 ∨ byteAt s 0 ≠ 34 then none else restF s.size (s.extract 1 s.size)
/-- The program's: up to the text's end, the last quote is gone. -/
def inF : Nat → ByteArray → Option (List Int)
  | 0, _ => none
  | f + 1, u => if u.size = 0 then some [] else match firstT u 34 with
    | none => none
    | some p => (inF f (u.extract p.size u.size)).map (pcB p ++ ·)

/-! ### Parts of texts -/
theorem size_ext (t : ByteArray) (i n : Nat) (h : n ≤ t.size) : (t.extract i n).size = n - i := by
  rw [ByteArray.size_extract]; omega
theorem byte_ext (t : ByteArray) (i n k : Nat) (hn : n ≤ t.size) : byteAt (t.extract i n) k = if i + k < n then byteAt t (i + k) else 0 := by
  by_cases h : i + k < n
  · have h1 : k < (t.extract i n).size := by rw [size_ext t i n hn]; omega
    rw [if_pos h, byteAt_eq h1, byteAt_eq (show i + k < t.size by omega)]
    rw [ByteArray.getElem_extract]
  · rw [if_neg h]
    exact byteAt_none (by rw [size_ext t i n hn]; omega)
theorem byte_end (t : ByteArray) (i k : Nat) : byteAt (t.extract i t.size) k = byteAt t (i + k) := by
  rw [byte_ext t i t.size k (Nat.le_refl _)]
  split
  · rfl
  · rename_i h; exact (byteAt_none h).symm
theorem tl_end (t : ByteArray) (i k : Nat) : tlB (t.extract i t.size) k = tlB t (i + k) := by
  rw [Bool.eq_iff_iff, tlB_iff, tlB_iff, byte_end]
theorem sz_end (t : ByteArray) (i k : Nat) : szAt (t.extract i t.size) k = szAt t (i + k) := by
  unfold szAt
  simp only [tl_end, byte_end, Nat.add_assoc]
theorem bad_end (t : ByteArray) (i k : Nat) : badAt (t.extract i t.size) k = badAt t (i + k) := by
  unfold badAt
  rw [sz_end, byte_end]
theorem spoilF_same (t : ByteArray) : ∀ (b b' k : Nat), t.size - k ≤ b → t.size - k ≤ b' → spoilF t b k = spoilF t b' k
  | 0, b', k, h, h' => by rw [spoilF_end t 0 k (by omega), spoilF_end t b' k (by omega)]
  | b + 1, 0, k, h, h' => by rw [spoilF_end t 0 k (by omega), spoilF_end t (b + 1) k (by omega)]
  | b + 1, b' + 1, k, h, h' => by
    by_cases hk : k < t.size
    · cases hb : badAt t k
      · rw [spoilF_go hk hb, spoilF_go hk hb]
        have : 1 ≤ (szAt t k).toNat := by
          unfold badAt at hb
          rw [Bool.or_eq_false_iff] at hb
          have h0 := hb.1
          rw [beq_eq_false_iff_ne] at h0
          rcases szAt_cases t k with h | h | h | h | h <;> omega
        exact spoilF_same t b b' _ (by omega) (by omega)
      · rw [spoilF_bad hk hb, spoilF_bad hk hb]
    · rw [spoilF_end t _ k hk, spoilF_end t _ k hk]
/-- From k on it is not spoilt. -/
def Fine (t : ByteArray) (k : Nat) : Prop := spoilF t (t.size - k) k = -1
theorem fine_of {t : ByteArray} (h : spoil t = -1) : Fine t 0 := h
theorem Fine.good {t : ByteArray} {k : Nat} (h : Fine t k) (hk : k < t.size) : badAt t k = false := by
  unfold Fine at h
  obtain ⟨b, hb⟩ : ∃ b, t.size - k = b + 1 := ⟨t.size - k - 1, by omega⟩
  rw [hb] at h
  cases hc : badAt t k
  · rfl
  · rw [spoilF_bad hk hc] at h; omega
theorem good_size {t : ByteArray} {k : Nat} (h : badAt t k = false) : 1 ≤ szAt t k ∧ szAt t k ≤ 4 ∧ byteAt t k ≠ 0 := by
  unfold badAt at h
  rw [Bool.or_eq_false_iff, beq_eq_false_iff_ne, beq_eq_false_iff_ne] at h
  refine ⟨?_, ?_, h.2⟩ <;> rcases szAt_cases t k with e | e | e | e | e <;> omega
theorem Fine.next {t : ByteArray} {k : Nat} (h : Fine t k) (hk : k < t.size) : Fine t (k + (szAt t k).toNat) := by
  have hg := h.good hk
  have hs := good_size hg
  unfold Fine at h ⊢
  obtain ⟨b, hb⟩ : ∃ b, t.size - k = b + 1 := ⟨t.size - k - 1, by omega⟩
  rw [hb, spoilF_go hk hg] at h
  rw [← h]
  exact spoilF_same t _ _ _ (by omega) (by omega)
theorem sz_ascii {t : ByteArray} {k : Nat} (h : byteAt t k < 128) : szAt t k = 1 := by unfold szAt; rw [if_pos h]
theorem Fine.ascii {t : ByteArray} : ∀ (m k : Nat), Fine t k → k + m ≤ t.size → (∀ j, k ≤ j → j < k + m → byteAt t j < 128) → Fine t (k + m)
  | 0, k, h, _, _ => h
  | m + 1, k, h, hs, ha => by
    have h1 := h.next (by omega)
    rw [sz_ascii (ha k (Nat.le_refl _) (by omega))] at h1
    have := Fine.ascii m (k + 1) h1 (by omega) (fun j a b => ha j (by omega) (by omega))
    rw [show k + (m + 1) = k + 1 + m by omega]
    exact this
theorem spoil_end (t : ByteArray) (i : Nat) : ∀ (b k : Nat), (spoilF (t.extract i t.size) b k = -1 ↔ spoilF t b (i + k) = -1)
  | 0, k => Iff.rfl
  | b + 1, k => by
    by_cases hk : i + k < t.size
    · have hk2 : k < (t.extract i t.size).size := by rw [size_ext _ _ _ (Nat.le_refl _)]; omega
      have hbe := bad_end t i k
      cases hb : badAt t (i + k)
      · rw [hb] at hbe
        rw [spoilF_go hk hb, spoilF_go hk2 hbe, sz_end, Nat.add_assoc]
        exact spoil_end t i b _
      · rw [hb] at hbe
        rw [spoilF_bad hk hb, spoilF_bad hk2 hbe]
        omega
    · rw [spoilF_end _ _ _ hk, spoilF_end _ _ _ (by rw [size_ext _ _ _ (Nat.le_refl _)]; omega)]
theorem Fine.part {t : ByteArray} {i : Nat} (h : Fine t i) : Fine (t.extract i t.size) 0 := by
  unfold Fine at *
  rw [spoil_end, size_ext _ _ _ (Nat.le_refl _)]
  exact h
/-! ### Digits -/
theorem digC_ascii {c : Int} (h : digC c < 16) : 48 ≤ c ∧ c < 128 := by
  unfold digC at h
  split at h
  · omega
  split at h
  · omega
  split at h
  · omega
  · omega
theorem digC_nonneg (c : Int) : 0 ≤ digC c := by
  unfold digC
  split
  · omega
  split
  · omega
  split
  · omega
  · omega
theorem numF_end (t : ByteArray) (i : Nat) (base : Int) : ∀ (m j : Nat) (v : Int), numF (t.extract i t.size) base m j v = numF t base m (i + j) v
  | 0, _, _ => rfl
  | m + 1, j, v => by
    unfold numF
    rw [byte_end, numF_end t i base m (j + 1), Nat.add_assoc]
theorem numA_end (t : ByteArray) (i k many : Nat) (base : Int) (hi : i ≤ t.size) : numA (t.extract i t.size) k many base = numA t (i + k) many base := by
  unfold numA
  rw [size_ext _ _ _ (Nat.le_refl _), numF_end]
  by_cases h : t.size < i + k + many
  · rw [if_pos h, if_pos (by omega)]
  · rw [if_neg h, if_neg (by omega)]
theorem numF_bound (t : ByteArray) (base : Int) (hb : 0 < base) : ∀ (m j : Nat) (v r : Int), 0 ≤ v → numF t base m j v = some r → v * base ^ m ≤ r ∧ r < (v + 1) * base ^ m
  | 0, _, v, r, h0, h => by
    injection h with h
    subst h
    rw [Int.pow_zero]; omega
  | m + 1, j, v, r, h0, h => by
    unfold numF at h
    split at h
    · rename_i hd
      have hn := digC_nonneg (byteAt t j)
      have hvb : 0 ≤ v * base := Int.mul_nonneg h0 (Int.le_of_lt hb)
      have ih := numF_bound t base hb m (j + 1) _ r (by omega) h
      have hp : 0 ≤ base ^ m := Int.pow_nonneg (Int.le_of_lt hb)
      rw [Int.pow_succ, Int.mul_comm (base ^ m) base, ← Int.mul_assoc, ← Int.mul_assoc, Int.add_mul v 1 base, Int.one_mul]
      exact ⟨Int.le_trans (Int.mul_le_mul_of_nonneg_right (by omega) hp) ih.1, Int.lt_of_lt_of_le ih.2 (Int.mul_le_mul_of_nonneg_right (by omega) hp)⟩
    · cases h
theorem numF_digits (t : ByteArray) (base : Int) : ∀ (m j : Nat) (v r : Int), numF t base m j v = some r → ∀ k, j ≤ k → k < j + m → digC (byteAt t k) < base
  | 0, _, _, _, _, k, h1, h2 => by omega
  | m + 1, j, v, r, h, k, h1, h2 => by
    unfold numF at h
    split at h
    · rename_i hd
      rcases Nat.lt_or_ge j k with h3 | h3
      · exact numF_digits t base m (j + 1) _ r h k (by omega) (by omega)
      · rw [show k = j by omega]; exact hd
    · cases h
theorem numF_cut (t : ByteArray) (n : Nat) (hn : n ≤ t.size) (base : Int) : ∀ (m j : Nat) (v : Int), j + m ≤ n → numF (t.extract 0 n) base m j v = numF t base m j v
  | 0, _, _, _ => rfl
  | m + 1, j, v, h => by
    unfold numF
    have hb : byteAt (t.extract 0 n) j = byteAt t j := by rw [byte_ext _ _ _ _ hn, if_pos (by omega), Nat.zero_add]
    rw [hb, numF_cut t n hn base m (j + 1) _ (by omega)]
theorem numA_some {t : ByteArray} {k many : Nat} {base v : Int} (h : numA t k many base = some v) : k + many ≤ t.size ∧ numF t base many k 0 = some v := by
  unfold numA at h
  split at h
  · cases h
  · exact ⟨by omega, h⟩
end Go.Proofs.YtkafkcmhekgheaaGreatDoor
