/- Literals: the last quote cut off. -/
import Derived.Test.YtkafkcmhekgheaaGreatDoorLitN
namespace Go.Proofs.YtkafkcmhekgheaaGreatDoor
open Go.RowKit
set_option linter.unusedSimpArgs false
set_option linter.unusedVariables false

theorem byte_cut (t : ByteArray) (n k : Nat) (hn : n ≤ t.size) : byteAt (t.extract 0 n) k = if k < n then byteAt t k else 0 := by
  rw [byte_ext t 0 n k hn, Nat.zero_add]
theorem numA_cut {t : ByteArray} {n k many : Nat} (hn : n ≤ t.size) (h : k + many ≤ n) (base : Int) : numA (t.extract 0 n) k many base = numA t k many base := by
  unfold numA
  rw [size_ext _ _ _ hn, numF_cut t n hn base many k 0 h, if_neg (by omega), if_neg (by omega)]
theorem numA_out {t : ByteArray} {n k many : Nat} (hn : n ≤ t.size) (h : n < k + many) (base : Int) : numA (t.extract 0 n) k many base = none := by
  unfold numA
  rw [size_ext _ _ _ hn, if_pos (by omega)]
/-- A piece that is no longer than n. -/
def fitT (n : Nat) : Option Pc → Option Pc
  | none => none
  | some p => if p.size ≤ n then some p else none
theorem fit_yes {n : Nat} {p : Pc} (h : p.size ≤ n) : fitT n (some p) = some p := if_pos h
theorem fit_no {n : Nat} {p : Pc} (h : ¬ p.size ≤ n) : fitT n (some p) = none := if_neg h
theorem uni_cut {t : ByteArray} {n : Nat} (hn : n ≤ t.size) (many : Nat) : uniT (t.extract 0 n) many = fitT n (uniT t many) := by
  unfold uniT
  by_cases h : 2 + many ≤ n
  · rw [numA_cut hn h]
    cases numA t 2 many 16 with
    | none => rfl
    | some v =>
      simp only
      split
      · show _ = if 2 + many ≤ n then _ else _
        rw [if_pos h]
      · rfl
  · rw [numA_out hn (by omega)]
    cases numA t 2 many 16 with
    | none => rfl
    | some v =>
      simp only
      split
      · show _ = if 2 + many ≤ n then _ else _
        rw [if_neg h]
      · rfl
theorem hex_cut {t : ByteArray} {n : Nat} (hn : n ≤ t.size) : hexT (t.extract 0 n) = fitT n (hexT t) := by
  unfold hexT
  by_cases h : 4 ≤ n
  · rw [numA_cut hn h]
    cases numA t 2 2 16 with
    | none => rfl
    | some v =>
      show _ = if 4 ≤ n then _ else _
      rw [if_pos h]
  · rw [numA_out hn (by omega)]
    cases numA t 2 2 16 with
    | none => rfl
    | some v =>
      show _ = if 4 ≤ n then _ else _
      rw [if_neg h]
theorem oct_cut {t : ByteArray} {n : Nat} (hn : n ≤ t.size) : octT (t.extract 0 n) = fitT n (octT t) := by
  unfold octT
  by_cases h : 4 ≤ n
  · rw [numA_cut hn h]
    cases numA t 1 3 8 with
    | none => rfl
    | some v =>
      simp only
      split
      · show _ = if 4 ≤ n then _ else _
        rw [if_pos h]
      · rfl
  · rw [numA_out hn (by omega)]
    cases numA t 1 3 8 with
    | none => rfl
    | some v =>
      simp only
      split
      · show _ = if 4 ≤ n then _ else _
        rw [if_neg h]
      · rfl
theorem esc_cut {t : ByteArray} {n : Nat} {q : Int} (hn : n + 1 = t.size) (h1 : 1 ≤ n) (hl : byteAt t n = q) : escT (t.extract 0 n) q = fitT n (escT t q) := by
  have hn' : n ≤ t.size := by omega
  unfold escT
  rw [size_ext _ _ _ hn', Nat.sub_zero]
  rcases (show n = 1 ∨ 2 ≤ n by omega) with e | e
  · rw [if_pos (show n ≤ 1 by omega), if_neg (show ¬ t.size ≤ 1 by omega), if_pos (show byteAt t 1 = q by rw [← hl, e])]
    show _ = if 2 ≤ n then _ else _
    rw [if_neg (by omega)]
  · have hb : byteAt (t.extract 0 n) 1 = byteAt t 1 := by rw [byte_cut t n 1 hn', if_pos (by omega)]
    rw [if_neg (show ¬ n ≤ 1 by omega), if_neg (show ¬ t.size ≤ 1 by omega), hb]
    split
    · show _ = if 2 ≤ n then _ else _
      rw [if_pos e]
    cases shortC (byteAt t 1) with
    | some v =>
      show _ = if 2 ≤ n then _ else _
      rw [if_pos e]
    | none =>
      simp only
      split
      · exact hex_cut hn'
      split
      · exact uni_cut hn' 4
      split
      · exact uni_cut hn' 8
      · exact oct_cut hn'
theorem tl_cut {t : ByteArray} {n : Nat} (hn : n + 1 = t.size) (hl : byteAt t n < 128) (k : Nat) : tlB (t.extract 0 n) k = tlB t k := by
  rw [Bool.eq_iff_iff, tlB_iff, tlB_iff, byte_cut t n k (by omega)]
  split
  · rfl
  · rename_i h
    rcases (show k = n ∨ t.size ≤ k by omega) with e | e
    · rw [e]; omega
    · rw [byteAt_none (by omega)]
theorem sz_cut {t : ByteArray} {n : Nat} (hn : n + 1 = t.size) (h1 : 1 ≤ n) (hl : byteAt t n < 128) : szAt (t.extract 0 n) 0 = szAt t 0 := by
  have h0 : byteAt (t.extract 0 n) 0 = byteAt t 0 := by rw [byte_cut t n 0 (by omega), if_pos (by omega)]
  unfold szAt
  simp only [tl_cut hn hl, h0]
  cases ht : tlB t (0 + 1)
  · simp
  · have hb : byteAt (t.extract 0 n) (0 + 1) = byteAt t (0 + 1) := by
      have hlt := lt_of_tlB ht
      have := (tlB_iff t (0 + 1)).1 ht
      rw [byte_cut t n (0 + 1) (by omega), if_pos]
      rcases (show 0 + 1 < n ∨ 0 + 1 = n by omega) with e | e
      · exact e
      · rw [e] at this; omega
    rw [hb]
theorem val_cut {t : ByteArray} {n : Nat} (hn : n + 1 = t.size) (h1 : 1 ≤ n) (hl : byteAt t n < 128) : valT (t.extract 0 n) = valT t := by
  have h0 : byteAt (t.extract 0 n) 0 = byteAt t 0 := by rw [byte_cut t n 0 (by omega), if_pos (by omega)]
  have hb : ∀ k, tlB t k = true → byteAt (t.extract 0 n) k = byteAt t k := fun k ht => by
    have hlt := lt_of_tlB ht
    have := (tlB_iff t k).1 ht
    rw [byte_cut t n k (by omega), if_pos]
    rcases (show k < n ∨ k = n by omega) with e | e
    · exact e
    · rw [e] at this; omega
  unfold valT
  rw [sz_cut hn h1 hl, h0]
  split
  · rename_i e
    have := sz_two e
    rw [hb 1 this.2.2]
  split
  · rename_i e
    have := (sz_three e).1
    rw [hb 1 this.2.2.1, hb 2 this.2.2.2]
  split
  · rename_i e
    have := (sz_four e).1
    rw [hb 1 this.2.2.1, hb 2 this.2.2.2.1, hb 3 this.2.2.2.2]
  · rfl
theorem first_cut {t : ByteArray} {n : Nat} {q : Int} (hn : n + 1 = t.size) (hq : q < 128) (hl : byteAt t n = q) : firstT (t.extract 0 n) q = fitT n (firstT t q) := by
  have hn' : n ≤ t.size := by omega
  unfold firstT
  rw [size_ext _ _ _ hn', Nat.sub_zero]
  rcases (show n = 0 ∨ 1 ≤ n by omega) with e | e
  · rw [if_pos (.inl e), if_pos (.inr (.inr (by rw [← hl, e])))]
    rfl
  · have hb : byteAt (t.extract 0 n) 0 = byteAt t 0 := by rw [byte_cut t n 0 hn', if_pos (by omega)]
    rw [hb]
    by_cases h1 : byteAt t 0 = 10 ∨ byteAt t 0 = q
    · rw [if_pos (.inr h1), if_pos (.inr h1)]
      rfl
    rw [if_neg (show ¬ (n = 0 ∨ byteAt t 0 = 10 ∨ byteAt t 0 = q) by omega), if_neg (show ¬ (t.size = 0 ∨ byteAt t 0 = 10 ∨ byteAt t 0 = q) by omega)]
    split
    · exact esc_cut hn e hl
    · rename_i h2
      rw [val_cut hn e (by omega), sz_cut hn e (by omega)]
      have hf : (szAt t 0).toNat ≤ n := by
        rcases szAt_cases t 0 with e2 | e2 | e2 | e2 | e2
        · omega
        · omega
        · have h3 := (sz_two e2).2.2
          have := lt_of_tlB h3
          have := (tlB_iff t (0 + 1)).1 h3
          rcases (show 0 + 1 < n ∨ 0 + 1 = n by omega) with e | e
          · omega
          · rw [e] at this; omega
        · have h3 := (sz_three e2).1.2.2.2
          have := lt_of_tlB h3
          have := (tlB_iff t (0 + 2)).1 h3
          rcases (show 0 + 2 < n ∨ 0 + 2 = n by omega) with e | e
          · omega
          · rw [e] at this; omega
        · have h3 := (sz_four e2).1.2.2.2.2
          have := lt_of_tlB h3
          have := (tlB_iff t (0 + 3)).1 h3
          rcases (show 0 + 3 < n ∨ 0 + 3 = n by omega) with e | e
          · omega
          · rw [e] at this; omega
      generalize valT t = v
      generalize (szAt t 0).toNat = m at *
      show _ = if m ≤ n then _ else _
      rw [if_pos hf]
/-! ### The whole text -/
theorem rest_empty (f : Nat) (t : ByteArray) (h : t.size = 0) : restF f t = none := by
  cases f with
  | zero => rfl
  | succ f =>
    unfold restF firstT
    rw [if_neg (by omega), if_pos (.inl h)]
theorem rest_ends : ∀ (f : Nat) (t : ByteArray) (l : List Int), restF f t = some l → 1 ≤ t.size ∧ byteAt t (t.size - 1) = 34
  | 0, _, _, h => by cases h
  | f + 1, t, l, h => by
    unfold restF at h
    split at h
    · rename_i g; rw [g.1]; exact ⟨Nat.le_refl _, g.2⟩
    · cases hp : firstT t 34 with
      | none => rw [hp] at h; cases h
      | some p =>
        rw [hp] at h
        simp only at h
        obtain ⟨l2, hl2, -⟩ := Option.map_eq_some_iff.1 h
        have ih := rest_ends f _ _ hl2
        rw [size_ext _ _ _ (Nat.le_refl _), byte_end] at ih
        exact ⟨by omega, by rw [← ih.2]; congr 1; omega⟩
theorem cut_cut (t : ByteArray) (n k : Nat) (hn : n + 1 = t.size) (hk : k ≤ n) : (t.extract 0 n).extract k (t.extract 0 n).size = (t.extract k t.size).extract 0 (n - k) := by
  rw [ByteArray.extract_extract, ByteArray.extract_extract, size_ext _ _ _ (show n ≤ t.size by omega)]
  congr 1
  · omega
  · omega
theorem in_rest : ∀ (f : Nat) (t : ByteArray) (n : Nat), t.size ≤ f → n + 1 = t.size → Fine t 0 → byteAt t n = 34 → restF f t = inF f (t.extract 0 n)
  | 0, t, n, hf, hn, _, _ => by omega
  | f + 1, t, n, hf, hn, hfi, hl => by
    unfold restF inF
    rw [size_ext _ _ _ (show n ≤ t.size by omega), Nat.sub_zero]
    rcases (show n = 0 ∨ 1 ≤ n by omega) with e | e
    · rw [if_pos ⟨by omega, by rw [← e]; exact hl⟩, if_pos e]
    · rw [if_neg (by omega), if_neg (by omega), first_cut hn (by decide) hl]
      cases hp : firstT t 34 with
      | none => rfl
      | some p =>
        have ok := first_ok (.inr rfl) hfi hp
        have hfits := ok.fits
        have hpos := ok.pos
        by_cases hk : p.size ≤ n
        · rw [fit_yes hk]
          simp only
          have hc := cut_cut t n p.size hn hk
          rw [size_ext _ _ _ (show n ≤ t.size by omega), Nat.sub_zero] at hc
          rw [hc]
          have hsz : (t.extract p.size t.size).size = t.size - p.size := size_ext _ _ _ (Nat.le_refl _)
          rw [in_rest f (t.extract p.size t.size) (n - p.size) (by omega) (by omega) ok.fine.part (by rw [byte_end, ← hl]; congr 1; omega)]
        · rw [fit_no hk]
          simp only
          rw [rest_empty f _ (by rw [size_ext _ _ _ (Nat.le_refl _)]; omega)]
          rfl
/-- The program's text. -/
def ptextT (s : ByteArray) : Option (List Int) :=
  if 2 ≤ s.size ∧ byteAt s 0 = 96 ∧ byteAt s (s.size - 1) = 96 ∧ hasB s 1 (s.size - 1) 96 = false then some (rawL s 1 (s.size - 1))
  else if 2 ≤ s.size ∧ byteAt s 0 = 34 ∧ byteAt s (s.size - 1) = 34 then inF s.size (s.extract 1 (s.size - 1)) else none
theorem part_cut (s : ByteArray) (h : 2 ≤ s.size) : s.extract 1 (s.size - 1) = (s.extract 1 s.size).extract 0 (s.size - 2) := by
  rw [ByteArray.extract_extract]
  congr 1
  omega
theorem fine_one {s : ByteArray} (h : spoil s = -1) (h0 : byteAt s 0 < 128) (h1 : 1 ≤ s.size) : Fine (s.extract 1 s.size) 0 := by
  have := (fine_of h).next h1
  rw [sz_ascii h0] at this
  exact Fine.part this
theorem ptext_eq {s : ByteArray} (h : spoil s = -1) : ptextT s = textT s := by
  unfold ptextT textT
  by_cases h96 : byteAt s 0 = 96
  · have n34 : ¬ (2 ≤ s.size ∧ byteAt s 0 = 34 ∧ byteAt s (s.size - 1) = 34) := by omega
    by_cases hz : 0 < s.size
    · rw [if_pos (show 0 < s.size ∧ byteAt s 0 = 96 from ⟨hz, h96⟩), if_neg n34]
      unfold rawT
      by_cases c : s.size < 2 ∨ byteAt s (s.size - 1) ≠ 96 ∨ hasB s 1 (s.size - 1) 96 = true
      · rw [if_pos c, if_neg]
        rintro ⟨a, b, d, e⟩
        rcases c with c | c | c
        · omega
        · exact c d
        · rw [e] at c; cases c
      · rw [if_neg c, if_pos]
        refine ⟨by omega, h96, ?_, ?_⟩
        · by_cases d : byteAt s (s.size - 1) = 96
          · exact d
          · exact absurd (.inr (.inl d)) c
        · cases e : hasB s 1 (s.size - 1) 96
          · rfl
          · exact absurd (.inr (.inr e)) c
    · rw [if_neg (fun g => by omega), if_neg n34, if_neg (show ¬ (0 < s.size ∧ byteAt s 0 = 96) by omega), if_pos (show s.size < 2 ∨ byteAt s 0 ≠ 34 by omega)]
  · rw [if_neg (show ¬ (2 ≤ s.size ∧ byteAt s 0 = 96 ∧ byteAt s (s.size - 1) = 96 ∧ hasB s 1 (s.size - 1) 96 = false) from fun g => h96 g.2.1), if_neg (show ¬ (0 < s.size ∧ byteAt s 0 = 96) from fun g => h96 g.2)]
    by_cases h34 : byteAt s 0 = 34
    · by_cases hz : 2 ≤ s.size
      · rw [if_neg (show ¬ (s.size < 2 ∨ byteAt s 0 ≠ 34) by omega)]
        have hsz : (s.extract 1 s.size).size = s.size - 1 := size_ext _ _ _ (Nat.le_refl _)
        by_cases hl : byteAt s (s.size - 1) = 34
        · rw [if_pos (show 2 ≤ s.size ∧ byteAt s 0 = 34 ∧ byteAt s (s.size - 1) = 34 from ⟨hz, h34, hl⟩), part_cut s hz]
          exact (in_rest s.size (s.extract 1 s.size) (s.size - 2) (by omega) (by omega) (fine_one h (by omega) (by omega)) (by rw [byte_end, ← hl]; congr 1; omega)).symm
        · rw [if_neg (show ¬ (2 ≤ s.size ∧ byteAt s 0 = 34 ∧ byteAt s (s.size - 1) = 34) from fun g => hl g.2.2)]
          cases hr : restF s.size (s.extract 1 s.size) with
          | none => rfl
          | some l =>
            have := (rest_ends _ _ _ hr).2
            rw [hsz, byte_end] at this
            exact absurd (by rw [← this]; congr 1; omega) hl
      · rw [if_neg (show ¬ (2 ≤ s.size ∧ byteAt s 0 = 34 ∧ byteAt s (s.size - 1) = 34) by omega), if_pos (show s.size < 2 ∨ byteAt s 0 ≠ 34 by omega)]
    · rw [if_neg (show ¬ (2 ≤ s.size ∧ byteAt s 0 = 34 ∧ byteAt s (s.size - 1) = 34) from fun g => h34 g.2.1), if_pos (show s.size < 2 ∨ byteAt s 0 ≠ 34 from .inr h34)]
def pruneT (s : ByteArray) : Option Int :=
  if s.size < 2 ∨ byteAt s 0 ≠ 39 ∨ byteAt s (s.size - 1) ≠ 39 then none else match firstT (s.extract 1 (s.size - 1)) 39 with
    | none => none
    | some p => if p.size = s.size - 2 then some p.val else none
theorem prune_eq (s : ByteArray) : pruneT s = runeT s := by
  unfold pruneT runeT
  by_cases h0 : s.size < 2 ∨ byteAt s 0 ≠ 39
  · rw [if_pos h0, if_pos (by omega)]
  rw [if_neg h0]
  by_cases hl : byteAt s (s.size - 1) = 39
  · rw [if_neg (show ¬ (s.size < 2 ∨ byteAt s 0 ≠ 39 ∨ byteAt s (s.size - 1) ≠ 39) by omega), part_cut s (by omega), first_cut (n := s.size - 2) (by rw [size_ext _ _ _ (Nat.le_refl _)]; omega) (by decide) (by rw [byte_end, ← hl]; congr 1; omega)]
    cases firstT (s.extract 1 s.size) 39 with
    | none => rfl
    | some p =>
      unfold fitT
      simp only
      by_cases hk : p.size ≤ s.size - 2
      · rw [if_pos hk]
        simp only
        by_cases he : p.size = s.size - 2
        · rw [if_pos he, if_pos ⟨by omega, hl⟩]
        · rw [if_neg he, if_neg (by omega)]
      · rw [if_neg hk, if_neg (by omega)]
  · rw [if_pos (.inr (.inr hl))]
    cases firstT (s.extract 1 s.size) 39 with
    | none => rfl
    | some p =>
      simp only
      rw [if_neg (fun g => hl g.2)]
end Go.Proofs.YtkafkcmhekgheaaGreatDoor
