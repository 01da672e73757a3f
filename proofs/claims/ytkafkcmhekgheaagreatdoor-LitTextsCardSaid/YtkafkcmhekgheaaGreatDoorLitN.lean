/- Literals: pieces: how long they are, and what is cut off behind them. -/
import Derived.Test.YtkafkcmhekgheaaGreatDoorLitM
namespace Go.Proofs.YtkafkcmhekgheaaGreatDoor
open Go.RowKit
set_option linter.unusedSimpArgs false
set_option linter.unusedVariables false

theorem sz_two {t : ByteArray} {k : Nat} (h : szAt t k = 2) : 194 ≤ byteAt t k ∧ byteAt t k ≤ 223 ∧ tlB t (k + 1) = true := by
  unfold szAt at h
  split at h
  · omega
  split at h
  · rename_i g; exact g
  split at h
  · split at h <;> omega
  split at h
  · split at h <;> omega
  · omega
theorem sz_three {t : ByteArray} {k : Nat} (h : szAt t k = 3) : (224 ≤ byteAt t k ∧ byteAt t k ≤ 239 ∧ tlB t (k + 1) = true ∧ tlB t (k + 2) = true) ∧ ¬ (byteAt t k = 224 ∧ byteAt t (k + 1) < 160 ∨ byteAt t k = 237 ∧ 159 < byteAt t (k + 1)) := by
  unfold szAt at h
  split at h
  · omega
  split at h
  · omega
  split at h
  · rename_i g
    split at h
    · omega
    · rename_i g2; exact ⟨g, g2⟩
  split at h
  · split at h <;> omega
  · omega
theorem sz_four {t : ByteArray} {k : Nat} (h : szAt t k = 4) : (240 ≤ byteAt t k ∧ byteAt t k ≤ 244 ∧ tlB t (k + 1) = true ∧ tlB t (k + 2) = true ∧ tlB t (k + 3) = true) ∧ ¬ (byteAt t k = 240 ∧ byteAt t (k + 1) < 144 ∨ byteAt t k = 244 ∧ 143 < byteAt t (k + 1)) := by
  unfold szAt at h
  split at h
  · omega
  split at h
  · omega
  split at h
  · split at h <;> omega
  split at h
  · rename_i g
    split at h
    · omega
    · rename_i g2; exact ⟨g, g2⟩
  · omega
theorem sz_fits {t : ByteArray} {k : Nat} (hk : k < t.size) : k + (szAt t k).toNat ≤ t.size := by
  rcases szAt_cases t k with e | e | e | e | e
  · omega
  · omega
  · have := lt_of_tlB (sz_two e).2.2; omega
  · have := lt_of_tlB (sz_three e).1.2.2.2; omega
  · have := lt_of_tlB (sz_four e).1.2.2.2.2; omega
/-- The letter that a text begins with is a letter's number. -/
theorem val_letter {t : ByteArray} (h : badAt t 0 = false) : 0 ≤ valT t ∧ valT t ≤ 1114111 ∧ ¬ (55296 ≤ valT t ∧ valT t ≤ 57343) := by
  have hg := good_size h
  have r0 := byteAt_range t 0
  unfold valT
  rcases szAt_cases t 0 with e | e | e | e | e
  · omega
  · rw [if_neg (by omega), if_neg (by omega), if_neg (by omega)]
    have h1 : byteAt t 0 < 128 ∨ 128 ≤ byteAt t 0 := by omega
    omega
  · have := sz_two e
    have t1 := (tlB_iff t (0 + 1)).1 this.2.2
    rw [if_pos e]
    simp only [Nat.zero_add] at t1
    omega
  · have h3 := sz_three e
    have t1 := (tlB_iff t (0 + 1)).1 h3.1.2.2.1
    have t2 := (tlB_iff t (0 + 2)).1 h3.1.2.2.2
    have h3b := h3.2
    simp only [Nat.zero_add] at t1 t2 h3b
    rw [if_neg (by omega), if_pos e]
    omega
  · have h4 := sz_four e
    have t1 := (tlB_iff t (0 + 1)).1 h4.1.2.2.1
    have t2 := (tlB_iff t (0 + 2)).1 h4.1.2.2.2.1
    have t3 := (tlB_iff t (0 + 3)).1 h4.1.2.2.2.2
    have h4b := h4.2
    simp only [Nat.zero_add] at t1 t2 t3 h4b
    rw [if_neg (by omega), if_neg (by omega), if_pos e]
    omega
set_option maxRecDepth 100000 in
set_option maxHeartbeats 1000000 in
/-- The model's own decoding gives it, too. -/
theorem dec_val (t : ByteArray) (h : szAt t 0 ≠ 0) : ((Utf8.decode t 0).1 : Int) = valT t ∧ ((Utf8.decode t 0).2 : Int) = szAt t 0 := by
  refine ⟨?_, ((decode_size t 0).2 h).1⟩
  have hN := decode_N t 0
  have hs := ((decode_size t 0).2 h).1
  have r0 := byteAt_range t 0
  have g0 := get_byte t 0
  have g1 := get_byte t (0 + 1)
  have g2 := get_byte t (0 + 2)
  have g3 := get_byte t (0 + 3)
  simp only [Nat.zero_add] at hN g1 g2 g3
  rw [hN] at hs ⊢
  rcases szAt_cases t 0 with e | e | e | e | e
  · exact absurd e h
  · rw [e] at hs
    unfold valT
    rw [if_neg (by omega), if_neg (by omega), if_neg (by omega), ← g0]
    unfold decN at hs ⊢
    split
    · rfl
    rename_i a
    rw [if_neg a] at hs
    exfalso
    have e1 : szAt t 0 = 1 → byteAt t 0 < 128 := by
      intro h1
      unfold szAt at h1
      split at h1
      · assumption
      split at h1
      · omega
      split at h1
      · split at h1 <;> omega
      split at h1
      · split at h1 <;> omega
      · omega
    have := e1 e
    omega
  · have hh := sz_two e
    simp only [Nat.zero_add] at hh
    have t1 := (tlB_iff t 1).1 hh.2.2
    unfold valT
    rw [if_pos e, ← g0, ← g1]
    rw [← g0] at hh
    rw [← g1] at t1
    unfold decN
    rw [if_neg (by omega), if_pos (by rw [hh.2.2]; simp; omega), if_pos (by omega)]
    simp only
    omega
  · have hh := sz_three e
    simp only [Nat.zero_add] at hh
    have t1 := (tlB_iff t 1).1 hh.1.2.2.1
    have t2 := (tlB_iff t 2).1 hh.1.2.2.2
    have c1 := hh.1.2.2.1
    have c2 := hh.1.2.2.2
    unfold valT
    rw [if_neg (by omega), if_pos e, ← g0, ← g1, ← g2]
    rw [← g0, ← g1] at hh
    rw [← g1] at t1
    rw [← g2] at t2
    unfold decN
    rw [c1, c2, if_neg (by omega), if_neg (by simp; omega), if_pos (by simp; omega), if_pos (by rw [valid_iff]; simp; omega)]
    simp only
    omega
  · have hh := sz_four e
    simp only [Nat.zero_add] at hh
    have t1 := (tlB_iff t 1).1 hh.1.2.2.1
    have t2 := (tlB_iff t 2).1 hh.1.2.2.2.1
    have t3 := (tlB_iff t 3).1 hh.1.2.2.2.2
    have c1 := hh.1.2.2.1
    have c2 := hh.1.2.2.2.1
    have c3 := hh.1.2.2.2.2
    unfold valT
    rw [if_neg (by omega), if_neg (by omega), if_pos e, ← g0, ← g1, ← g2, ← g3]
    rw [← g0, ← g1] at hh
    rw [← g1] at t1
    rw [← g2] at t2
    rw [← g3] at t3
    unfold decN
    rw [c1, c2, c3, if_neg (by omega), if_neg (by simp; omega), if_neg (by simp; omega), if_pos (by simp; omega), if_pos (by rw [valid_iff]; simp; omega)]
    simp only
    omega
theorem short_ascii {c v : Int} (h : shortC c = some v) : 0 ≤ c ∧ c < 128 ∧ 0 ≤ v ∧ v ≤ 255 := by
  unfold shortC at h
  repeat' split at h
  all_goals first
    | (injection h with h; omega)
    | cases h
/-- What a piece is of. -/
structure PcOk (t : ByteArray) (p : Pc) : Prop where
  pos : 1 ≤ p.size
  fits : p.size ≤ t.size
  fine : Fine t p.size
  byte : p.plain = true → 0 ≤ p.val ∧ p.val ≤ 255
  letter : p.plain = false → 0 ≤ p.val ∧ p.val ≤ 1114111 ∧ ¬ (55296 ≤ p.val ∧ p.val ≤ 57343)
theorem ok_ascii {t : ByteArray} {p : Pc} (hf : Fine t 0) (h1 : 1 ≤ p.size) (h2 : p.size ≤ t.size) (ha : ∀ j, j < p.size → byteAt t j < 128) (hb : p.plain = true → 0 ≤ p.val ∧ p.val ≤ 255) (hl : p.plain = false → 0 ≤ p.val ∧ p.val ≤ 1114111 ∧ ¬ (55296 ≤ p.val ∧ p.val ≤ 57343)) : PcOk t p := by
  have := Fine.ascii p.size 0 hf (by omega) (fun j _ h => ha j (by omega))
  rw [Nat.zero_add] at this
  exact ⟨h1, h2, this, hb, hl⟩
theorem esc_ok {t : ByteArray} {q : Int} {p : Pc} (hq : q = 39 ∨ q = 34) (hf : Fine t 0) (h0 : byteAt t 0 = 92) (h : escT t q = some p) : PcOk t p := by
  have two : ∀ (c : Int), byteAt t 1 = c → c < 128 → ∀ j, j < 2 → byteAt t j < 128 := fun c hc hl j hj => by
    rcases (show j = 0 ∨ j = 1 by omega) with rfl | rfl
    · omega
    · omega
  unfold escT at h
  split at h
  · cases h
  rename_i hsz
  split at h
  · rename_i hc
    injection h with h; subst h
    exact ok_ascii hf (by simp only; decide) (by simp only; omega) (two q hc (by omega)) (fun _ => by simp only; omega) (fun e => by cases e)
  cases hs : shortC (byteAt t 1) with
  | some v =>
    rw [hs] at h
    injection h with h; subst h
    have := short_ascii hs
    exact ok_ascii hf (by simp only; decide) (by simp only; omega) (two _ rfl (by omega)) (fun _ => by simp only; omega) (fun e => by cases e)
  | none =>
    rw [hs] at h
    simp only at h
    have hex : ∀ many v, numA t 2 many 16 = some v → byteAt t 1 < 128 → ∀ j, j < 2 + many → byteAt t j < 128 := fun many v hn h1 j hj => by
      rcases Nat.lt_or_ge j 2 with h3 | h3
      · exact two _ rfl h1 j h3
      · exact (digC_ascii (numF_digits t 16 many 2 0 v (numA_some hn).2 j h3 hj)).2
    split at h
    · rename_i hc
      unfold hexT at h
      cases hn : numA t 2 2 16 with
      | none => rw [hn] at h; cases h
      | some v =>
        rw [hn] at h
        injection h with h; subst h
        have hb := numF_bound t 16 (by decide) 2 2 0 v (by decide) (numA_some hn).2
        exact ok_ascii hf (by simp only; decide) (by simp only; exact (numA_some hn).1) (hex 2 v hn (by omega)) (fun _ => by simp only; omega) (fun e => by cases e)
    have uni : ∀ many, uniT t many = some p → byteAt t 1 < 128 → PcOk t p := fun many h h1 => by
      unfold uniT at h
      cases hn : numA t 2 many 16 with
      | none => rw [hn] at h; cases h
      | some v =>
        rw [hn] at h
        simp only at h
        split at h
        · rename_i hl
          injection h with h; subst h
          have hb := numF_bound t 16 (by decide) many 2 0 v (by decide) (numA_some hn).2
          have hv0 : 0 ≤ v := by have := hb.1; rw [Int.zero_mul] at this; exact this
          unfold letV at hl
          rw [decide_eq_true_iff] at hl
          exact ok_ascii hf (by simp only; omega) (by simp only; exact (numA_some hn).1) (hex many v hn h1) (fun e => by cases e) (fun _ => ⟨hv0, hl.1, hl.2⟩)
        · cases h
    split at h
    · exact uni 4 h (by omega)
    split at h
    · exact uni 8 h (by omega)
    · unfold octT at h
      cases hn : numA t 1 3 8 with
      | none => rw [hn] at h; cases h
      | some v =>
        rw [hn] at h
        simp only at h
        split at h
        · rename_i hl
          injection h with h; subst h
          have hb := numF_bound t 8 (by decide) 3 1 0 v (by decide) (numA_some hn).2
          refine ok_ascii hf (by simp only; decide) (by simp only; have := (numA_some hn).1; omega) (fun j hj => ?_) (fun _ => by simp only; omega) (fun e => by cases e)
          rcases Nat.eq_zero_or_pos j with rfl | hj0
          · omega
          · have := numF_digits t 8 3 1 0 v (numA_some hn).2 j hj0 (by simp only at hj; omega)
            exact (digC_ascii (by omega)).2
        · cases h
theorem first_ok {t : ByteArray} {q : Int} {p : Pc} (hq : q = 39 ∨ q = 34) (hf : Fine t 0) (h : firstT t q = some p) : PcOk t p := by
  unfold firstT at h
  split at h
  · cases h
  rename_i h0
  have hz : 0 < t.size := by omega
  split at h
  · rename_i h1; exact esc_ok hq hf h1 h
  · injection h with h; subst h
    have hg := hf.good hz
    have hs := good_size hg
    have hx := hf.next hz
    rw [Nat.zero_add] at hx
    have hfit := sz_fits hz
    have hl := val_letter hg
    have ha : 1 ≤ (szAt t 0).toNat := by omega
    have hb : (szAt t 0).toNat ≤ t.size := by omega
    clear hs hfit
    generalize valT t = v at *
    generalize (szAt t 0).toNat = n at *
    exact ⟨ha, hb, hx, (fun e => Bool.noConfusion e), fun _ => hl⟩
end Go.Proofs.YtkafkcmhekgheaaGreatDoor
