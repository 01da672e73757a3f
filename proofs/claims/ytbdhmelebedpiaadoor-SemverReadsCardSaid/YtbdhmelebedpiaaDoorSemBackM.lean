/- What is read is written, what is written is read: the mathematics. -/
import Derived.Test.YtbdhmelebedpiaaDoorSemText
namespace Go.Proofs.YtbdhmelebedpiaaDoor
open Go.RowKit

theorem u8_dig {d : Nat} (h : d ≤ 9) : (UInt8.ofNat (48 + d)).toNat = 48 + d := by rw [UInt8.toNat_ofNat']; omega
/-- A numeral's digits. -/
theorem dec_dig (u : Nat) : DigL (Lib.decDigits u) := by
  induction u using Nat.strongRecOn with
  | _ u ih =>
    rw [Lib.decDigits]
    split
    · rename_i h
      intro c hc
      rw [List.mem_singleton.1 hc, u8_dig (by omega)]
      omega
    · rename_i h
      intro c hc
      rcases List.mem_append.1 hc with h1 | h1
      · exact ih (u / 10) (by omega) c h1
      · rw [List.mem_singleton.1 h1, u8_dig (by omega)]
        omega
theorem valL_append (l : List UInt8) (c : UInt8) (acc : Nat) : valL acc (l ++ [c]) = valL acc l * 10 + (c.toNat - 48) := by
  unfold valL
  rw [List.foldl_append]
  rfl
theorem dec_val (u : Nat) : valL 0 (Lib.decDigits u) = u := by
  induction u using Nat.strongRecOn with
  | _ u ih =>
    rw [Lib.decDigits]
    split
    · rename_i h
      rw [valL_cons, u8_dig (by omega)]
      unfold valL
      simp
    · rename_i h
      rw [valL_append, ih (u / 10) (by omega), u8_dig (by omega)]
      omega
theorem dec_pos (u : Nat) : 0 < (Lib.decDigits u).length := by rw [Lib.decDigits_length]; exact Lib.nDigits_pos u
theorem dec_first (u : Nat) : ∀ c r, Lib.decDigits u = c :: r → 10 ≤ u → c.toNat ≠ 48 := by
  induction u using Nat.strongRecOn with
  | _ u ih =>
    intro c r h h10
    rw [Lib.decDigits, dif_neg (by omega)] at h
    by_cases h2 : u / 10 < 10
    · rw [Lib.decDigits, dif_pos h2] at h
      simp only [List.singleton_append, List.cons.injEq] at h
      rw [← h.1, u8_dig (by omega)]
      omega
    · have hp := dec_pos (u / 10)
      cases hd : Lib.decDigits (u / 10) with
      | nil => rw [hd] at hp; exact absurd hp (Nat.lt_irrefl _)
      | cons x t =>
        rw [hd, List.cons_append, List.cons.injEq] at h
        rw [← h.1]
        exact ih (u / 10) (by omega) x t hd (by omega)
theorem dec_lead (u : Nat) : Lead (Lib.decDigits u) := by
  refine ⟨dec_dig u, dec_pos u, ?_⟩
  by_cases h : u < 10
  · left; rw [Lib.decDigits_length, Lib.nDigits_small h]
  · right; exact fun c r e => dec_first u c r e (by omega)
/-- Digits without noughts ahead are the numeral of their value. -/
theorem dec_of : ∀ (n : Nat) (l : List UInt8), l.length = n → Lead l → Lib.decDigits (valL 0 l) = l := by
  intro n
  induction n with
  | zero => intro l hl h; have := h.2.1; omega
  | succ n ih =>
    intro l hl h
    obtain ⟨l', c, rfl⟩ : ∃ l' c, l = l' ++ [c] := ⟨l.dropLast, l.getLast (by intro e; rw [e] at hl; cases hl), (List.dropLast_concat_getLast _).symm⟩
    obtain ⟨h1, h2, h3⟩ := h
    have hc := h1 c (by simp)
    have hl' : l'.length = n := by simpa using hl
    rw [valL_append]
    by_cases h0 : l' = []
    · subst h0
      have : valL 0 ([] : List UInt8) = 0 := rfl
      rw [this, Lib.decDigits, dif_pos (by omega)]
      simp only [List.nil_append, List.cons.injEq, and_true]
      apply UInt8.toNat_inj.1
      rw [Nat.zero_mul, Nat.zero_add, u8_dig (by omega)]
      omega
    · have hd' : DigL l' := fun x hx => h1 x (by simp [hx])
      have hlead : Lead l' := by
        refine ⟨hd', List.length_pos_iff.2 h0, ?_⟩
        right
        intro x r e
        rcases h3 with h3 | h3
        · exact absurd (by simpa using h3) h0
        · exact h3 x (r ++ [c]) (by rw [e]; rfl)
      have hv : 1 ≤ valL 0 l' := by
        cases l' with
        | nil => exact absurd rfl h0
        | cons x r =>
          have hx := hd' x (by simp)
          have hr := (valL_range r (0 * 10 + (x.toNat - 48)) (fun y hy => hd' y (by simp [hy]))).1
          rw [valL_cons]
          have hx2 : x.toNat ≠ 48 := by
            rcases h3 with h3 | h3
            · simp at h3
            · exact h3 x (r ++ [c]) rfl
          have hp : 0 < 10 ^ r.length := Nat.pow_pos (by decide)
          have : 1 * 10 ^ r.length ≤ (0 * 10 + (x.toNat - 48)) * 10 ^ r.length := Nat.mul_le_mul_right _ (by omega)
          omega
      rw [Lib.decDigits, dif_neg (by omega), show (valL 0 l' * 10 + (c.toNat - 48)) / 10 = valL 0 l' by omega, show (valL 0 l' * 10 + (c.toNat - 48)) % 10 = c.toNat - 48 by omega, ih l' hl' hlead]
      congr 1
      simp only [List.cons.injEq, and_true]
      apply UInt8.toNat_inj.1
      rw [u8_dig (by omega)]
      omega
/-- A number's text, read, is written as it was. -/
theorem itoa_num {s : ByteArray} (h : isnumB s = true) (h2 : (numRes s).2 = true) : itoaS (numRes s).1 = s := by
  have hv : (numRes s).1 = ((valL 0 s.toList : Nat) : Int) := by
    obtain ⟨a, b⟩ := numRes_val h
    rw [h2] at a
    exact b (by cases hh : greatB s <;> rw [hh] at a <;> first | rfl | cases a)
  rw [hv]
  unfold itoaS Lib.itoa
  rw [if_neg (by omega), Int.toNat_natCast, dec_of _ _ rfl (lead_of h), ByteArray.toList_eq]
theorem itoaS_list {n : Int} (h : 0 ≤ n) : (itoaS n).toList = Lib.decDigits n.toNat := by
  rw [ByteArray.toList_eq]
  unfold itoaS Lib.itoa
  rw [if_neg (by omega)]
/-- Cutting undone. -/
theorem cut_yes {c : UInt8} : ∀ {l x y : List UInt8}, cutL c l = (x, y, true) → l = x ++ c :: y ∧ c ∉ x
  | [], x, y, h => by unfold cutL at h; simp at h
  | a :: r, x, y, h => by
    unfold cutL at h
    by_cases e : a = c
    · rw [if_pos e] at h
      simp at h
      obtain ⟨rfl, rfl⟩ := h
      exact ⟨by rw [e]; rfl, by simp⟩
    · rw [if_neg e] at h
      simp only [Prod.mk.injEq] at h
      obtain ⟨rfl, h2, h3⟩ := h
      obtain ⟨i1, i2⟩ := cut_yes (c := c) (l := r) (x := (cutL c r).1) (y := y) (by rw [← h2, ← h3])
      exact ⟨by rw [List.cons_append, ← i1], by rw [List.mem_cons]; exact fun hh => hh.elim (fun e2 => e e2.symm) i2⟩
theorem cut_no {c : UInt8} : ∀ {l x y : List UInt8}, cutL c l = (x, y, false) → x = l ∧ y = []
  | [], x, y, h => by unfold cutL at h; simp at h; exact ⟨h.1, h.2⟩
  | a :: r, x, y, h => by
    unfold cutL at h
    by_cases e : a = c
    · rw [if_pos e] at h; simp at h
    · rw [if_neg e] at h
      simp only [Prod.mk.injEq] at h
      obtain ⟨rfl, h2, h3⟩ := h
      obtain ⟨i1, i2⟩ := cut_no (c := c) (l := r) (x := (cutL c r).1) (y := y) (by rw [← h2, ← h3])
      exact ⟨by rw [i1], i2⟩
theorem cut_at {c : UInt8} : ∀ {x : List UInt8} (y : List UInt8), c ∉ x → cutL c (x ++ c :: y) = (x, y, true)
  | [], y, _ => by rw [List.nil_append, cutL, if_pos rfl]
  | a :: r, y, h => by
    rw [List.mem_cons] at h
    rw [List.cons_append, cutL, if_neg (fun e => h (.inl e.symm)), cut_at y (fun e => h (.inr e))]
theorem cut_none {c : UInt8} : ∀ {x : List UInt8}, c ∉ x → cutL c x = (x, [], false)
  | [], _ => rfl
  | a :: r, h => by
    rw [List.mem_cons] at h
    rw [cutL, if_neg (fun e => h (.inl e.symm)), cut_none (fun e => h (.inr e))]
/-- Parts put together. -/
def joinD (c : UInt8) : List (List UInt8) → List UInt8
  | [] => []
  | [x] => x
  | x :: y :: r => x ++ c :: joinD c (y :: r)
theorem join_eq (c : UInt8) : ∀ ls : List (List UInt8), Lib.join ls [c] = joinD c ls
  | [] => rfl
  | [x] => by rw [Lib.join_one]; rfl
  | x :: y :: r => by
    have ih := join_eq c (y :: r)
    rw [Lib.join_cons] at ih ⊢
    rw [joinD, ← ih]
    unfold Lib.joinTail
    simp
theorem parts_join (c : UInt8) : ∀ l : List UInt8, joinD c (partsL c l) = l
  | [] => rfl
  | a :: r => by
    have ih := parts_join c r
    have hne := parts_ne c r
    unfold partsL
    by_cases e : a = c
    · rw [if_pos e]
      cases hp : partsL c r with
      | nil => exact absurd hp hne
      | cons h t => rw [hp] at ih; rw [joinD, ih, e]; rfl
    · rw [if_neg e]
      cases hp : partsL c r with
      | nil => exact absurd hp hne
      | cons h t =>
        rw [hp] at ih
        rw [← ih]
        cases t with
        | nil => rfl
        | cons h2 t2 => rfl
theorem parts_plain {c : UInt8} : ∀ {x : List UInt8}, c ∉ x → partsL c x = [x]
  | [], _ => rfl
  | a :: r, h => by
    rw [List.mem_cons] at h
    rw [partsL, if_neg (fun e => h (.inl e.symm)), parts_plain (fun e => h (.inr e))]
    rfl
theorem parts_cons {c : UInt8} : ∀ {x : List UInt8} (l : List UInt8), c ∉ x → partsL c (x ++ c :: l) = x :: partsL c l
  | [], l, _ => by rw [List.nil_append, partsL, if_pos rfl]
  | a :: r, l, h => by
    rw [List.mem_cons] at h
    rw [List.cons_append, partsL, if_neg (fun e => h (.inl e.symm)), parts_cons l (fun e => h (.inr e))]
    rfl
theorem join_parts {c : UInt8} : ∀ {ls : List (List UInt8)}, ls ≠ [] → (∀ x ∈ ls, c ∉ x) → partsL c (joinD c ls) = ls
  | [], h, _ => absurd rfl h
  | [x], _, h => parts_plain (h x (by simp))
  | x :: y :: r, _, h => by
    rw [joinD, parts_cons _ (h x (by simp)), join_parts (by simp) (fun z hz => h z (by simp at hz ⊢; exact .inr hz))]
end Go.Proofs.YtbdhmelebedpiaaDoor
