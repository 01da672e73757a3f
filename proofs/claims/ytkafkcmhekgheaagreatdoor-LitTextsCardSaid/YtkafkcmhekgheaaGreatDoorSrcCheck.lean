/- Contracts: where a text is spoilt, by the program and by the document's own answer. -/
import Derived.Test.YtkafkcmhekgheaaGreatDoorSrcSize
import Derived.Laws.RangeString
import Derived.Laws.RangeAny
namespace Go.Proofs.YtkafkcmhekgheaaGreatDoor
open Go.RowKit

/-- The letter at k may not stand in a text. -/
def badAt (s : ByteArray) (k : Nat) : Bool := szAt s k == 0 || byteAt s k == 0
/-- The place, from k on, at which the text is spoilt; -1: nowhere. -/
def spoilF (s : ByteArray) : Nat → Nat → Int
  | 0, _ => -1
  | b + 1, k => if k < s.size then (if badAt s k = true then (k : Int) else spoilF s b (k + (szAt s k).toNat)) else -1
def spoil (s : ByteArray) : Int := spoilF s s.size 0

theorem spoilF_end (s : ByteArray) (b k : Nat) (h : ¬ k < s.size) : spoilF s b k = -1 := by
  cases b with
  | zero => rfl
  | succ b => simp [spoilF, h]
theorem spoilF_bad {s : ByteArray} {b k : Nat} (h : k < s.size) (hb : badAt s k = true) : spoilF s (b + 1) k = k := by
  simp [spoilF, h, hb]
theorem spoilF_go {s : ByteArray} {b k : Nat} (h : k < s.size) (hb : badAt s k = false) : spoilF s (b + 1) k = spoilF s b (k + (szAt s k).toNat) := by
  simp [spoilF, h, hb]
theorem szAt_cases (s : ByteArray) (k : Nat) : szAt s k = 0 ∨ szAt s k = 1 ∨ szAt s k = 2 ∨ szAt s k = 3 ∨ szAt s k = 4 := by
  unfold szAt
  (repeat' split) <;> simp
theorem byteAt_range (s : ByteArray) (k : Nat) : 0 ≤ byteAt s k ∧ byteAt s k < 256 := by
  unfold byteAt
  have := UInt8.toNat_lt (s.data[k]?.getD 0)
  omega
theorem byteAt_none {s : ByteArray} {k : Nat} (h : ¬ k < s.size) : byteAt s k = 0 := by
  unfold byteAt
  rw [Array.getElem?_eq_none (by simpa using h)]
  rfl
theorem tlB_iff (s : ByteArray) (k : Nat) : tlB s k = true ↔ 128 ≤ byteAt s k ∧ byteAt s k ≤ 191 := by
  unfold tlB
  rw [decide_eq_true_iff]
  constructor
  · exact fun h => h.2
  · intro h
    refine ⟨?_, h⟩
    by_cases hk : k < s.size
    · exact hk
    · have := byteAt_none hk
      omega

/-! ### What the model's decoding gives -/
theorem get_byte (s : ByteArray) (k : Nat) : ((s.get! k).toNat : Int) = byteAt s k := by
  unfold byteAt
  rw [show s.get! k = s.data[k]! from rfl]
  simp [Array.getElem!_eq_getD, Array.getD_eq_getD_getElem?]
  rfl
theorem cont_iff (s : ByteArray) (k : Nat) : (k < s.size && (s.get! k).toNat / 64 == 2) = tlB s k := by
  rw [Bool.eq_iff_iff, tlB_iff]
  have h := get_byte s k
  have hr := byteAt_range s k
  by_cases hk : k < s.size
  · simp [hk]
    omega
  · have := byteAt_none hk
    simp [hk]
    omega
/-- The decoding, over the bytes as numbers. -/
def decN (c0 c1 c2 c3 : Nat) (t1 t2 t3 : Bool) : Nat × Nat :=
  if c0 < 128 then (c0, 1)
  else if c0 / 32 == 6 && t1 then
    if c0 % 32 * 64 + c1 % 64 ≥ 128 then (c0 % 32 * 64 + c1 % 64, 2) else (65533, 1)
  else if c0 / 16 == 14 && t1 && t2 then
    if c0 % 16 * 4096 + c1 % 64 * 64 + c2 % 64 ≥ 2048 && Utf8.valid ((c0 % 16 * 4096 + c1 % 64 * 64 + c2 % 64 : Nat) : Int) then (c0 % 16 * 4096 + c1 % 64 * 64 + c2 % 64, 3) else (65533, 1)
  else if c0 / 8 == 30 && t1 && t2 && t3 then
    if c0 % 8 * 262144 + c1 % 64 * 4096 + c2 % 64 * 64 + c3 % 64 ≥ 65536 && Utf8.valid ((c0 % 8 * 262144 + c1 % 64 * 4096 + c2 % 64 * 64 + c3 % 64 : Nat) : Int) then (c0 % 8 * 262144 + c1 % 64 * 4096 + c2 % 64 * 64 + c3 % 64, 4) else (65533, 1)
  else (65533, 1)
/-- The size, over the bytes as numbers. -/
def szN (c0 c1 : Nat) (t1 t2 t3 : Bool) : Int :=
  if c0 < 128 then 1
  else if 194 ≤ c0 ∧ c0 ≤ 223 ∧ t1 = true then 2
  else if 224 ≤ c0 ∧ c0 ≤ 239 ∧ t1 = true ∧ t2 = true then
    if c0 = 224 ∧ c1 < 160 ∨ c0 = 237 ∧ 159 < c1 then 0 else 3
  else if 240 ≤ c0 ∧ c0 ≤ 244 ∧ t1 = true ∧ t2 = true ∧ t3 = true then
    if c0 = 240 ∧ c1 < 144 ∨ c0 = 244 ∧ 143 < c1 then 0 else 4
  else 0

theorem valid_iff (n : Nat) : Utf8.valid (n : Int) = decide (n < 55296 ∨ (57344 ≤ n ∧ n ≤ 1114111)) := by
  rw [Bool.eq_iff_iff]
  simp only [Utf8.valid, Bool.or_eq_true, Bool.and_eq_true, decide_eq_true_iff]
  omega

set_option maxRecDepth 100000 in
set_option maxHeartbeats 1000000 in
theorem dec_pure (c0 c1 c2 c3 : Nat) (t1 t2 t3 : Bool) (h0 : c0 < 256) (h1 : t1 = true → 128 ≤ c1 ∧ c1 ≤ 191) (h2 : t2 = true → 128 ≤ c2 ∧ c2 ≤ 191) (h3 : t3 = true → 128 ≤ c3 ∧ c3 ≤ 191) :
    (szN c0 c1 t1 t2 t3 = 0 → decN c0 c1 c2 c3 t1 t2 t3 = (65533, 1)) ∧
    (szN c0 c1 t1 t2 t3 ≠ 0 → ((decN c0 c1 c2 c3 t1 t2 t3).2 : Int) = szN c0 c1 t1 t2 t3 ∧ ((decN c0 c1 c2 c3 t1 t2 t3).1 = 0 ↔ c0 = 0) ∧
      ((decN c0 c1 c2 c3 t1 t2 t3).1 = 65533 → c0 = 239 ∧ c1 = 191 ∧ c2 = 189)) := by
  by_cases a : c0 < 128
  · simp [szN, decN, a]; omega
  by_cases b : c0 < 192
  · have e1 : ¬ c0 / 32 = 6 := by omega
    have e2 : ¬ c0 / 16 = 14 := by omega
    have e3 : ¬ c0 / 8 = 30 := by omega
    have f1 : ¬ 194 ≤ c0 := by omega
    have f2 : ¬ 224 ≤ c0 := by omega
    have f3 : ¬ 240 ≤ c0 := by omega
    simp [szN, decN, a, e1, e2, e3, f1, f2, f3]
  by_cases b2 : c0 < 224
  · have e1 : c0 / 32 = 6 := by omega
    have e2 : ¬ c0 / 16 = 14 := by omega
    have e3 : ¬ c0 / 8 = 30 := by omega
    have f2 : ¬ 224 ≤ c0 := by omega
    have f3 : ¬ 240 ≤ c0 := by omega
    cases t1
    · simp [szN, decN, a, f2, f3]
    · have hh := h1 rfl
      by_cases g : 194 ≤ c0
      · have u : 128 ≤ c0 % 32 * 64 + c1 % 64 := by omega
        have g2 : c0 ≤ 223 := by omega
        simp [szN, decN, a, e1, g, g2, u]
        omega
      · have u : ¬ 128 ≤ c0 % 32 * 64 + c1 % 64 := by omega
        simp [szN, decN, a, e1, g, f2, f3, u]
  by_cases b3 : c0 < 240
  · have e1 : ¬ c0 / 32 = 6 := by omega
    have e2 : c0 / 16 = 14 := by omega
    have e3 : ¬ c0 / 8 = 30 := by omega
    have f1 : ¬ c0 ≤ 223 := by omega
    have f2 : 224 ≤ c0 := by omega
    have f2' : c0 ≤ 239 := by omega
    have f3 : ¬ 240 ≤ c0 := by omega
    cases t1
    · simp [szN, decN, a, f3]
    cases t2
    · simp [szN, decN, a, e1, f1, f3]
    have hh := h1 rfl
    have hh2 := h2 rfl
    by_cases g : c0 = 224 ∧ c1 < 160 ∨ c0 = 237 ∧ 159 < c1
    · have s0 : szN c0 c1 true true t3 = 0 := by
        rw [szN, if_neg a, if_neg (by omega), if_pos ⟨f2, f2', rfl, rfl⟩, if_pos g]
      have d0 : decN c0 c1 c2 c3 true true t3 = (65533, 1) := by
        rw [decN, if_neg a, if_neg (by simp [e1]), if_pos (by simp [e2]), if_neg (by rw [valid_iff]; simp; omega)]
      rw [s0, d0]
      exact ⟨fun _ => rfl, fun h => absurd rfl h⟩
    · have s0 : szN c0 c1 true true t3 = 3 := by
        rw [szN, if_neg a, if_neg (by omega), if_pos ⟨f2, f2', rfl, rfl⟩, if_neg g]
      have d0 : decN c0 c1 c2 c3 true true t3 = (c0 % 16 * 4096 + c1 % 64 * 64 + c2 % 64, 3) := by
        rw [decN, if_neg a, if_neg (by simp [e1]), if_pos (by simp [e2]), if_pos (by rw [valid_iff]; simp; omega)]
      rw [s0, d0]
      refine ⟨fun h => absurd h (by omega), fun _ => ⟨rfl, ?_, ?_⟩⟩
      · show c0 % 16 * 4096 + c1 % 64 * 64 + c2 % 64 = 0 ↔ c0 = 0
        omega
      · show c0 % 16 * 4096 + c1 % 64 * 64 + c2 % 64 = 65533 → _
        omega
  · have e1 : ¬ c0 / 32 = 6 := by omega
    have e2 : ¬ c0 / 16 = 14 := by omega
    have n4 : ∀ d : Bool, (c0 / 8 == 30 && t1 && t2 && t3) = d → (d = false ∨ c0 ≥ 248 ∨ 244 < c0) → szN c0 c1 t1 t2 t3 = 0 := by
      intro d hd hx
      rw [szN, if_neg a, if_neg (by omega), if_neg (by omega)]
      rcases hx with rfl | hx | hx
      · rw [if_neg]
        rintro ⟨_, _, rfl, rfl, rfl⟩
        simp at hd
        omega
      · rw [if_neg (by omega)]
      · rw [if_neg (by omega)]
    cases hd : (c0 / 8 == 30 && t1 && t2 && t3)
    · have s0 := n4 _ hd (.inl rfl)
      have d0 : decN c0 c1 c2 c3 t1 t2 t3 = (65533, 1) := by
        rw [decN, if_neg a, if_neg (by simp [e1]), if_neg (by simp [e2]), if_neg (by simp [hd])]
      rw [s0, d0]
      exact ⟨fun _ => rfl, fun h => absurd rfl h⟩
    · have hd' := hd
      simp only [Bool.and_eq_true, beq_iff_eq] at hd'
      obtain ⟨⟨⟨e3, rfl⟩, rfl⟩, rfl⟩ := hd'
      have hh := h1 rfl
      have hh2 := h2 rfl
      have hh3 := h3 rfl
      have f3 : 240 ≤ c0 := by omega
      by_cases big : 244 < c0
      · have s0 := n4 _ hd (.inr (.inr big))
        have d0 : decN c0 c1 c2 c3 true true true = (65533, 1) := by
          rw [decN, if_neg a, if_neg (by simp [e1]), if_neg (by simp [e2]), if_pos hd, if_neg (by rw [valid_iff]; simp; omega)]
        rw [s0, d0]
        exact ⟨fun _ => rfl, fun h => absurd rfl h⟩
      by_cases g : c0 = 240 ∧ c1 < 144 ∨ c0 = 244 ∧ 143 < c1
      · have s0 : szN c0 c1 true true true = 0 := by
          rw [szN, if_neg a, if_neg (by omega), if_neg (by omega), if_pos ⟨f3, by omega, rfl, rfl, rfl⟩, if_pos g]
        have d0 : decN c0 c1 c2 c3 true true true = (65533, 1) := by
          rw [decN, if_neg a, if_neg (by simp [e1]), if_neg (by simp [e2]), if_pos hd, if_neg (by rw [valid_iff]; simp; omega)]
        rw [s0, d0]
        exact ⟨fun _ => rfl, fun h => absurd rfl h⟩
      · have s0 : szN c0 c1 true true true = 4 := by
          rw [szN, if_neg a, if_neg (by omega), if_neg (by omega), if_pos ⟨f3, by omega, rfl, rfl, rfl⟩, if_neg g]
        have d0 : decN c0 c1 c2 c3 true true true = (c0 % 8 * 262144 + c1 % 64 * 4096 + c2 % 64 * 64 + c3 % 64, 4) := by
          rw [decN, if_neg a, if_neg (by simp [e1]), if_neg (by simp [e2]), if_pos hd, if_pos (by rw [valid_iff]; simp; omega)]
        rw [s0, d0]
        refine ⟨fun h => absurd h (by omega), fun _ => ⟨rfl, ?_, ?_⟩⟩
        · show c0 % 8 * 262144 + c1 % 64 * 4096 + c2 % 64 * 64 + c3 % 64 = 0 ↔ c0 = 0
          omega
        · show c0 % 8 * 262144 + c1 % 64 * 4096 + c2 % 64 * 64 + c3 % 64 = 65533 → _
          omega

theorem szAt_N (s : ByteArray) (k : Nat) : szAt s k = szN (s.get! k).toNat (s.get! (k + 1)).toNat (tlB s (k + 1)) (tlB s (k + 2)) (tlB s (k + 3)) := by
  unfold szAt szN
  rw [← get_byte s k, ← get_byte s (k + 1)]
  generalize (s.get! k).toNat = c0
  generalize (s.get! (k + 1)).toNat = c1
  have e1 : ((c0 : Int) < 128) = (c0 < 128) := by simp only [eq_iff_iff]; omega
  have e2 : (194 ≤ (c0 : Int) ∧ (c0 : Int) ≤ 223 ∧ tlB s (k + 1) = true) = (194 ≤ c0 ∧ c0 ≤ 223 ∧ tlB s (k + 1) = true) := by rw [eq_iff_iff]; constructor <;> rintro ⟨a, b, c⟩ <;> exact ⟨by omega, by omega, c⟩
  have e3 : (224 ≤ (c0 : Int) ∧ (c0 : Int) ≤ 239 ∧ tlB s (k + 1) = true ∧ tlB s (k + 2) = true) = (224 ≤ c0 ∧ c0 ≤ 239 ∧ tlB s (k + 1) = true ∧ tlB s (k + 2) = true) := by rw [eq_iff_iff]; constructor <;> rintro ⟨a, b, c⟩ <;> exact ⟨by omega, by omega, c⟩
  have e4 : ((c0 : Int) = 224 ∧ (c1 : Int) < 160 ∨ (c0 : Int) = 237 ∧ 159 < (c1 : Int)) = (c0 = 224 ∧ c1 < 160 ∨ c0 = 237 ∧ 159 < c1) := by simp only [eq_iff_iff]; omega
  have e5 : (240 ≤ (c0 : Int) ∧ (c0 : Int) ≤ 244 ∧ tlB s (k + 1) = true ∧ tlB s (k + 2) = true ∧ tlB s (k + 3) = true) = (240 ≤ c0 ∧ c0 ≤ 244 ∧ tlB s (k + 1) = true ∧ tlB s (k + 2) = true ∧ tlB s (k + 3) = true) := by rw [eq_iff_iff]; constructor <;> rintro ⟨a, b, c⟩ <;> exact ⟨by omega, by omega, c⟩
  have e6 : ((c0 : Int) = 240 ∧ (c1 : Int) < 144 ∨ (c0 : Int) = 244 ∧ 143 < (c1 : Int)) = (c0 = 240 ∧ c1 < 144 ∨ c0 = 244 ∧ 143 < c1) := by simp only [eq_iff_iff]; omega
  simp only [e1, e2, e3, e4, e5, e6]

theorem decode_N (s : ByteArray) (k : Nat) : Utf8.decode s k = decN (s.get! k).toNat (s.get! (k + 1)).toNat (s.get! (k + 2)).toNat (s.get! (k + 3)).toNat (tlB s (k + 1)) (tlB s (k + 2)) (tlB s (k + 3)) := by
  rw [← cont_iff, ← cont_iff, ← cont_iff]
  rfl

/-- The model's own decoding, at a place of the text, by the size that the document gives. -/
theorem decode_size (s : ByteArray) (k : Nat) :
    (szAt s k = 0 → Utf8.decode s k = (65533, 1)) ∧
    (szAt s k ≠ 0 → ((Utf8.decode s k).2 : Int) = szAt s k ∧ ((Utf8.decode s k).1 = 0 ↔ byteAt s k = 0) ∧
      ((Utf8.decode s k).1 = 65533 → byteAt s k = 239 ∧ byteAt s (k + 1) = 191 ∧ byteAt s (k + 2) = 189)) := by
  have t1 := (tlB_iff s (k + 1)).1
  have t2 := (tlB_iff s (k + 2)).1
  have t3 := (tlB_iff s (k + 3)).1
  have r0 := byteAt_range s k
  rw [szAt_N, decode_N]
  rw [← get_byte] at t1 t2 t3 r0
  have h := dec_pure (s.get! k).toNat (s.get! (k + 1)).toNat (s.get! (k + 2)).toNat (s.get! (k + 3)).toNat (tlB s (k + 1)) (tlB s (k + 2)) (tlB s (k + 3)) (by omega) (fun e => by have := t1 e; omega) (fun e => by have := t2 e; omega) (fun e => by have := t3 e; omega)
  refine ⟨h.1, fun e => ?_⟩
  obtain ⟨h1, h2, h3⟩ := h.2 e
  refine ⟨h1, ?_, fun e => ?_⟩
  · rw [h2, ← get_byte]; omega
  · have := h3 e
    rw [← get_byte, ← get_byte, ← get_byte]; omega
end Go.Proofs.YtkafkcmhekgheaaGreatDoor

