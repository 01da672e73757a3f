/- Plain facts: two texts together; places rise. -/
import Derived.Test.YtnjnpfdhjgjdmaaSrcCheckWalk
namespace Go.Proofs.Ytnjnpfdhjgjdmaa
open Go.RowKit

theorem byteAt_left (s t : ByteArray) {k : Nat} (h : k < s.size) : byteAt (s ++ t) k = byteAt s k := by
  rw [byteAt_list, byteAt_list]
  have hl : k < s.data.toList.length := by simpa using h
  rw [show (s ++ t).data.toList = s.data.toList ++ t.data.toList by simp]
  simp [List.getD_eq_getElem?_getD, List.getElem?_append_left hl]
theorem byteAt_right (s t : ByteArray) (k : Nat) : byteAt (s ++ t) (s.size + k) = byteAt t k := by
  rw [byteAt_list, byteAt_list]
  rw [show (s ++ t).data.toList = s.data.toList ++ t.data.toList by simp]
  rw [List.getD_eq_getElem?_getD, List.getElem?_append_right (by simp)]
  simp [List.getD_eq_getElem?_getD]
theorem tlB_eq {s t : ByteArray} {j k : Nat} (h : byteAt s j = byteAt t k) : tlB s j = tlB t k := by
  rw [Bool.eq_iff_iff, tlB_iff, tlB_iff, h]
theorem szAt_eq {s t : ByteArray} {j k : Nat} (h0 : byteAt s j = byteAt t k) (h1 : byteAt s (j + 1) = byteAt t (k + 1)) (h2 : byteAt s (j + 2) = byteAt t (k + 2)) (h3 : byteAt s (j + 3) = byteAt t (k + 3)) : szAt s j = szAt t k := by
  unfold szAt
  rw [h0, h1, tlB_eq h1, tlB_eq h2, tlB_eq h3]
theorem szAt_right (s t : ByteArray) (k : Nat) : szAt (s ++ t) (s.size + k) = szAt t k :=
  szAt_eq (byteAt_right s t k) (byteAt_right s t (k + 1)) (byteAt_right s t (k + 2)) (byteAt_right s t (k + 3))
/-- A letter lies within its text. -/
theorem szAt_fits {s : ByteArray} {k : Nat} (h : k < s.size) : k + (szAt s k).toNat ≤ s.size := by
  have t1 := @lt_of_tlB s (k + 1)
  have t2 := @lt_of_tlB s (k + 2)
  have t3 := @lt_of_tlB s (k + 3)
  unfold szAt at *
  split
  · simp; omega
  split
  · rename_i h1
    have := t1 h1.2.2
    simp; omega
  split
  · rename_i h1
    have := t2 h1.2.2.2
    split
    · simp; omega
    · simp; omega
  split
  · rename_i h1
    have := t3 h1.2.2.2.2
    split
    · simp; omega
    · simp; omega
  · simp; omega
/-- What is a letter stays one, whatever comes behind. -/
theorem szAt_stays (s t : ByteArray) {k : Nat} (h : k < s.size) (hz : szAt s k ≠ 0) : szAt (s ++ t) k = szAt s k := by
  have c0 := byteAt_left s t h
  have b1 : ∀ j, k + j < s.size → byteAt (s ++ t) (k + j) = byteAt s (k + j) := fun j hj => byteAt_left s t hj
  have e1 : tlB s (k + 1) = true → tlB (s ++ t) (k + 1) = true ∧ byteAt (s ++ t) (k + 1) = byteAt s (k + 1) := fun h1 => by
    have := b1 1 (lt_of_tlB h1)
    exact ⟨by rw [tlB_eq this]; exact h1, this⟩
  have e2 : tlB s (k + 2) = true → tlB (s ++ t) (k + 2) = true := fun h1 => by
    rw [tlB_eq (b1 2 (lt_of_tlB h1))]; exact h1
  have e3 : tlB s (k + 3) = true → tlB (s ++ t) (k + 3) = true := fun h1 => by
    rw [tlB_eq (b1 3 (lt_of_tlB h1))]; exact h1
  unfold szAt at hz ⊢
  rw [c0]
  by_cases a : byteAt s k < 128
  · rw [if_pos a, if_pos a]
  rw [if_neg a, if_neg a]
  rw [if_neg a] at hz
  by_cases a2 : 194 ≤ byteAt s k ∧ byteAt s k ≤ 223 ∧ tlB s (k + 1) = true
  · rw [if_pos a2, if_pos ⟨a2.1, a2.2.1, (e1 a2.2.2).1⟩]
  rw [if_neg a2] at hz ⊢
  by_cases a3 : 224 ≤ byteAt s k ∧ byteAt s k ≤ 239 ∧ tlB s (k + 1) = true ∧ tlB s (k + 2) = true
  · have e := e1 a3.2.2.1
    rw [if_pos a3, if_neg (by omega), if_pos ⟨a3.1, a3.2.1, e.1, e2 a3.2.2.2⟩, e.2]
  rw [if_neg a3] at hz ⊢
  by_cases a4 : 240 ≤ byteAt s k ∧ byteAt s k ≤ 244 ∧ tlB s (k + 1) = true ∧ tlB s (k + 2) = true ∧ tlB s (k + 3) = true
  · have e := e1 a4.2.2.1
    rw [if_pos a4, if_neg (by omega), if_neg (by omega), if_pos ⟨a4.1, a4.2.1, e.1, e2 a4.2.2.2.1, e3 a4.2.2.2.2⟩, e.2]
  rw [if_neg a4] at hz
  exact absurd rfl hz
theorem badAt_stays (s t : ByteArray) {k : Nat} (h : k < s.size) (hb : badAt s k = false) : badAt (s ++ t) k = false ∧ szAt (s ++ t) k = szAt s k := by
  have hb' := hb
  simp only [badAt, Bool.or_eq_false_iff, beq_eq_false_iff_ne] at hb'
  have e := szAt_stays s t h hb'.1
  refine ⟨?_, e⟩
  unfold badAt at *
  rw [e, byteAt_left s t h, hb]
theorem badAt_right (s t : ByteArray) (k : Nat) : badAt (s ++ t) (s.size + k) = badAt t k := by
  unfold badAt
  rw [szAt_right, byteAt_right]
theorem badAt_left (s t : ByteArray) {k : Nat} (h : k + 4 ≤ s.size) : badAt (s ++ t) k = badAt s k := by
  unfold badAt
  rw [szAt_eq (byteAt_left s t (by omega)) (byteAt_left s t (by omega)) (byteAt_left s t (by omega)) (byteAt_left s t (by omega)), byteAt_left s t (by omega)]

/-- With fuel enough it does not matter how much. -/
theorem spoilF_fuel (s : ByteArray) : ∀ b c k : Nat, s.size ≤ k + b → s.size ≤ k + c → spoilF s b k = spoilF s c k
  | 0, c, k, h, _ => by rw [spoilF_end s c k (by omega)]; rfl
  | b + 1, 0, k, _, h => by rw [spoilF_end s (b + 1) k (by omega)]; rfl
  | b + 1, c + 1, k, h1, h2 => by
    by_cases hk : k < s.size
    · cases hb : badAt s k
      · have := (size_of_decode s k hb).2
        rw [spoilF_go hk hb, spoilF_go hk hb]
        exact spoilF_fuel s b c _ (by omega) (by omega)
      · rw [spoilF_bad hk hb, spoilF_bad hk hb]
    · rw [spoilF_end s _ k hk, spoilF_end s _ k hk]

/-- The second text's places, behind the first. -/
def shiftBy (n : Nat) (x : Int) : Int := if x = -1 then -1 else n + x

theorem spoilF_right (s t : ByteArray) : ∀ b k : Nat, spoilF (s ++ t) b (s.size + k) = shiftBy s.size (spoilF t b k)
  | 0, k => rfl
  | b + 1, k => by
    have hsz : (s ++ t).size = s.size + t.size := by simp
    by_cases hk : k < t.size
    · cases hb : badAt t k
      · rw [spoilF_go (by omega) (by rw [badAt_right]; exact hb), spoilF_go hk hb, szAt_right, Nat.add_assoc]
        exact spoilF_right s t b _
      · rw [spoilF_bad (by omega) (by rw [badAt_right]; exact hb), spoilF_bad hk hb, shiftBy, if_neg (by omega)]
        omega
    · rw [spoilF_end _ _ _ (by omega), spoilF_end _ _ _ hk]
      rfl

/-- Walking through an unspoilt first text one comes to the second. -/
theorem spoilF_through (s t : ByteArray) : ∀ b k : Nat, k ≤ s.size → s.size ≤ k + b → spoilF s b k = -1 →
    spoilF (s ++ t) (b + t.size) k = shiftBy s.size (spoil t)
  | 0, k, h1, h2, _ => by
    have : k = s.size := by omega
    subst this
    have e := spoilF_right s t t.size 0
    rw [Nat.add_zero] at e
    rw [Nat.zero_add, e]
    rfl
  | b + 1, k, h1, h2, h3 => by
    have hsz : (s ++ t).size = s.size + t.size := by simp
    by_cases hk : k < s.size
    · cases hb : badAt s k
      · rw [spoilF_go hk hb] at h3
        have hst := badAt_stays s t hk hb
        have h1' := (size_of_decode s k hb).2
        rw [show b + 1 + t.size = b + t.size + 1 by omega, spoilF_go (by omega) hst.1, hst.2]
        exact spoilF_through s t b _ (szAt_fits hk) (by omega) h3
      · rw [spoilF_bad hk hb] at h3
        omega
    · have : k = s.size := by omega
      subst this
      have e := spoilF_right s t (b + 1 + t.size) 0
      have e0 : s.size + 0 = s.size := rfl
      rw [e0] at e
      rw [e, spoilF_fuel t (b + 1 + t.size) t.size 0 (by omega) (by omega)]
      rfl

theorem spoil_both (s t : ByteArray) (h : spoil s = -1) : spoil (s ++ t) = shiftBy s.size (spoil t) := by
  have hsz : (s ++ t).size = s.size + t.size := by simp
  unfold spoil at h ⊢
  rw [hsz]
  exact spoilF_through s t s.size 0 (by omega) (by omega) h

/-- What is spoilt, four bytes ahead of its end, is so whatever comes behind. -/
theorem spoilF_stays (s t : ByteArray) : ∀ b k : Nat, ∀ a : Nat, spoilF s b k = a → a + 4 ≤ s.size → spoilF (s ++ t) b k = a
  | 0, k, a, h, _ => by simp [spoilF] at h
  | b + 1, k, a, h, h4 => by
    have hsz : (s ++ t).size = s.size + t.size := by simp
    by_cases hk : k < s.size
    · cases hb : badAt s k
      · have hst := badAt_stays s t hk hb
        rw [spoilF_go hk hb] at h
        rw [spoilF_go (by omega) hst.1, hst.2]
        exact spoilF_stays s t b _ a h h4
      · rw [spoilF_bad hk hb] at h
        have : k = a := by omega
        subst this
        rw [spoilF_bad (by omega) (by rw [badAt_left s t h4]; exact hb)]
    · rw [spoilF_end s _ k hk] at h
      omega
theorem spoilF_more (s : ByteArray) (c : Nat) : ∀ b k a : Nat, spoilF s b k = a → spoilF s (b + c) k = a
  | 0, k, a, h => by simp [spoilF] at h
  | b + 1, k, a, h => by
    rw [show b + 1 + c = b + c + 1 by omega]
    by_cases hk : k < s.size
    · cases hb : badAt s k
      · rw [spoilF_go hk hb] at h
        rw [spoilF_go hk hb]
        exact spoilF_more s c b _ a h
      · rw [spoilF_bad hk hb] at h
        rw [spoilF_bad hk hb]
        exact h
    · rw [spoilF_end s _ k hk] at h
      omega
theorem spoil_stays (s t : ByteArray) (a : Nat) (h : spoil s = a) (h4 : a + 4 ≤ s.size) : spoil (s ++ t) = a := by
  have hsz : (s ++ t).size = s.size + t.size := by simp
  have h1 := spoilF_more (s ++ t) t.size s.size 0 a (spoilF_stays s t s.size 0 a h h4)
  unfold spoil
  rw [hsz]
  exact h1

/-- Places rise with the bytes. -/
theorem place_rises (s : ByteArray) (i : Nat) : ∀ k : Nat, i < k → k ≤ s.size → nls s i < nls s k ∨ (nls s i = nls s k ∧ lix s i = lix s k)
  | 0, h, _ => by omega
  | k + 1, h, hk => by
    have h1 := nls_succ (s := s) (k := k) (by omega)
    have h2 := lix_succ (s := s) (k := k) (by omega)
    by_cases hb : byteAt s k = 10
    · rw [if_pos hb] at h1
      by_cases e : i = k
      · subst e; omega
      · have := place_rises s i k (by omega) (by omega)
        omega
    · rw [if_neg hb] at h1 h2
      by_cases e : i = k
      · subst e; omega
      · have := place_rises s i k (by omega) (by omega)
        omega
end Go.Proofs.Ytnjnpfdhjgjdmaa
