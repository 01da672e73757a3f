/- What the library's searches find, by places. -/
import Derived.Test.YtjhgibdebcapfaaScanRefS
import Derived.Lib.Index
import Derived.Lib.IndexAny
import Derived.Lib.Bytealg
import Derived.Lib.Strings
namespace Go.Proofs.Ytjhgibdebcapfaa
open Go.RowKit
set_option linter.unusedSimpArgs false
set_option linter.unusedVariables false

theorem drop_cons {s : ByteArray} {i : Nat} (h : i < s.size) : s.data.toList.drop i = s[i] :: s.data.toList.drop (i + 1) := by
  have h2 : i < s.data.toList.length := by simpa using h
  rw [List.drop_eq_getElem_cons h2]
  rfl
theorem drop_end {s : ByteArray} {i : Nat} (h : s.size ≤ i) : s.data.toList.drop i = [] := List.drop_eq_nil_of_le (by simpa using h)
theorem ext_list (s : ByteArray) (i j : Nat) : (s.extract i j).data.toList = (s.data.toList.drop i).take (j - i) := by
  simp [ByteArray.data_extract, Array.toList_extract, List.extract_eq_take_drop]
theorem ext_end (s : ByteArray) (i : Nat) : (s.extract i s.size).data.toList = s.data.toList.drop i := by
  rw [ext_list]
  exact List.take_of_length_le (by simp)
theorem u8_val {b : UInt8} {n : Nat} (h : n < 256) : (b == UInt8.ofNat n) = decide ((b.toNat : Int) = n) := by
  have := u8_eq (a := b) h
  by_cases hb : b = UInt8.ofNat n
  · rw [decide_eq_true (this.1 hb), hb, beq_self_eq_true]
  · rw [decide_eq_false (fun g => hb (this.2 g)), beq_eq_false_iff_ne]
    exact hb
theorem idxB_run (s : ByteArray) : ∀ m i, s.size - i = m → i ≤ s.size → (Lib.indexByte (s.data.toList.drop i) 10 = -1 ∧ run (fun k => !decide (byteAt s k = 10)) s.size i = s.size) ∨
    (∃ n : Nat, Lib.indexByte (s.data.toList.drop i) 10 = (n : Int) ∧ run (fun k => !decide (byteAt s k = 10)) s.size i = i + n ∧ i + n < s.size)
  | 0, i, hm, hi => by
    left
    have he : i = s.size := by omega
    subst he
    rw [drop_end (Nat.le_refl _), run_stop (fun h => Nat.lt_irrefl _ h.1)]
    exact ⟨rfl, rfl⟩
  | m + 1, i, hm, hi => by
    have hlt : i < s.size := by omega
    have hb := byteAt_eq hlt
    have hu := u8_val (b := s[i]) (n := 10) (by omega)
    rw [drop_cons hlt]
    unfold Lib.indexByte
    by_cases h10 : byteAt s i = 10
    · right
      refine ⟨0, ?_, ?_, by omega⟩
      · rw [show (s[i] == 10) = true from hu.trans (decide_eq_true (by rw [← hb]; exact h10)), if_pos rfl]; rfl
      · exact run_stop (fun h => by have := h.2; rw [decide_eq_true h10] at this; cases this)
    · have e1 : (s[i] == 10) = false := hu.trans (decide_eq_false (by rw [← hb]; exact h10))
      have e2 : run (fun k => !decide (byteAt s k = 10)) s.size i = run (fun k => !decide (byteAt s k = 10)) s.size (i + 1) := run_step hlt (by rw [decide_eq_false h10]; rfl)
      rw [e1, if_neg (by decide), e2]
      rcases idxB_run s m (i + 1) (by omega) (by omega) with ⟨h1, h2⟩ | ⟨n, h1, h2, h3⟩
      · left
        rw [h1]
        exact ⟨rfl, h2⟩
      · right
        refine ⟨n + 1, ?_, by rw [h2]; omega, by omega⟩
        rw [h1, show ((n : Int) == -1) = false by rw [beq_eq_false_iff_ne]; omega]
        rfl
theorem idx2_run (s : ByteArray) : ∀ m i, s.size - i = m → i ≤ s.size → (Lib.index (s.data.toList.drop i) [42, 47] = -1 ∧ s.size ≤ run (comC s) s.size i + 1) ∨
    (∃ n : Nat, Lib.index (s.data.toList.drop i) [42, 47] = (n : Int) ∧ run (comC s) s.size i = i + n ∧ i + n + 1 < s.size)
  | 0, i, hm, hi => by
    left
    have he : i = s.size := by omega
    subst he
    rw [drop_end (Nat.le_refl _), run_stop (fun h => Nat.lt_irrefl _ h.1)]
    exact ⟨rfl, Nat.le_succ _⟩
  | m + 1, i, hm, hi => by
    have hlt : i < s.size := by omega
    have hb := byteAt_eq hlt
    have hu := u8_val (b := s[i]) (n := 42) (by omega)
    have hp : List.isPrefixOf [42, 47] (s[i] :: s.data.toList.drop (i + 1)) = (decide (i + 1 < s.size) && (decide (byteAt s i = 42) && decide (byteAt s (i + 1) = 47))) := by
      by_cases h1 : i + 1 < s.size
      · have hu2 := u8_val (b := s[i + 1]) (n := 47) (by omega)
        rw [drop_cons h1, decide_eq_true h1, Bool.true_and, hb, byteAt_eq h1]
        show ((42 : UInt8) == s[i] && ((47 : UInt8) == s[i + 1] && true)) = _
        rw [Bool.and_true, Bool.beq_comm, Bool.beq_comm (a := (47 : UInt8))]
        exact congr (congrArg and hu) hu2
      · rw [drop_end (by omega), decide_eq_false h1, Bool.false_and]
        show ((42 : UInt8) == s[i] && false) = false
        rw [Bool.and_false]
    rw [drop_cons hlt]
    unfold Lib.index
    rw [hp]
    by_cases hc : comC s i = true
    · have e2 := run_step (n := s.size) hlt hc
      have e1 : (decide (i + 1 < s.size) && (decide (byteAt s i = 42) && decide (byteAt s (i + 1) = 47))) = false := by
        unfold comC at hc
        rw [Bool.and_eq_true, Bool.not_eq_true'] at hc
        rw [hc.2, Bool.and_false]
      rw [e1, if_neg (by decide), e2]
      rcases idx2_run s m (i + 1) (by omega) (by omega) with ⟨h1, h2⟩ | ⟨n, h1, h2, h3⟩
      · left
        rw [h1]
        exact ⟨rfl, h2⟩
      · right
        refine ⟨n + 1, ?_, by rw [h2]; omega, by omega⟩
        rw [h1, show ((n : Int) == -1) = false by rw [beq_eq_false_iff_ne]; omega]
        rfl
    · have e2 : run (comC s) s.size i = i := run_stop (fun h => hc h.2)
      rw [e2]
      by_cases h1 : i + 1 < s.size
      · right
        have e1 : (decide (byteAt s i = 42) && decide (byteAt s (i + 1) = 47)) = true := by
          unfold comC at hc
          rw [decide_eq_true h1, Bool.true_and, Bool.not_eq_true', Bool.not_eq_false] at hc
          exact hc
        rw [decide_eq_true h1, e1]
        exact ⟨0, rfl, rfl, h1⟩
      · left
        have hs : i + 1 = s.size := by omega
        rw [decide_eq_false h1, Bool.false_and, if_neg (by decide), hs, drop_end (Nat.le_refl _)]
        exact ⟨rfl, Nat.le_refl _⟩
theorem any_bytes (s : ByteArray) (q : Int → Bool) : ∀ m i, i + m ≤ s.size → (List.range' i m).any (fun k => q (byteAt s k)) = ((s.data.toList.drop i).take m).any (fun b => q (b.toNat : Int))
  | 0, _, _ => rfl
  | m + 1, i, h => by
    have hlt : i < s.size := by omega
    rw [drop_cons hlt, List.take_succ_cons, List.any_cons, ← any_bytes s q m (i + 1) (by omega), List.range'_succ, List.any_cons, byteAt_eq hlt]
theorem idxB_any (c : UInt8) : ∀ l : List UInt8, decide (0 ≤ Lib.indexByte l c) = l.any (fun b => b == c) ∧ -1 ≤ Lib.indexByte l c
  | [] => ⟨rfl, Int.le_refl (-1)⟩
  | b :: l => by
    obtain ⟨ih, ih2⟩ := idxB_any c l
    unfold Lib.indexByte
    rw [List.any_cons]
    cases hb : (b == c)
    · rw [if_neg (by decide), Bool.false_or, ← ih]
      by_cases h : Lib.indexByte l c = -1
      · rw [h]; exact ⟨rfl, by decide⟩
      · rw [if_neg (by simpa using h)]
        constructor
        · have a1 : decide (0 ≤ Lib.indexByte l c + 1) = true := decide_eq_true (by omega)
          have a2 : decide (0 ≤ Lib.indexByte l c) = true := decide_eq_true (by omega)
          rw [a1, a2]
        · omega
    · rw [if_pos rfl, Bool.true_or]
      exact ⟨rfl, by decide⟩
theorem idxAny_any (cs : List UInt8) : ∀ l : List UInt8, decide (0 ≤ Lib.indexAny l cs) = l.any (fun b => cs.contains b) ∧ -1 ≤ Lib.indexAny l cs
  | [] => ⟨rfl, Int.le_refl (-1)⟩
  | b :: l => by
    obtain ⟨ih, ih2⟩ := idxAny_any cs l
    unfold Lib.indexAny
    rw [List.any_cons]
    cases hb : cs.contains b
    · rw [if_neg (by decide), Bool.false_or, ← ih]
      by_cases h : Lib.indexAny l cs = -1
      · rw [h]; exact ⟨rfl, by decide⟩
      · rw [if_neg (by simpa using h)]
        constructor
        · have a1 : decide (0 ≤ Lib.indexAny l cs + 1) = true := decide_eq_true (by omega)
          have a2 : decide (0 ≤ Lib.indexAny l cs) = true := decide_eq_true (by omega)
          rw [a1, a2]
        · omega
    · rw [if_pos rfl, Bool.true_or]
      exact ⟨rfl, by decide⟩
theorem pre2 (s : ByteArray) (i : Nat) (a b : Nat) (ha : a < 256) (hb : b < 256) (ha0 : 0 < a) (hb0 : 0 < b) : List.isPrefixOf [UInt8.ofNat a, UInt8.ofNat b] (s.data.toList.drop i) = (decide (byteAt s i = a) && decide (byteAt s (i + 1) = b)) := by
  by_cases h1 : i < s.size
  · have hu := u8_val (b := s[i]) ha
    rw [drop_cons h1, byteAt_eq h1]
    by_cases h2 : i + 1 < s.size
    · have hu2 := u8_val (b := s[i + 1]) hb
      rw [drop_cons h2, byteAt_eq h2]
      show (UInt8.ofNat a == s[i] && (UInt8.ofNat b == s[i + 1] && true)) = _
      rw [Bool.and_true, Bool.beq_comm, Bool.beq_comm (a := UInt8.ofNat b)]
      exact congr (congrArg and hu) hu2
    · rw [drop_end (by omega), byteAt_none h2, decide_eq_false (show ¬ (0 : Int) = (b : Int) by omega), Bool.and_false]
      show (UInt8.ofNat a == s[i] && false) = false
      rw [Bool.and_false]
  · rw [drop_end (by omega), byteAt_none h1, decide_eq_false (show ¬ (0 : Int) = (a : Int) by omega)]
    rfl
end Go.Proofs.Ytjhgibdebcapfaa
