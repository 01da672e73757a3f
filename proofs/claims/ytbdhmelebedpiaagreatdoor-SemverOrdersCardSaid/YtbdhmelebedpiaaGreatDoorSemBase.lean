/- Bytes, digits, words: the small functions of semver and of its reference. -/
import Derived.Test.YtbdhmelebedpiaaGreatDoorRows
import Derived.WalkKit
import Derived.WalkSpells
import Derived.WalkLawsBesides
import Derived.WalkSmall
import Derived.IntWalk
import Derived.Lib.Hide
import Derived.Below
import Derived.Deep.QuietTactic
import Derived.BigQuiet
namespace Go.Proofs.YtbdhmelebedpiaaGreatDoor
open Go.RowKit

theorem ret_bool {a b : Bool} (h : a = b) : Ending.returned (.bool a) = .returned (.bool b) := by rw [h]
theorem ret_int {k : IntKind} {a b : Int} (h : a = b) : Ending.returned (.int k a) = .returned (.int k b) := by rw [h]
def digC (c : Int) : Bool := decide (48 ≤ c ∧ c ≤ 57)
def wordC (c : Int) : Bool := decide ((48 ≤ c ∧ c ≤ 57) ∨ (97 ≤ c ∧ c ≤ 122) ∨ (65 ≤ c ∧ c ≤ 90) ∨ c = 45)
/-- The byte of a text at a place, as a number. -/
def byteAt (s : ByteArray) (k : Nat) : Int := ((s.data[k]?.getD 0).toNat : Int)
theorem byteAt_eq {s : ByteArray} {k : Nat} (h : k < s.size) : byteAt s k = (s[k].toNat : Int) := by
  unfold byteAt
  rw [Array.getElem?_eq_getElem (by simpa using h)]
  rfl
/-- Whether all bytes are so. -/
def allB (p : Int → Bool) (s : ByteArray) : Bool := decide (∀ k, k < s.size → p (byteAt s k) = true)
def AllTo (p : Int → Bool) (s : ByteArray) (k : Nat) : Prop := ∀ j, j < k → p (byteAt s j) = true
theorem allTo_zero (p : Int → Bool) (s : ByteArray) : AllTo p s 0 := fun _ hj => absurd hj (Nat.not_lt_zero _)
theorem allTo_succ {p : Int → Bool} {s : ByteArray} {k : Nat} (h : AllTo p s k) (hk : p (byteAt s k) = true) : AllTo p s (k + 1) := fun j hj => by
  rcases Nat.lt_or_eq_of_le (Nat.le_of_lt_succ hj) with h1 | h1
  · exact h j h1
  · rw [h1]; exact hk
theorem allB_yes {p : Int → Bool} {s : ByteArray} (h : AllTo p s s.size) : allB p s = true := decide_eq_true h
theorem allB_no {p : Int → Bool} {s : ByteArray} {k : Nat} (hk : k < s.size) (h : p (byteAt s k) = false) : allB p s = false := decide_eq_false fun ha => by rw [ha k hk] at h; cases h
def wordB (s : ByteArray) : Bool := allB wordC s && decide (0 < s.size)
def numB (s : ByteArray) : Bool := allB digC s && decide (0 < s.size)
def isnumB (s : ByteArray) : Bool := numB s && (decide (s.size = 1) || decide (byteAt s 0 ≠ 48))
theorem empty_pos {s : ByteArray} (h : 0 < s.size) : s.toList.isEmpty = false := by
  rw [ByteArray.toList_eq, List.isEmpty_eq_false_iff]
  intro e
  have : s.data.size = 0 := by rw [← Array.length_toList, e]; rfl
  have h2 : s.size = s.data.size := rfl
  omega
theorem empty_zero {s : ByteArray} (h : s.size = 0) : s.toList.isEmpty = true := by
  rw [ByteArray.toList_eq, List.isEmpty_iff]
  have h2 : s.size = s.data.size := rfl
  exact Array.toList_eq_nil_iff.2 (Array.eq_empty_of_size_eq_zero (by omega))
theorem byte_range (s : ByteArray) (k : Nat) : 0 ≤ byteAt s k ∧ byteAt s k ≤ 255 := by
  unfold byteAt
  have := (s.data[k]?.getD 0).toNat_lt
  omega
set_option maxHeartbeats 400000 in
theorem isDigit_any (c : Int) (w : World) :
    Calls Tryz.prog 45 #[.int .u8 c] w fun e w' => e = .returned (.bool (digC c)) ∧ w = w' := by
  go_enter Tryz.func45, Tryz.ntmps45
  go_wp2
  all_goals
    go_ret
    exact ⟨ret_bool (by rw [Bool.eq_iff_iff]; simp_all [digC]; try omega), rfl⟩
set_option maxHeartbeats 400000 in
theorem refdigit_any (c : Int) (w : World) :
    Calls Tryz.prog 49 #[.int .u8 c] w fun e w' => e = .returned (.bool (digC c)) ∧ w = w' := by
  go_enter Tryz.func49, Tryz.ntmps49
  go_wp2
  all_goals
    go_ret
    exact ⟨ret_bool (by rw [Bool.eq_iff_iff]; simp_all [digC]; try omega), rfl⟩
set_option maxHeartbeats 4000000 in
theorem isWord_any (s : ByteArray) (w : World) (hs : s.size ≤ 9223372036854775806) :
    Calls Tryz.prog 22 #[.string s] w fun e w' => e = .returned (.bool (wordB s)) ∧ w = w' := by
  go_enter Tryz.func22, Tryz.ntmps22
  go_wp2_with fail
  go_loop [7] (fun i => ∃ k : Nat, k ≤ s.size ∧ i = .int .i64 k ∧ Hid (AllTo wordC s k)) (fun i => s.size - (intOf i).toNat)
  case atStart => exact ⟨0, Nat.zero_le _, rfl, Lib.hid (allTo_zero _ _)⟩
  case round =>
    obtain ⟨k, hk, rfl, Hok⟩ := hrel
    by_cases hlt : k < s.size
    · have hb := byteAt_eq hlt
      obtain ⟨b0, b1⟩ := byte_range s k
      rw [hb] at b0 b1
      obtain ⟨c, hc⟩ : ∃ c : Int, (s[k].toNat : Int) = c := ⟨_, rfl⟩
      rw [hc] at hb b0 b1
      by_cases hp : wordC c = true
      · have Hnx := Lib.hid (allTo_succ Hok.out (by rw [hb]; exact hp))
        have hw : (48 ≤ c ∧ c ≤ 57) ∨ (65 ≤ c ∧ c ≤ 90) ∨ (97 ≤ c ∧ c ≤ 122) ∨ c = 45 := by
          have := of_decide_eq_true hp
          omega
        clear hp hb
        rcases hw with ⟨h1, h2⟩ | ⟨h1, h2⟩ | ⟨h1, h2⟩ | h1
        · have hd : digC c = true := by unfold digC; exact decide_eq_true ⟨h1, h2⟩
          go_wp2_with fail
          refine (isDigit_any _ _).mono ?_
          rintro e w2 ⟨rfl, rfl⟩
          go_wp2_with fail
          go_round
          case rel => exact ⟨k + 1, by omega, by go_num, Hnx⟩
          case measure => simp [intOf]; omega
        · have hd : digC c = false := by unfold digC; exact decide_eq_false (by omega)
          go_wp2_with fail
          refine (isDigit_any _ _).mono ?_
          rintro e w2 ⟨rfl, rfl⟩
          go_wp2_with fail
          go_round
          case rel => exact ⟨k + 1, by omega, by go_num, Hnx⟩
          case measure => simp [intOf]; omega
        · have hd : digC c = false := by unfold digC; exact decide_eq_false (by omega)
          go_wp2_with fail
          refine (isDigit_any _ _).mono ?_
          rintro e w2 ⟨rfl, rfl⟩
          go_wp2_with fail
          go_round
          case rel => exact ⟨k + 1, by omega, by go_num, Hnx⟩
          case measure => simp [intOf]; omega
        · have hd : digC c = false := by unfold digC; exact decide_eq_false (by omega)
          have hq : (c == 45) = true := by rw [beq_iff_eq]; exact h1
          have hq2 : (c != 45) = false := by rw [bne, hq]; rfl
          go_wp2_with fail
          refine (isDigit_any _ _).mono ?_
          rintro e w2 ⟨rfl, rfl⟩
          go_wp2_with fail
          go_round
          case rel => exact ⟨k + 1, by omega, by go_num, Hnx⟩
          case measure => simp [intOf]; omega
      · have Hn := Lib.hid (show wordB s = false by unfold wordB; rw [allB_no hlt (by rw [hb]; simpa using hp)]; rfl)
        have hw : (c < 45) ∨ (45 < c ∧ c < 48) ∨ (57 < c ∧ c < 65) ∨ (90 < c ∧ c < 97) ∨ 122 < c := by
          have : ¬ ((48 ≤ c ∧ c ≤ 57) ∨ (97 ≤ c ∧ c ≤ 122) ∨ (65 ≤ c ∧ c ≤ 90) ∨ c = 45) := fun h => hp (decide_eq_true h)
          omega
        have hd : digC c = false := by unfold digC; exact decide_eq_false (by omega)
        have hq : (c == 45) = false := by rw [beq_eq_false_iff_ne]; omega
        have hq2 : (c != 45) = true := by rw [bne, hq]; rfl
        clear hp hb
        rcases hw with h1 | ⟨h1, h2⟩ | ⟨h1, h2⟩ | ⟨h1, h2⟩ | h1
        · go_wp2_with fail
          refine (isDigit_any _ _).mono ?_
          rintro e w2 ⟨rfl, rfl⟩
          go_wp2_with fail
          go_ret
          exact ⟨ret_bool Hn.out.symm, rfl⟩
        · go_wp2_with fail
          refine (isDigit_any _ _).mono ?_
          rintro e w2 ⟨rfl, rfl⟩
          go_wp2_with fail
          go_ret
          exact ⟨ret_bool Hn.out.symm, rfl⟩
        · go_wp2_with fail
          refine (isDigit_any _ _).mono ?_
          rintro e w2 ⟨rfl, rfl⟩
          go_wp2_with fail
          go_ret
          exact ⟨ret_bool Hn.out.symm, rfl⟩
        · go_wp2_with fail
          refine (isDigit_any _ _).mono ?_
          rintro e w2 ⟨rfl, rfl⟩
          go_wp2_with fail
          go_ret
          exact ⟨ret_bool Hn.out.symm, rfl⟩
        · go_wp2_with fail
          refine (isDigit_any _ _).mono ?_
          rintro e w2 ⟨rfl, rfl⟩
          go_wp2_with fail
          go_ret
          exact ⟨ret_bool Hn.out.symm, rfl⟩
    · obtain rfl : k = s.size := by omega
      have hall := allB_yes Hok.out
      by_cases h0 : 0 < s.size
      · have he := empty_pos h0
        have Hn := Lib.hid (show wordB s = true by unfold wordB; rw [hall, decide_eq_true h0]; rfl)
        have h00 : ((s.size : Int) == 0) = false := by rw [beq_eq_false_iff_ne]; omega
        clear hall
        go_wp2_with fail
        go_ret
        exact ⟨ret_bool (by rw [Hn.out]; try (simp; try omega)), rfl⟩
      · have h1 : s.size = 0 := by omega
        have he := empty_zero h1
        have Hn := Lib.hid (show wordB s = false by unfold wordB; rw [decide_eq_false h0, Bool.and_false])
        clear hall
        go_wp2_with fail
        go_ret
        exact ⟨ret_bool (by rw [Hn.out]; try (simp; try omega)), rfl⟩
set_option maxHeartbeats 4000000 in
theorem numeric_any (s : ByteArray) (w : World) (hs : s.size ≤ 9223372036854775806) :
    Calls Tryz.prog 25 #[.string s] w fun e w' => e = .returned (.bool (numB s)) ∧ w = w' := by
  go_enter Tryz.func25, Tryz.ntmps25
  go_wp2_with fail
  go_loop [6] (fun i => ∃ k : Nat, k ≤ s.size ∧ i = .int .i64 k ∧ Hid (AllTo digC s k)) (fun i => s.size - (intOf i).toNat)
  case atStart => exact ⟨0, Nat.zero_le _, rfl, Lib.hid (allTo_zero _ _)⟩
  case round =>
    obtain ⟨k, hk, rfl, Hok⟩ := hrel
    by_cases hlt : k < s.size
    · have hb := byteAt_eq hlt
      obtain ⟨b0, b1⟩ := byte_range s k
      rw [hb] at b0 b1
      obtain ⟨c, hc⟩ : ∃ c : Int, (s[k].toNat : Int) = c := ⟨_, rfl⟩
      rw [hc] at hb b0 b1
      by_cases hp : digC c = true
      · have Hnx := Lib.hid (allTo_succ Hok.out (by rw [hb]; exact hp))
        have hd : digC c = true := hp
        clear hp hb
        go_wp2_with fail
        refine (isDigit_any _ _).mono ?_
        rintro e w2 ⟨rfl, rfl⟩
        go_wp2_with fail
        go_round
        case rel => exact ⟨k + 1, by omega, by go_num, Hnx⟩
        case measure => simp [intOf]; omega
      · have Hn := Lib.hid (show numB s = false by unfold numB; rw [allB_no hlt (by rw [hb]; simpa using hp)]; rfl)
        have hd : digC c = false := by simpa using hp
        clear hp hb
        go_wp2_with fail
        refine (isDigit_any _ _).mono ?_
        rintro e w2 ⟨rfl, rfl⟩
        go_wp2_with fail
        go_ret
        exact ⟨ret_bool Hn.out.symm, rfl⟩
    · obtain rfl : k = s.size := by omega
      have hall := allB_yes Hok.out
      by_cases h0 : 0 < s.size
      · have he := empty_pos h0
        have Hn := Lib.hid (show numB s = true by unfold numB; rw [hall, decide_eq_true h0]; rfl)
        have h00 : ((s.size : Int) == 0) = false := by rw [beq_eq_false_iff_ne]; omega
        clear hall
        go_wp2_with fail
        go_ret
        exact ⟨ret_bool (by rw [Hn.out]; try (simp; try omega)), rfl⟩
      · have h1 : s.size = 0 := by omega
        have he := empty_zero h1
        have Hn := Lib.hid (show numB s = false by unfold numB; rw [decide_eq_false h0, Bool.and_false])
        clear hall
        go_wp2_with fail
        go_ret
        exact ⟨ret_bool (by rw [Hn.out]; try (simp; try omega)), rfl⟩
set_option maxHeartbeats 4000000 in
theorem refWord_any (s : ByteArray) (w : World) (hs : s.size ≤ 9223372036854775806) :
    Calls Tryz.prog 28 #[.string s] w fun e w' => e = .returned (.bool (wordB s)) ∧ w = w' := by
  go_enter Tryz.func28, Tryz.ntmps28
  go_wp2_with fail
  go_loop [3] (fun i => ∃ k : Nat, k ≤ s.size ∧ i = .int .i64 k ∧ Hid (AllTo wordC s k)) (fun i => s.size - (intOf i).toNat)
  case atStart => exact ⟨0, Nat.zero_le _, rfl, Lib.hid (allTo_zero _ _)⟩
  case round =>
    obtain ⟨k, hk, rfl, Hok⟩ := hrel
    by_cases hlt : k < s.size
    · have hb := byteAt_eq hlt
      obtain ⟨b0, b1⟩ := byte_range s k
      rw [hb] at b0 b1
      obtain ⟨c, hc⟩ : ∃ c : Int, (s[k].toNat : Int) = c := ⟨_, rfl⟩
      rw [hc] at hb b0 b1
      by_cases hp : wordC c = true
      · have Hnx := Lib.hid (allTo_succ Hok.out (by rw [hb]; exact hp))
        have hw : (48 ≤ c ∧ c ≤ 57) ∨ (65 ≤ c ∧ c ≤ 90) ∨ (97 ≤ c ∧ c ≤ 122) ∨ c = 45 := by
          have := of_decide_eq_true hp
          omega
        clear hp hb
        rcases hw with ⟨h1, h2⟩ | ⟨h1, h2⟩ | ⟨h1, h2⟩ | h1
        · have hd : digC c = true := by unfold digC; exact decide_eq_true ⟨h1, h2⟩
          go_wp2_with fail
          refine (refdigit_any _ _).mono ?_
          rintro e w2 ⟨rfl, rfl⟩
          go_wp2_with fail
          go_round
          case rel => exact ⟨k + 1, by omega, by go_num, Hnx⟩
          case measure => simp [intOf]; omega
        · have hd : digC c = false := by unfold digC; exact decide_eq_false (by omega)
          go_wp2_with fail
          refine (refdigit_any _ _).mono ?_
          rintro e w2 ⟨rfl, rfl⟩
          go_wp2_with fail
          go_round
          case rel => exact ⟨k + 1, by omega, by go_num, Hnx⟩
          case measure => simp [intOf]; omega
        · have hd : digC c = false := by unfold digC; exact decide_eq_false (by omega)
          go_wp2_with fail
          refine (refdigit_any _ _).mono ?_
          rintro e w2 ⟨rfl, rfl⟩
          go_wp2_with fail
          go_round
          case rel => exact ⟨k + 1, by omega, by go_num, Hnx⟩
          case measure => simp [intOf]; omega
        · have hd : digC c = false := by unfold digC; exact decide_eq_false (by omega)
          have hq : (c == 45) = true := by rw [beq_iff_eq]; exact h1
          have hq2 : (c != 45) = false := by rw [bne, hq]; rfl
          go_wp2_with fail
          refine (refdigit_any _ _).mono ?_
          rintro e w2 ⟨rfl, rfl⟩
          go_wp2_with fail
          go_round
          case rel => exact ⟨k + 1, by omega, by go_num, Hnx⟩
          case measure => simp [intOf]; omega
      · have Hn := Lib.hid (show wordB s = false by unfold wordB; rw [allB_no hlt (by rw [hb]; simpa using hp)]; rfl)
        have hw : (c < 45) ∨ (45 < c ∧ c < 48) ∨ (57 < c ∧ c < 65) ∨ (90 < c ∧ c < 97) ∨ 122 < c := by
          have : ¬ ((48 ≤ c ∧ c ≤ 57) ∨ (97 ≤ c ∧ c ≤ 122) ∨ (65 ≤ c ∧ c ≤ 90) ∨ c = 45) := fun h => hp (decide_eq_true h)
          omega
        have hd : digC c = false := by unfold digC; exact decide_eq_false (by omega)
        have hq : (c == 45) = false := by rw [beq_eq_false_iff_ne]; omega
        have hq2 : (c != 45) = true := by rw [bne, hq]; rfl
        clear hp hb
        rcases hw with h1 | ⟨h1, h2⟩ | ⟨h1, h2⟩ | ⟨h1, h2⟩ | h1
        · go_wp2_with fail
          refine (refdigit_any _ _).mono ?_
          rintro e w2 ⟨rfl, rfl⟩
          go_wp2_with fail
          go_ret
          exact ⟨ret_bool Hn.out.symm, rfl⟩
        · go_wp2_with fail
          refine (refdigit_any _ _).mono ?_
          rintro e w2 ⟨rfl, rfl⟩
          go_wp2_with fail
          go_ret
          exact ⟨ret_bool Hn.out.symm, rfl⟩
        · go_wp2_with fail
          refine (refdigit_any _ _).mono ?_
          rintro e w2 ⟨rfl, rfl⟩
          go_wp2_with fail
          go_ret
          exact ⟨ret_bool Hn.out.symm, rfl⟩
        · go_wp2_with fail
          refine (refdigit_any _ _).mono ?_
          rintro e w2 ⟨rfl, rfl⟩
          go_wp2_with fail
          go_ret
          exact ⟨ret_bool Hn.out.symm, rfl⟩
        · go_wp2_with fail
          refine (refdigit_any _ _).mono ?_
          rintro e w2 ⟨rfl, rfl⟩
          go_wp2_with fail
          go_ret
          exact ⟨ret_bool Hn.out.symm, rfl⟩
    · obtain rfl : k = s.size := by omega
      have hall := allB_yes Hok.out
      by_cases h0 : 0 < s.size
      · have he := empty_pos h0
        have Hn := Lib.hid (show wordB s = true by unfold wordB; rw [hall, decide_eq_true h0]; rfl)
        have h00 : ((s.size : Int) == 0) = false := by rw [beq_eq_false_iff_ne]; omega
        clear hall
        go_wp2_with fail
        go_ret
        exact ⟨ret_bool (by rw [Hn.out]; try (simp; try omega)), rfl⟩
      · have h1 : s.size = 0 := by omega
        have he := empty_zero h1
        have Hn := Lib.hid (show wordB s = false by unfold wordB; rw [decide_eq_false h0, Bool.and_false])
        clear hall
        go_wp2_with fail
        go_ret
        exact ⟨ret_bool (by rw [Hn.out]; try (simp; try omega)), rfl⟩
set_option maxHeartbeats 4000000 in
theorem refNumeric_any (s : ByteArray) (w : World) (hs : s.size ≤ 9223372036854775806) :
    Calls Tryz.prog 29 #[.string s] w fun e w' => e = .returned (.bool (numB s)) ∧ w = w' := by
  go_enter Tryz.func29, Tryz.ntmps29
  go_wp2_with fail
  go_loop [3] (fun i => ∃ k : Nat, k ≤ s.size ∧ i = .int .i64 k ∧ Hid (AllTo digC s k)) (fun i => s.size - (intOf i).toNat)
  case atStart => exact ⟨0, Nat.zero_le _, rfl, Lib.hid (allTo_zero _ _)⟩
  case round =>
    obtain ⟨k, hk, rfl, Hok⟩ := hrel
    by_cases hlt : k < s.size
    · have hb := byteAt_eq hlt
      obtain ⟨b0, b1⟩ := byte_range s k
      rw [hb] at b0 b1
      obtain ⟨c, hc⟩ : ∃ c : Int, (s[k].toNat : Int) = c := ⟨_, rfl⟩
      rw [hc] at hb b0 b1
      by_cases hp : digC c = true
      · have Hnx := Lib.hid (allTo_succ Hok.out (by rw [hb]; exact hp))
        have hd : digC c = true := hp
        clear hp hb
        go_wp2_with fail
        refine (refdigit_any _ _).mono ?_
        rintro e w2 ⟨rfl, rfl⟩
        go_wp2_with fail
        go_round
        case rel => exact ⟨k + 1, by omega, by go_num, Hnx⟩
        case measure => simp [intOf]; omega
      · have Hn := Lib.hid (show numB s = false by unfold numB; rw [allB_no hlt (by rw [hb]; simpa using hp)]; rfl)
        have hd : digC c = false := by simpa using hp
        clear hp hb
        go_wp2_with fail
        refine (refdigit_any _ _).mono ?_
        rintro e w2 ⟨rfl, rfl⟩
        go_wp2_with fail
        go_ret
        exact ⟨ret_bool Hn.out.symm, rfl⟩
    · obtain rfl : k = s.size := by omega
      have hall := allB_yes Hok.out
      by_cases h0 : 0 < s.size
      · have he := empty_pos h0
        have Hn := Lib.hid (show numB s = true by unfold numB; rw [hall, decide_eq_true h0]; rfl)
        have h00 : ((s.size : Int) == 0) = false := by rw [beq_eq_false_iff_ne]; omega
        clear hall
        go_wp2_with fail
        go_ret
        exact ⟨ret_bool (by rw [Hn.out]; try (simp; try omega)), rfl⟩
      · have h1 : s.size = 0 := by omega
        have he := empty_zero h1
        have Hn := Lib.hid (show numB s = false by unfold numB; rw [decide_eq_false h0, Bool.and_false])
        clear hall
        go_wp2_with fail
        go_ret
        exact ⟨ret_bool (by rw [Hn.out]; try (simp; try omega)), rfl⟩
end Go.Proofs.YtbdhmelebedpiaaGreatDoor
