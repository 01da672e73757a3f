/- The reference's find, split, and what it asks of words. -/
import Derived.Test.YtbdhmelebedpiaaDoorSemBackN
namespace Go.Proofs.YtbdhmelebedpiaaDoor
open Go.RowKit
set_option linter.unusedSimpArgs false
set_option linter.unusedVariables false

/-- A byte's first place, or -1. -/
def findL (c : UInt8) : List UInt8 → Int
  | [] => -1
  | x :: r => if x = c then 0 else if findL c r < 0 then -1 else findL c r + 1
theorem find_ge (c : UInt8) : ∀ l, -1 ≤ findL c l
  | [] => by unfold findL; omega
  | x :: r => by have := find_ge c r; unfold findL; split <;> (try split) <;> omega
theorem find_cut (c : UInt8) : ∀ l : List UInt8, (findL c l < 0 ∧ cutL c l = (l, [], false)) ∨ ∃ k : Nat, findL c l = k ∧ k < l.length ∧ cutL c l = (l.take k, l.drop (k + 1), true)
  | [] => .inl ⟨by unfold findL; omega, rfl⟩
  | x :: r => by
    unfold findL cutL
    by_cases e : x = c
    · rw [if_pos e, if_pos e]
      exact .inr ⟨0, rfl, by simp, by simp⟩
    · rw [if_neg e, if_neg e]
      rcases find_cut c r with ⟨h1, h2⟩ | ⟨k, h1, h2, h3⟩
      · rw [if_pos h1, h2]; exact .inl ⟨by omega, rfl⟩
      · rw [if_neg (by omega), h3]
        exact .inr ⟨k + 1, by omega, by simp; omega, by simp⟩
/-- The bytes ahead of k are others. -/
theorem find_none {c : UInt8} : ∀ {l : List UInt8}, (∀ j (h : j < l.length), l[j] ≠ c) → findL c l = -1
  | [], _ => rfl
  | x :: r, h => by
    have h0 : x ≠ c := h 0 (by simp)
    have hr := find_none (l := r) (fun j hj => by have := h (j + 1) (by simp; omega); simpa using this)
    unfold findL
    rw [if_neg h0, hr, if_pos (by omega)]
theorem find_some {c : UInt8} : ∀ {l : List UInt8} {k : Nat} (hk : k < l.length), l[k] = c → (∀ j (h : j < l.length), j < k → l[j] ≠ c) → findL c l = k
  | x :: r, 0, _, e, _ => by unfold findL; rw [if_pos (by simpa using e)]; rfl
  | x :: r, k + 1, hk, e, h => by
    have h0 : x ≠ c := h 0 (by simp) (by omega)
    have hr := find_some (l := r) (k := k) (by simp at hk; omega) (by simpa using e) (fun j hj hjk => by have := h (j + 1) (by simp; omega) (by omega); simpa using this)
    unfold findL
    rw [if_neg h0, hr, if_neg (by omega)]
    omega
theorem byte_eq {s : ByteArray} {k : Nat} (h : k < s.size) : s[k] = s.data.toList[k]'h := by rw [Array.getElem_toList]; rfl
theorem u8_eq {a b : UInt8} (h : (a.toNat : Int) = (b.toNat : Int)) : a = b := UInt8.toNat_inj.1 (by omega)
set_option maxHeartbeats 4000000 in
theorem find_any (s : ByteArray) (c : UInt8) (w : World) (hs : s.size ≤ 9223372036854775806) :
    Calls Tryd.prog 23 #[.string s, .int .u8 (c.toNat : Int)] w fun e w' => e = .returned (.int .i64 (findL c s.data.toList)) ∧ w = w' := by
  obtain ⟨z, hz⟩ : ∃ z : Int, (c.toNat : Int) = z := ⟨_, rfl⟩
  have HZ := Lib.hid hz
  rw [hz]
  clear hz
  go_enter Tryd.func23, Tryd.ntmps23
  go_wp2_with fail
  go_loop [5] (fun i => ∃ k : Nat, k ≤ s.size ∧ i = .int .i64 k ∧ Hid (∀ j (h : j < s.data.toList.length), j < k → s.data.toList[j] ≠ c)) (fun i => s.size - (intOf i).toNat)
  case atStart => exact ⟨0, Nat.zero_le _, rfl, Lib.hid (fun j _ hj => absurd hj (Nat.not_lt_zero _))⟩
  case round =>
    obtain ⟨k, hk, rfl, Hok⟩ := hrel
    by_cases hlt : k < s.size
    · have hlt' : k < s.data.toList.length := hlt
      have hb := byte_eq hlt
      obtain ⟨x, hx⟩ : ∃ x : Int, (s[k].toNat : Int) = x := ⟨_, rfl⟩
      by_cases he : x = z
      · have Hr := Lib.hid (find_some hlt' (by rw [← hb]; exact u8_eq (by rw [hx, HZ.out, he])) Hok.out)
        subst he
        have heq : (x == x) = true := beq_self_eq_true _
        clear hb
        go_wp2_with fail
        go_ret
        exact ⟨ret_int Hr.out.symm, rfl⟩
      · have Hnx := Lib.hid (show ∀ j (h : j < s.data.toList.length), j < k + 1 → s.data.toList[j] ≠ c from fun j h hj => by
          rcases Nat.lt_or_eq_of_le (Nat.le_of_lt_succ hj) with h1 | h1
          · exact Hok.out j h h1
          · subst h1
            intro e
            rw [← hb] at e
            exact he (by rw [← hx, ← HZ.out, e]))
        have heq : (x == z) = false := by rw [beq_eq_false_iff_ne]; exact he
        clear hb he
        go_wp2_with fail
        go_round
        case rel => exact ⟨k + 1, by omega, by go_num, Hnx⟩
        case measure => simp [intOf]; omega
    · obtain rfl : k = s.size := by omega
      have Hr := Lib.hid (find_none (l := s.data.toList) (c := c) (fun j h => Hok.out j h h))
      go_wp2_with fail
      go_ret
      exact ⟨ret_int Hr.out.symm, rfl⟩
def synB (strict : Bool) (s : ByteArray) : Bool := wordB s && !(strict && numB s && !isnumB s)
set_option maxHeartbeats 4000000 in
theorem syn_any (ao : Option Addr) (cap : Nat) (ss : List ByteArray) (strict : Bool) (w : World) (hr : SRow w ao ss) (hz : ∀ s ∈ ss, s.size ≤ 1000) (hl : ss.length ≤ 1001) :
    Calls Tryd.prog 25 #[.slice ao ss.length cap, .bool strict] w fun e w' => e = .returned (.bool (ss.all (synB strict))) ∧ w = w' := by
  have RA := Lib.hid hr
  have HZ := Lib.hid hz
  clear hr hz
  go_enter Tryd.func25, Tryd.ntmps25
  go_wp2_with fail
  go_loop [9] (fun i => ∃ k : Nat, k ≤ ss.length ∧ i = .int .i64 k ∧ Hid (∀ j (hj : j < ss.length), j < k → synB strict ss[j] = true)) (fun i => ss.length - (intOf i).toNat)
  case atStart => exact ⟨0, Nat.zero_le _, rfl, Lib.hid (fun j _ hj => absurd hj (Nat.not_lt_zero _))⟩
  case round =>
    obtain ⟨k, hk, rfl, Hok⟩ := hrel
    by_cases hlt : k < ss.length
    · have hsz := HZ.out _ (List.getElem_mem hlt)
      obtain ⟨b, off, rfl, hb, hc⟩ := RA.out.cells (by omega)
      have hck := hc k hlt
      clear hc
      obtain ⟨s, hs⟩ : ∃ s, ss[k] = s := ⟨_, rfl⟩
      have HS := Lib.hid hs
      rw [hs] at hck hsz
      clear hs
      have HW := Lib.hid (refWord_any s w (by omega))
      have HN := Lib.hid (refNumeric_any s w (by omega))
      have HI := Lib.hid (refnumber_any s w (by omega))
      have Hnot := Lib.hid (show synB strict s = false → ss.all (synB strict) = false from fun h => all_no hlt (by rw [HS.out]; exact h))
      have Hyes := Lib.hid (show synB strict s = true → ∀ j (hj : j < ss.length), j < k + 1 → synB strict ss[j] = true from fun h j hj hjk => by
        rcases Nat.lt_or_eq_of_le (Nat.le_of_lt_succ hjk) with h1 | h1
        · exact Hok.out j hj h1
        · subst h1; rw [HS.out]; exact h)
      have HD := Lib.hid (show synB strict s = (wordB s && !(strict && numB s && !isnumB s)) from rfl)
      cases hw : wordB s <;> rw [hw] at HW HD <;> clear hw
      · have Hr := Lib.hid (Hnot.out (by rw [HD.out]; rfl))
        go_wp2_with fail
        refine HW.out.mono ?_
        rintro e w' ⟨rfl, rfl⟩
        go_wp2_with fail
        go_ret
        exact ⟨ret_bool Hr.out.symm, rfl⟩
      cases strict
      · have Hx := Lib.hid (Hyes.out (by rw [HD.out]; rfl))
        go_wp2_with fail
        refine HW.out.mono ?_
        rintro e w' ⟨rfl, rfl⟩
        go_wp2_with fail
        go_round
        case rel => exact ⟨k + 1, by omega, by go_num, Hx⟩
        case measure => simp [intOf]; omega
      cases hn : numB s <;> rw [hn] at HN HD <;> clear hn
      · have Hx := Lib.hid (Hyes.out (by rw [HD.out]; rfl))
        go_wp2_with fail
        refine HW.out.mono ?_
        rintro e w' ⟨rfl, rfl⟩
        go_wp2_with fail
        refine HN.out.mono ?_
        rintro e w' ⟨rfl, rfl⟩
        go_wp2_with fail
        go_round
        case rel => exact ⟨k + 1, by omega, by go_num, Hx⟩
        case measure => simp [intOf]; omega
      cases hi : isnumB s <;> rw [hi] at HI HD <;> clear hi
      · have Hr := Lib.hid (Hnot.out (by rw [HD.out]; rfl))
        go_wp2_with fail
        refine HW.out.mono ?_
        rintro e w' ⟨rfl, rfl⟩
        go_wp2_with fail
        refine HN.out.mono ?_
        rintro e w' ⟨rfl, rfl⟩
        go_wp2_with fail
        refine HI.out.mono ?_
        rintro e w' ⟨rfl, rfl⟩
        go_wp2_with fail
        go_ret
        exact ⟨ret_bool Hr.out.symm, rfl⟩
      · have Hx := Lib.hid (Hyes.out (by rw [HD.out]; rfl))
        go_wp2_with fail
        refine HW.out.mono ?_
        rintro e w' ⟨rfl, rfl⟩
        go_wp2_with fail
        refine HN.out.mono ?_
        rintro e w' ⟨rfl, rfl⟩
        go_wp2_with fail
        refine HI.out.mono ?_
        rintro e w' ⟨rfl, rfl⟩
        go_wp2_with fail
        go_round
        case rel => exact ⟨k + 1, by omega, by go_num, Hx⟩
        case measure => simp [intOf]; omega
    · obtain rfl : k = ss.length := by omega
      have Hr := Lib.hid (all_yes fun j hj => Hok.out j hj hj)
      go_wp2_with fail
      go_ret
      exact ⟨ret_bool Hr.out.symm, rfl⟩
set_option maxHeartbeats 4000000 in
theorem lengthy_any (ao : Option Addr) (cap : Nat) (ss : List ByteArray) (w : World) (hr : SRow w ao ss) (hz : ∀ s ∈ ss, s.size ≤ 1000) (hl : ss.length ≤ 1001) :
    Calls Tryd.prog 27 #[.slice ao ss.length cap] w fun e w' => e = .returned (.bool (!fewB ss)) ∧ w = w' := by
  have RA := Lib.hid hr
  have HZ := Lib.hid hz
  clear hr hz
  go_enter Tryd.func27, Tryd.ntmps27
  go_wp2_with fail
  go_loop [7] (fun i => ∃ k : Nat, k ≤ ss.length ∧ i = .int .i64 k ∧ Hid (∀ j (hj : j < ss.length), j < k → longWord ss[j] = false)) (fun i => ss.length - (intOf i).toNat)
  case atStart => exact ⟨0, Nat.zero_le _, rfl, Lib.hid (fun j _ hj => absurd hj (Nat.not_lt_zero _))⟩
  case round =>
    obtain ⟨k, hk, rfl, Hok⟩ := hrel
    by_cases hlt : k < ss.length
    · have hsz := HZ.out _ (List.getElem_mem hlt)
      obtain ⟨b, off, rfl, hb, hc⟩ := RA.out.cells (by omega)
      have hck := hc k hlt
      clear hc
      obtain ⟨s, hs⟩ : ∃ s, ss[k] = s := ⟨_, rfl⟩
      have HS := Lib.hid hs
      rw [hs] at hck hsz
      clear hs
      by_cases h40 : 40 < s.size
      · have Hr := Lib.hid (show true = !fewB ss by unfold fewB; rw [any_yes hlt (by rw [HS.out]; exact decide_eq_true h40), Bool.not_true, Bool.and_false]; rfl)
        have h41 : (40 : Int) < (s.size : Int) := by omega
        go_wp2_with fail
        go_ret
        exact ⟨ret_bool Hr.out, rfl⟩
      · have Hx := Lib.hid (show ∀ j (hj : j < ss.length), j < k + 1 → longWord ss[j] = false from fun j hj hjk => by
          rcases Nat.lt_or_eq_of_le (Nat.le_of_lt_succ hjk) with h1 | h1
          · exact Hok.out j hj h1
          · subst h1; rw [HS.out]; exact decide_eq_false h40)
        have h41 : ¬ (40 : Int) < (s.size : Int) := by omega
        clear h40
        go_wp2_with fail
        go_round
        case rel => exact ⟨k + 1, by omega, by go_num, Hx⟩
        case measure => simp [intOf]; omega
    · obtain rfl : k = ss.length := by omega
      have Hr := Lib.hid (show decide (8 < ss.length) = !fewB ss by
        unfold fewB
        rw [any_no (fun j hj => Hok.out j hj hj), Bool.not_false, Bool.and_true, Bool.eq_iff_iff]
        simp)
      go_wp2_with fail
      go_ret
      exact ⟨ret_bool (by rw [← Hr.out]; first | rfl | (rw [Bool.eq_iff_iff]; simp; omega)), rfl⟩
end Go.Proofs.YtbdhmelebedpiaaDoor
