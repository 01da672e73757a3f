/- Rows of words; which of them are so. -/
import Derived.Test.YtbdhmelebedpiaaGreatDoorSemGreat
namespace Go.Proofs.YtbdhmelebedpiaaGreatDoor
open Go.RowKit

/-- A row of texts in memory. -/
def SRow (w : World) (ao : Option Addr) (ss : List ByteArray) : Prop :=
  ss = [] ∨ ∃ b off, ao = some ⟨b, off, none⟩ ∧ b < w.heap.size ∧ ∀ i (h : i < ss.length), w.cell? ⟨b, off + i, none⟩ = some (.string ss[i])
theorem SRow.below {w w' : World} {ao : Option Addr} {ss : List ByteArray} (h : SRow w ao ss) (hb : Below w.heap.size w w') : SRow w' ao ss := by
  rcases h with h | ⟨b, off, h1, h2, h3⟩
  · exact .inl h
  · exact .inr ⟨b, off, h1, Nat.lt_of_lt_of_le h2 hb.size, fun i hi => by rw [hb.cell (p := ⟨b, off + i, none⟩) h2]; exact h3 i hi⟩
theorem SRow.cells {w : World} {ao : Option Addr} {ss : List ByteArray} (h : SRow w ao ss) (hn : 0 < ss.length) : ∃ b off, ao = some ⟨b, off, none⟩ ∧ b < w.heap.size ∧ ∀ i (h : i < ss.length), w.cell? ⟨b, off + i, none⟩ = some (.string ss[i]) := by
  rcases h with h | h
  · rw [h] at hn; exact absurd hn (by simp)
  · exact h
def badWord (s : ByteArray) : Bool := !wordB s
def longWord (s : ByteArray) : Bool := decide (40 < s.size)
def badNum (s : ByteArray) : Bool := !isnumB s
def badPre (s : ByteArray) : Bool := (!wordB s || !preB s)
theorem any_yes {p : ByteArray → Bool} {ss : List ByteArray} {k : Nat} (h : k < ss.length) (hp : p ss[k] = true) : ss.any p = true := List.any_eq_true.2 ⟨_, List.getElem_mem h, hp⟩
theorem any_no {p : ByteArray → Bool} {ss : List ByteArray} (h : ∀ j (hj : j < ss.length), p ss[j] = false) : ss.any p = false := by
  rw [Bool.eq_false_iff]
  intro ha
  obtain ⟨x, hx, hp⟩ := List.any_eq_true.1 ha
  obtain ⟨j, hj, rfl⟩ := List.getElem_of_mem hx
  rw [h j hj] at hp
  cases hp
set_option maxHeartbeats 1000000 in
theorem closW_any (s : ByteArray) (w : World) (hs : s.size ≤ 9223372036854775806) :
    Calls Tryz.prog 27 #[.string s] w fun e w' => e = .returned (.bool (badWord s)) ∧ w = w' := by
  have HW := Lib.hid (isWord_any s w hs)
  unfold badWord
  go_enter Tryz.func27, Tryz.ntmps27
  go_wp2_with fail
  refine HW.out.mono ?_
  rintro e w' ⟨rfl, rfl⟩
  go_wp2_with fail
  go_ret
  exact ⟨rfl, rfl⟩
set_option maxHeartbeats 1000000 in
theorem closL_any (s : ByteArray) (w : World) (_hs : s.size ≤ 9223372036854775806) :
    Calls Tryz.prog 44 #[.string s] w fun e w' => e = .returned (.bool (longWord s)) ∧ w = w' := by
  unfold longWord
  go_enter Tryz.func44, Tryz.ntmps44
  go_wp2_with fail
  go_ret
  exact ⟨ret_bool (by rw [Bool.eq_iff_iff]; simp; try omega), rfl⟩
set_option maxHeartbeats 1000000 in
theorem closN_any (s : ByteArray) (w : World) (hs : s.size ≤ 9223372036854775806) :
    Calls Tryz.prog 59 #[.string s] w fun e w' => e = .returned (.bool (badNum s)) ∧ w = w' := by
  have HW := Lib.hid (isNumber_any s w hs)
  unfold badNum
  go_enter Tryz.func59, Tryz.ntmps59
  go_wp2_with fail
  refine HW.out.mono ?_
  rintro e w' ⟨rfl, rfl⟩
  go_wp2_with fail
  go_ret
  exact ⟨rfl, rfl⟩
set_option maxHeartbeats 1000000 in
theorem closP_any (s : ByteArray) (w : World) (hs : s.size ≤ 9223372036854775806) :
    Calls Tryz.prog 60 #[.string s] w fun e w' => e = .returned (.bool (badPre s)) ∧ w = w' := by
  have HW := Lib.hid (isWord_any s w hs)
  have HP := Lib.hid (rightPre_any s w hs)
  unfold badPre
  cases hw : wordB s <;> rw [hw] at HW <;> clear hw
  · go_enter Tryz.func60, Tryz.ntmps60
    go_wp2_with fail
    refine HW.out.mono ?_
    rintro e w' ⟨rfl, rfl⟩
    go_wp2_with fail
    go_ret
    exact ⟨rfl, rfl⟩
  · go_enter Tryz.func60, Tryz.ntmps60
    go_wp2_with fail
    refine HW.out.mono ?_
    rintro e w' ⟨rfl, rfl⟩
    go_wp2_with fail
    refine HP.out.mono ?_
    rintro e w' ⟨rfl, rfl⟩
    go_wp2_with fail
    go_ret
    exact ⟨rfl, rfl⟩
set_option maxHeartbeats 1000000 in
theorem closW3_any (s : ByteArray) (w : World) (hs : s.size ≤ 9223372036854775806) :
    Calls Tryz.prog 61 #[.string s] w fun e w' => e = .returned (.bool (badWord s)) ∧ w = w' := by
  have HW := Lib.hid (isWord_any s w hs)
  unfold badWord
  go_enter Tryz.func61, Tryz.ntmps61
  go_wp2_with fail
  refine HW.out.mono ?_
  rintro e w' ⟨rfl, rfl⟩
  go_wp2_with fail
  go_ret
  exact ⟨rfl, rfl⟩
set_option maxHeartbeats 2000000 in
theorem indexW_any (ao : Option Addr) (cap : Nat) (ss : List ByteArray) (w : World) (hr : SRow w ao ss) (hz : ∀ s ∈ ss, s.size ≤ 9223372036854775806) (hl : ss.length ≤ 1000000) :
    Calls Tryz.prog 48 #[.slice ao ss.length cap, .func (.func 27) #[] #[]] w fun e w' => (∃ i : Int, e = .returned (.int .i64 i) ∧ decide (0 ≤ i) = ss.any badWord) ∧ w = w' := by
  have Hr := Lib.hid hr
  have Hz := Lib.hid hz
  clear hr hz
  obtain ⟨L, hL⟩ : ∃ L, ss.length = L := ⟨_, rfl⟩
  have HL := Lib.hid hL
  rw [hL] at hl ⊢
  clear hL
  go_enter Tryz.func48, Tryz.ntmps48
  go_wp2_with fail
  go_loopw [8] (fun i wr => ∃ k : Nat, k ≤ L ∧ i = .int .i64 k ∧ Hid (∀ j (hj : j < ss.length), j < k → badWord ss[j] = false) ∧ wr = w) (fun i _ => L - (intOf i).toNat)
  case atStart => exact ⟨0, Nat.zero_le _, rfl, Lib.hid (fun j _ hj => absurd hj (Nat.not_lt_zero _)), rfl⟩
  case round =>
    obtain ⟨k, hk, rfl, Hno, rfl⟩ := hrel
    by_cases hkL : k < L
    · have hks : k < ss.length := by rw [HL.out]; exact hkL
      obtain ⟨b, off, rfl, -, hc⟩ := Hr.out.cells (by omega)
      have hck := hc k hks
      clear hc
      have HC := Lib.hid (closW_any ss[k] wr (Hz.out _ (List.getElem_mem hks)))
      obtain ⟨s, hs⟩ : ∃ s, ss[k] = s := ⟨_, rfl⟩
      rw [hs] at hck HC
      cases hp : badWord s <;> rw [hp] at HC
      · have Hno2 := Lib.hid (show ∀ j (hj : j < ss.length), j < k + 1 → badWord ss[j] = false from fun j hj hjk => by
          rcases Nat.lt_or_eq_of_le (Nat.le_of_lt_succ hjk) with h1 | h1
          · exact Hno.out j hj h1
          · subst h1; rw [hs]; exact hp)
        clear hs hp
        go_wp2_with fail
        refine HC.out.mono ?_
        rintro e w' ⟨rfl, rfl⟩
        go_wp2_with fail
        go_roundw
        case rel => exact ⟨k + 1, by omega, by go_num, Hno2, by first | rfl | trivial⟩
        case measure => simp [intOf]; omega
      · have Hn := Lib.hid (show decide ((0 : Int) ≤ (k : Int)) = ss.any badWord by rw [decide_eq_true (by omega), any_yes hks (by rw [hs]; exact hp)])
        clear hs hp
        go_wp2_with fail
        refine HC.out.mono ?_
        rintro e w' ⟨rfl, rfl⟩
        go_wp2_with fail
        go_ret
        exact ⟨⟨_, rfl, Hn.out⟩, rfl⟩
    · obtain rfl : k = L := by omega
      have Hn := Lib.hid (show decide ((0 : Int) ≤ -1) = ss.any badWord by rw [decide_eq_false (by omega), any_no (fun j hj => Hno.out j hj (by rw [← HL.out]; exact hj))])
      go_wp2_with fail
      go_ret
      exact ⟨⟨_, rfl, Hn.out⟩, rfl⟩
theorem containsW_any (ao : Option Addr) (cap : Nat) (ss : List ByteArray) (w : World) (hr : SRow w ao ss) (hz : ∀ s ∈ ss, s.size ≤ 9223372036854775806) (hl : ss.length ≤ 1000000) :
    Calls Tryz.prog 26 #[.slice ao ss.length cap, .func (.func 27) #[] #[]] w fun e w' => e = .returned (.bool (ss.any badWord)) ∧ w = w' := by
  have HI := Lib.hid (indexW_any ao cap ss w hr hz hl)
  generalize ss.any badWord = r at *
  clear hr hz
  go_enter Tryz.func26, Tryz.ntmps26
  go_wp2_with fail
  refine HI.out.mono ?_
  rintro e w' ⟨⟨i, rfl, hi⟩, rfl⟩
  go_wp2_with fail
  go_ret
  exact ⟨rfl, rfl⟩
set_option maxHeartbeats 2000000 in
theorem indexL_any (ao : Option Addr) (cap : Nat) (ss : List ByteArray) (w : World) (hr : SRow w ao ss) (hz : ∀ s ∈ ss, s.size ≤ 9223372036854775806) (hl : ss.length ≤ 1000000) :
    Calls Tryz.prog 48 #[.slice ao ss.length cap, .func (.func 44) #[] #[]] w fun e w' => (∃ i : Int, e = .returned (.int .i64 i) ∧ decide (0 ≤ i) = ss.any longWord) ∧ w = w' := by
  have Hr := Lib.hid hr
  have Hz := Lib.hid hz
  clear hr hz
  obtain ⟨L, hL⟩ : ∃ L, ss.length = L := ⟨_, rfl⟩
  have HL := Lib.hid hL
  rw [hL] at hl ⊢
  clear hL
  go_enter Tryz.func48, Tryz.ntmps48
  go_wp2_with fail
  go_loopw [8] (fun i wr => ∃ k : Nat, k ≤ L ∧ i = .int .i64 k ∧ Hid (∀ j (hj : j < ss.length), j < k → longWord ss[j] = false) ∧ wr = w) (fun i _ => L - (intOf i).toNat)
  case atStart => exact ⟨0, Nat.zero_le _, rfl, Lib.hid (fun j _ hj => absurd hj (Nat.not_lt_zero _)), rfl⟩
  case round =>
    obtain ⟨k, hk, rfl, Hno, rfl⟩ := hrel
    by_cases hkL : k < L
    · have hks : k < ss.length := by rw [HL.out]; exact hkL
      obtain ⟨b, off, rfl, -, hc⟩ := Hr.out.cells (by omega)
      have hck := hc k hks
      clear hc
      have HC := Lib.hid (closL_any ss[k] wr (Hz.out _ (List.getElem_mem hks)))
      obtain ⟨s, hs⟩ : ∃ s, ss[k] = s := ⟨_, rfl⟩
      rw [hs] at hck HC
      cases hp : longWord s <;> rw [hp] at HC
      · have Hno2 := Lib.hid (show ∀ j (hj : j < ss.length), j < k + 1 → longWord ss[j] = false from fun j hj hjk => by
          rcases Nat.lt_or_eq_of_le (Nat.le_of_lt_succ hjk) with h1 | h1
          · exact Hno.out j hj h1
          · subst h1; rw [hs]; exact hp)
        clear hs hp
        go_wp2_with fail
        refine HC.out.mono ?_
        rintro e w' ⟨rfl, rfl⟩
        go_wp2_with fail
        go_roundw
        case rel => exact ⟨k + 1, by omega, by go_num, Hno2, by first | rfl | trivial⟩
        case measure => simp [intOf]; omega
      · have Hn := Lib.hid (show decide ((0 : Int) ≤ (k : Int)) = ss.any longWord by rw [decide_eq_true (by omega), any_yes hks (by rw [hs]; exact hp)])
        clear hs hp
        go_wp2_with fail
        refine HC.out.mono ?_
        rintro e w' ⟨rfl, rfl⟩
        go_wp2_with fail
        go_ret
        exact ⟨⟨_, rfl, Hn.out⟩, rfl⟩
    · obtain rfl : k = L := by omega
      have Hn := Lib.hid (show decide ((0 : Int) ≤ -1) = ss.any longWord by rw [decide_eq_false (by omega), any_no (fun j hj => Hno.out j hj (by rw [← HL.out]; exact hj))])
      go_wp2_with fail
      go_ret
      exact ⟨⟨_, rfl, Hn.out⟩, rfl⟩
theorem containsL_any (ao : Option Addr) (cap : Nat) (ss : List ByteArray) (w : World) (hr : SRow w ao ss) (hz : ∀ s ∈ ss, s.size ≤ 9223372036854775806) (hl : ss.length ≤ 1000000) :
    Calls Tryz.prog 26 #[.slice ao ss.length cap, .func (.func 44) #[] #[]] w fun e w' => e = .returned (.bool (ss.any longWord)) ∧ w = w' := by
  have HI := Lib.hid (indexL_any ao cap ss w hr hz hl)
  generalize ss.any longWord = r at *
  clear hr hz
  go_enter Tryz.func26, Tryz.ntmps26
  go_wp2_with fail
  refine HI.out.mono ?_
  rintro e w' ⟨⟨i, rfl, hi⟩, rfl⟩
  go_wp2_with fail
  go_ret
  exact ⟨rfl, rfl⟩
set_option maxHeartbeats 2000000 in
theorem indexN_any (ao : Option Addr) (cap : Nat) (ss : List ByteArray) (w : World) (hr : SRow w ao ss) (hz : ∀ s ∈ ss, s.size ≤ 9223372036854775806) (hl : ss.length ≤ 1000000) :
    Calls Tryz.prog 48 #[.slice ao ss.length cap, .func (.func 59) #[] #[]] w fun e w' => (∃ i : Int, e = .returned (.int .i64 i) ∧ decide (0 ≤ i) = ss.any badNum) ∧ w = w' := by
  have Hr := Lib.hid hr
  have Hz := Lib.hid hz
  clear hr hz
  obtain ⟨L, hL⟩ : ∃ L, ss.length = L := ⟨_, rfl⟩
  have HL := Lib.hid hL
  rw [hL] at hl ⊢
  clear hL
  go_enter Tryz.func48, Tryz.ntmps48
  go_wp2_with fail
  go_loopw [8] (fun i wr => ∃ k : Nat, k ≤ L ∧ i = .int .i64 k ∧ Hid (∀ j (hj : j < ss.length), j < k → badNum ss[j] = false) ∧ wr = w) (fun i _ => L - (intOf i).toNat)
  case atStart => exact ⟨0, Nat.zero_le _, rfl, Lib.hid (fun j _ hj => absurd hj (Nat.not_lt_zero _)), rfl⟩
  case round =>
    obtain ⟨k, hk, rfl, Hno, rfl⟩ := hrel
    by_cases hkL : k < L
    · have hks : k < ss.length := by rw [HL.out]; exact hkL
      obtain ⟨b, off, rfl, -, hc⟩ := Hr.out.cells (by omega)
      have hck := hc k hks
      clear hc
      have HC := Lib.hid (closN_any ss[k] wr (Hz.out _ (List.getElem_mem hks)))
      obtain ⟨s, hs⟩ : ∃ s, ss[k] = s := ⟨_, rfl⟩
      rw [hs] at hck HC
      cases hp : badNum s <;> rw [hp] at HC
      · have Hno2 := Lib.hid (show ∀ j (hj : j < ss.length), j < k + 1 → badNum ss[j] = false from fun j hj hjk => by
          rcases Nat.lt_or_eq_of_le (Nat.le_of_lt_succ hjk) with h1 | h1
          · exact Hno.out j hj h1
          · subst h1; rw [hs]; exact hp)
        clear hs hp
        go_wp2_with fail
        refine HC.out.mono ?_
        rintro e w' ⟨rfl, rfl⟩
        go_wp2_with fail
        go_roundw
        case rel => exact ⟨k + 1, by omega, by go_num, Hno2, by first | rfl | trivial⟩
        case measure => simp [intOf]; omega
      · have Hn := Lib.hid (show decide ((0 : Int) ≤ (k : Int)) = ss.any badNum by rw [decide_eq_true (by omega), any_yes hks (by rw [hs]; exact hp)])
        clear hs hp
        go_wp2_with fail
        refine HC.out.mono ?_
        rintro e w' ⟨rfl, rfl⟩
        go_wp2_with fail
        go_ret
        exact ⟨⟨_, rfl, Hn.out⟩, rfl⟩
    · obtain rfl : k = L := by omega
      have Hn := Lib.hid (show decide ((0 : Int) ≤ -1) = ss.any badNum by rw [decide_eq_false (by omega), any_no (fun j hj => Hno.out j hj (by rw [← HL.out]; exact hj))])
      go_wp2_with fail
      go_ret
      exact ⟨⟨_, rfl, Hn.out⟩, rfl⟩
theorem containsN_any (ao : Option Addr) (cap : Nat) (ss : List ByteArray) (w : World) (hr : SRow w ao ss) (hz : ∀ s ∈ ss, s.size ≤ 9223372036854775806) (hl : ss.length ≤ 1000000) :
    Calls Tryz.prog 26 #[.slice ao ss.length cap, .func (.func 59) #[] #[]] w fun e w' => e = .returned (.bool (ss.any badNum)) ∧ w = w' := by
  have HI := Lib.hid (indexN_any ao cap ss w hr hz hl)
  generalize ss.any badNum = r at *
  clear hr hz
  go_enter Tryz.func26, Tryz.ntmps26
  go_wp2_with fail
  refine HI.out.mono ?_
  rintro e w' ⟨⟨i, rfl, hi⟩, rfl⟩
  go_wp2_with fail
  go_ret
  exact ⟨rfl, rfl⟩
set_option maxHeartbeats 2000000 in
theorem indexP_any (ao : Option Addr) (cap : Nat) (ss : List ByteArray) (w : World) (hr : SRow w ao ss) (hz : ∀ s ∈ ss, s.size ≤ 9223372036854775806) (hl : ss.length ≤ 1000000) :
    Calls Tryz.prog 48 #[.slice ao ss.length cap, .func (.func 60) #[] #[]] w fun e w' => (∃ i : Int, e = .returned (.int .i64 i) ∧ decide (0 ≤ i) = ss.any badPre) ∧ w = w' := by
  have Hr := Lib.hid hr
  have Hz := Lib.hid hz
  clear hr hz
  obtain ⟨L, hL⟩ : ∃ L, ss.length = L := ⟨_, rfl⟩
  have HL := Lib.hid hL
  rw [hL] at hl ⊢
  clear hL
  go_enter Tryz.func48, Tryz.ntmps48
  go_wp2_with fail
  go_loopw [8] (fun i wr => ∃ k : Nat, k ≤ L ∧ i = .int .i64 k ∧ Hid (∀ j (hj : j < ss.length), j < k → badPre ss[j] = false) ∧ wr = w) (fun i _ => L - (intOf i).toNat)
  case atStart => exact ⟨0, Nat.zero_le _, rfl, Lib.hid (fun j _ hj => absurd hj (Nat.not_lt_zero _)), rfl⟩
  case round =>
    obtain ⟨k, hk, rfl, Hno, rfl⟩ := hrel
    by_cases hkL : k < L
    · have hks : k < ss.length := by rw [HL.out]; exact hkL
      obtain ⟨b, off, rfl, -, hc⟩ := Hr.out.cells (by omega)
      have hck := hc k hks
      clear hc
      have HC := Lib.hid (closP_any ss[k] wr (Hz.out _ (List.getElem_mem hks)))
      obtain ⟨s, hs⟩ : ∃ s, ss[k] = s := ⟨_, rfl⟩
      rw [hs] at hck HC
      cases hp : badPre s <;> rw [hp] at HC
      · have Hno2 := Lib.hid (show ∀ j (hj : j < ss.length), j < k + 1 → badPre ss[j] = false from fun j hj hjk => by
          rcases Nat.lt_or_eq_of_le (Nat.le_of_lt_succ hjk) with h1 | h1
          · exact Hno.out j hj h1
          · subst h1; rw [hs]; exact hp)
        clear hs hp
        go_wp2_with fail
        refine HC.out.mono ?_
        rintro e w' ⟨rfl, rfl⟩
        go_wp2_with fail
        go_roundw
        case rel => exact ⟨k + 1, by omega, by go_num, Hno2, by first | rfl | trivial⟩
        case measure => simp [intOf]; omega
      · have Hn := Lib.hid (show decide ((0 : Int) ≤ (k : Int)) = ss.any badPre by rw [decide_eq_true (by omega), any_yes hks (by rw [hs]; exact hp)])
        clear hs hp
        go_wp2_with fail
        refine HC.out.mono ?_
        rintro e w' ⟨rfl, rfl⟩
        go_wp2_with fail
        go_ret
        exact ⟨⟨_, rfl, Hn.out⟩, rfl⟩
    · obtain rfl : k = L := by omega
      have Hn := Lib.hid (show decide ((0 : Int) ≤ -1) = ss.any badPre by rw [decide_eq_false (by omega), any_no (fun j hj => Hno.out j hj (by rw [← HL.out]; exact hj))])
      go_wp2_with fail
      go_ret
      exact ⟨⟨_, rfl, Hn.out⟩, rfl⟩
theorem containsP_any (ao : Option Addr) (cap : Nat) (ss : List ByteArray) (w : World) (hr : SRow w ao ss) (hz : ∀ s ∈ ss, s.size ≤ 9223372036854775806) (hl : ss.length ≤ 1000000) :
    Calls Tryz.prog 26 #[.slice ao ss.length cap, .func (.func 60) #[] #[]] w fun e w' => e = .returned (.bool (ss.any badPre)) ∧ w = w' := by
  have HI := Lib.hid (indexP_any ao cap ss w hr hz hl)
  generalize ss.any badPre = r at *
  clear hr hz
  go_enter Tryz.func26, Tryz.ntmps26
  go_wp2_with fail
  refine HI.out.mono ?_
  rintro e w' ⟨⟨i, rfl, hi⟩, rfl⟩
  go_wp2_with fail
  go_ret
  exact ⟨rfl, rfl⟩
set_option maxHeartbeats 2000000 in
theorem indexW3_any (ao : Option Addr) (cap : Nat) (ss : List ByteArray) (w : World) (hr : SRow w ao ss) (hz : ∀ s ∈ ss, s.size ≤ 9223372036854775806) (hl : ss.length ≤ 1000000) :
    Calls Tryz.prog 48 #[.slice ao ss.length cap, .func (.func 61) #[] #[]] w fun e w' => (∃ i : Int, e = .returned (.int .i64 i) ∧ decide (0 ≤ i) = ss.any badWord) ∧ w = w' := by
  have Hr := Lib.hid hr
  have Hz := Lib.hid hz
  clear hr hz
  obtain ⟨L, hL⟩ : ∃ L, ss.length = L := ⟨_, rfl⟩
  have HL := Lib.hid hL
  rw [hL] at hl ⊢
  clear hL
  go_enter Tryz.func48, Tryz.ntmps48
  go_wp2_with fail
  go_loopw [8] (fun i wr => ∃ k : Nat, k ≤ L ∧ i = .int .i64 k ∧ Hid (∀ j (hj : j < ss.length), j < k → badWord ss[j] = false) ∧ wr = w) (fun i _ => L - (intOf i).toNat)
  case atStart => exact ⟨0, Nat.zero_le _, rfl, Lib.hid (fun j _ hj => absurd hj (Nat.not_lt_zero _)), rfl⟩
  case round =>
    obtain ⟨k, hk, rfl, Hno, rfl⟩ := hrel
    by_cases hkL : k < L
    · have hks : k < ss.length := by rw [HL.out]; exact hkL
      obtain ⟨b, off, rfl, -, hc⟩ := Hr.out.cells (by omega)
      have hck := hc k hks
      clear hc
      have HC := Lib.hid (closW3_any ss[k] wr (Hz.out _ (List.getElem_mem hks)))
      obtain ⟨s, hs⟩ : ∃ s, ss[k] = s := ⟨_, rfl⟩
      rw [hs] at hck HC
      cases hp : badWord s <;> rw [hp] at HC
      · have Hno2 := Lib.hid (show ∀ j (hj : j < ss.length), j < k + 1 → badWord ss[j] = false from fun j hj hjk => by
          rcases Nat.lt_or_eq_of_le (Nat.le_of_lt_succ hjk) with h1 | h1
          · exact Hno.out j hj h1
          · subst h1; rw [hs]; exact hp)
        clear hs hp
        go_wp2_with fail
        refine HC.out.mono ?_
        rintro e w' ⟨rfl, rfl⟩
        go_wp2_with fail
        go_roundw
        case rel => exact ⟨k + 1, by omega, by go_num, Hno2, by first | rfl | trivial⟩
        case measure => simp [intOf]; omega
      · have Hn := Lib.hid (show decide ((0 : Int) ≤ (k : Int)) = ss.any badWord by rw [decide_eq_true (by omega), any_yes hks (by rw [hs]; exact hp)])
        clear hs hp
        go_wp2_with fail
        refine HC.out.mono ?_
        rintro e w' ⟨rfl, rfl⟩
        go_wp2_with fail
        go_ret
        exact ⟨⟨_, rfl, Hn.out⟩, rfl⟩
    · obtain rfl : k = L := by omega
      have Hn := Lib.hid (show decide ((0 : Int) ≤ -1) = ss.any badWord by rw [decide_eq_false (by omega), any_no (fun j hj => Hno.out j hj (by rw [← HL.out]; exact hj))])
      go_wp2_with fail
      go_ret
      exact ⟨⟨_, rfl, Hn.out⟩, rfl⟩
theorem containsW3_any (ao : Option Addr) (cap : Nat) (ss : List ByteArray) (w : World) (hr : SRow w ao ss) (hz : ∀ s ∈ ss, s.size ≤ 9223372036854775806) (hl : ss.length ≤ 1000000) :
    Calls Tryz.prog 26 #[.slice ao ss.length cap, .func (.func 61) #[] #[]] w fun e w' => e = .returned (.bool (ss.any badWord)) ∧ w = w' := by
  have HI := Lib.hid (indexW3_any ao cap ss w hr hz hl)
  generalize ss.any badWord = r at *
  clear hr hz
  go_enter Tryz.func26, Tryz.ntmps26
  go_wp2_with fail
  refine HI.out.mono ?_
  rintro e w' ⟨⟨i, rfl, hi⟩, rfl⟩
  go_wp2_with fail
  go_ret
  exact ⟨rfl, rfl⟩
/-- Neither too many nor too long. -/
def fewB (ss : List ByteArray) : Bool := decide (ss.length ≤ 8) && !ss.any longWord
set_option maxHeartbeats 1000000 in
theorem fewWords_any (ao : Option Addr) (cap : Nat) (ss : List ByteArray) (w : World) (hr : SRow w ao ss) (hz : ∀ s ∈ ss, s.size ≤ 9223372036854775806) (hl : ss.length ≤ 1000000) :
    Calls Tryz.prog 21 #[.slice ao ss.length cap] w fun e w' => e = .returned (.bool (fewB ss)) ∧ w = w' := by
  have HI := Lib.hid (containsL_any ao cap ss w hr hz hl)
  unfold fewB
  generalize ss.any longWord = r at *
  generalize ss.length = L at *
  clear hr hz
  by_cases h8 : L ≤ 8
  · have h9 : (L : Int) ≤ 8 := by omega
    rw [decide_eq_true h8]
    clear h8
    go_enter Tryz.func21, Tryz.ntmps21
    go_wp2_with fail
    refine HI.out.mono ?_
    rintro e w' ⟨rfl, rfl⟩
    go_wp2_with fail
    go_ret
    exact ⟨rfl, rfl⟩
  · have h9 : decide (L ≤ 8) = false := decide_eq_false h8
    have h10 : decide ((L : Int) ≤ 8) = false := decide_eq_false (by omega)
    rw [h9]
    clear h8 HI
    go_enter Tryz.func21, Tryz.ntmps21
    go_wp2_with fail
    go_ret
    exact ⟨rfl, rfl⟩
end Go.Proofs.YtbdhmelebedpiaaGreatDoor
