/- The reference's comparison of digits; which are too great. -/
import Derived.Test.YtbdhmelebedpiaaGreatDoorSemNumber
namespace Go.Proofs.YtbdhmelebedpiaaGreatDoor
open Go.RowKit

/-- Two texts of digits: the longer one is greater; else the first digit that differs tells. -/
def cmpT (a b : ByteArray) : Int := if a.size < b.size then -1 else if b.size < a.size then 1 else if Op.bytesLess a.toList b.toList = true then -1 else if (a.toList == b.toList) = true then 0 else 1
/-- Of two texts one is less, or they are one. -/
theorem less_tri (a : List UInt8) : ∀ (b : List UInt8), Op.bytesLess a b = false → Op.bytesLess b a = false → a = b := by
  induction a with
  | nil =>
    intro b h1 _
    match b, h1 with
    | [], _ => rfl
  | cons c r ih =>
    intro b h1 h2
    match b, h1, h2 with
    | d :: s, h1, h2 =>
      rw [Op.bytesLess, Bool.or_eq_false_iff, decide_eq_false_iff_not, UInt8.lt_iff_toNat_lt] at h1 h2
      have e : c = d := UInt8.toNat_inj.1 (by omega)
      subst e
      rw [beq_self_eq_true, Bool.true_and] at h1 h2
      rw [ih s h1.2 h2.2]
theorem less_irr (a : List UInt8) : Op.bytesLess a a = false := by
  induction a with
  | nil => rfl
  | cons c r ih => rw [Op.bytesLess, ih, Bool.and_false, Bool.or_false, decide_eq_false_iff_not, UInt8.lt_iff_toNat_lt]; omega
set_option maxHeartbeats 1000000 in
theorem cmp01_any (a b : ByteArray) (w : World) (_ha : a.size ≤ 9223372036854775807) (_hb : b.size ≤ 9223372036854775807) :
    Calls Tryz.prog 50 #[.string a, .string b] w fun e w' => e = .returned (.int .i64 (cmpT a b)) ∧ w = w' := by
  by_cases h1 : a.size < b.size
  · have Hr := Lib.hid (show cmpT a b = -1 by unfold cmpT; rw [if_pos h1])
    have h2 : ((a.size : Int) != (b.size : Int)) = true := by rw [bne_iff_ne]; omega
    go_enter Tryz.func50, Tryz.ntmps50
    go_wp2_with fail
    go_ret
    exact ⟨ret_int Hr.out.symm, rfl⟩
  by_cases h2 : b.size < a.size
  · have Hr := Lib.hid (show cmpT a b = 1 by unfold cmpT; rw [if_neg h1, if_pos h2])
    have h3 : ((a.size : Int) != (b.size : Int)) = true := by rw [bne_iff_ne]; omega
    go_enter Tryz.func50, Tryz.ntmps50
    go_wp2_with fail
    go_ret
    exact ⟨ret_int Hr.out.symm, rfl⟩
  have h3 : ((a.size : Int) != (b.size : Int)) = false := by rw [bne_eq_false_iff_eq]; omega
  have h4 : a.size = b.size := by omega
  have H4 := Lib.hid h4
  clear h4
  cases h5 : Op.bytesLess a.toList b.toList
  · cases h6 : (a.toList == b.toList)
    · have Hr := Lib.hid (show cmpT a b = 1 by unfold cmpT; rw [if_neg h1, if_neg h2, h5, h6]; rfl)
      go_enter Tryz.func50, Tryz.ntmps50
      go_wp2_with fail
      go_ret
      exact ⟨ret_int Hr.out.symm, rfl⟩
    · have Hr := Lib.hid (show cmpT a b = 0 by unfold cmpT; rw [if_neg h1, if_neg h2, h5, h6]; rfl)
      go_enter Tryz.func50, Tryz.ntmps50
      go_wp2_with fail
      go_ret
      exact ⟨ret_int Hr.out.symm, rfl⟩
  · have Hr := Lib.hid (show cmpT a b = -1 by unfold cmpT; rw [if_neg h1, if_neg h2, h5]; rfl)
    go_enter Tryz.func50, Tryz.ntmps50
    go_wp2_with fail
    go_ret
    exact ⟨ret_int Hr.out.symm, rfl⟩
/-- Of texts without noughts ahead it is the numbers' order. -/
theorem cmpT_val {a b : ByteArray} (ha : Lead a.toList) (hb : Lead b.toList) : cmpT a b = if valL 0 a.toList < valL 0 b.toList then -1 else if valL 0 b.toList < valL 0 a.toList then 1 else 0 := by
  have sa := size_list a
  have sb := size_list b
  unfold cmpT
  by_cases h1 : a.size < b.size
  · rw [if_pos h1, if_pos (lead_short ha hb (by omega))]
  by_cases h2 : b.size < a.size
  · have := lead_short hb ha (by omega)
    rw [if_neg h1, if_pos h2, if_neg (by omega), if_pos this]
  have l1 := valL_lex a.toList b.toList 0 (by omega) ha.1 hb.1
  have l2 := valL_lex b.toList a.toList 0 (by omega) hb.1 ha.1
  rw [if_neg h1, if_neg h2, l1]
  by_cases h3 : valL 0 a.toList < valL 0 b.toList
  · rw [decide_eq_true h3, if_pos h3]; rfl
  · rw [decide_eq_false h3] at l1 ⊢
    rw [if_neg h3]
    by_cases h4 : valL 0 b.toList < valL 0 a.toList
    · rw [if_pos h4]
      have hne : (a.toList == b.toList) = false := by rw [beq_eq_false_iff_ne]; intro e; rw [e] at h4; omega
      rw [hne]
      rfl
    · rw [decide_eq_false h4] at l2
      rw [if_neg h4, less_tri _ _ l1 l2, beq_self_eq_true]
      rfl
def maxS : ByteArray := ⟨#[57, 50, 50, 51, 51, 55, 50, 48, 51, 54, 56, 53, 52, 55, 55, 53, 56, 48, 55]⟩
theorem maxS_list : maxS.toList = [57, 50, 50, 51, 51, 55, 50, 48, 51, 54, 56, 53, 52, 55, 55, 53, 56, 48, 55] := by rw [ByteArray.toList_eq]; rfl
theorem maxS_val : valL 0 maxS.toList = 9223372036854775807 := by rw [maxS_list]; decide +kernel
theorem maxS_lead : Lead maxS.toList := by
  rw [maxS_list]
  refine ⟨by unfold DigL; decide +kernel, by decide, .inr fun c r e => ?_⟩
  have : c = 57 := by
    have := congrArg List.head? e
    simpa using this.symm
  rw [this]
  decide
def greatB (s : ByteArray) : Bool := numB s && decide (0 < cmpT s maxS)
theorem great_val {s : ByteArray} (h : isnumB s = true) : greatB s = decide (9223372036854775807 < valL 0 s.toList) := by
  have hn : numB s = true := by unfold isnumB at h; simp only [Bool.and_eq_true] at h; exact h.1
  unfold greatB
  rw [hn, Bool.true_and, cmpT_val (lead_of h) maxS_lead, maxS_val]
  by_cases h1 : valL 0 s.toList < 9223372036854775807
  · rw [if_pos h1, decide_eq_false (by omega), decide_eq_false (by omega)]
  · by_cases h2 : 9223372036854775807 < valL 0 s.toList
    · rw [if_neg h1, if_pos h2, decide_eq_true h2]; rfl
    · rw [if_neg h1, if_neg h2, decide_eq_false h2]; rfl
set_option maxHeartbeats 1000000 in
theorem great_any (s : ByteArray) (w : World) (hs : s.size ≤ 9223372036854775806) :
    Calls Tryz.prog 31 #[.string s] w fun e w' => e = .returned (.bool (greatB s)) ∧ w = w' := by
  have HN := Lib.hid (refNumeric_any s w hs)
  have HC := Lib.hid (cmp01_any s maxS w (by omega) (by decide))
  unfold greatB
  cases hn : numB s <;> rw [hn] at HN <;> clear hn
  · go_enter Tryz.func31, Tryz.ntmps31
    go_wp2_with fail
    refine HN.out.mono ?_
    rintro e w' ⟨rfl, rfl⟩
    go_wp2_with fail
    go_ret
    exact ⟨rfl, rfl⟩
  · generalize cmpT s maxS = c at *
    unfold maxS at HC
    go_enter Tryz.func31, Tryz.ntmps31
    go_wp2_with fail
    refine HN.out.mono ?_
    rintro e w' ⟨rfl, rfl⟩
    go_wp2_with fail
    refine HC.out.mono ?_
    rintro e w' ⟨rfl, rfl⟩
    go_wp2_with fail
    go_ret
    exact ⟨rfl, rfl⟩
/-- What number says of a word of digits without noughts ahead. -/
theorem numRes_val {s : ByteArray} (h : isnumB s = true) : (numRes s).2 = !greatB s ∧ (greatB s = false → (numRes s).1 = ((valL 0 s.toList : Nat) : Int)) := by
  have hl := lead_of h
  rw [great_val h]
  unfold numRes
  rw [← ByteArray.toList_eq, parseInt_dig s.toList hl.1 hl.2.1]
  by_cases h1 : valL 0 s.toList ≤ 9223372036854775807
  · rw [if_pos h1, decide_eq_false (by omega)]
    exact ⟨rfl, fun _ => rfl⟩
  · rw [if_neg h1, decide_eq_true (by omega)]
    exact ⟨rfl, fun e => by cases e⟩
end Go.Proofs.YtbdhmelebedpiaaGreatDoor
