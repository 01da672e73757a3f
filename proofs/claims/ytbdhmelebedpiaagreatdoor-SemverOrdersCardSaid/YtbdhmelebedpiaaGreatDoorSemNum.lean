/- Numbers' texts: the small functions of semver and of its reference. -/
import Derived.Test.YtbdhmelebedpiaaGreatDoorSemMath
namespace Go.Proofs.YtbdhmelebedpiaaGreatDoor
open Go.RowKit

theorem digL_of {s : ByteArray} (h : allB digC s = true) : DigL s.toList := by
  intro c hc
  rw [ByteArray.toList_eq] at hc
  obtain ⟨k, hk, rfl⟩ := List.getElem_of_mem hc
  have hk2 : k < s.size := by simpa using hk
  have h1 := of_decide_eq_true h k hk2
  rw [byteAt_eq hk2] at h1
  have h2 := of_decide_eq_true h1
  have e : s[k] = s.data.toList[k] := by rw [Array.getElem_toList]; rfl
  rw [← e]
  omega
theorem size_list (s : ByteArray) : s.toList.length = s.size := by
  rw [ByteArray.toList_eq, Array.length_toList]
  rfl
theorem lead_of {s : ByteArray} (h : isnumB s = true) : Lead s.toList := by
  unfold isnumB numB at h
  simp only [Bool.and_eq_true, Bool.or_eq_true, decide_eq_true_eq] at h
  obtain ⟨⟨h1, h2⟩, h3⟩ := h
  refine ⟨digL_of h1, by rw [size_list]; exact h2, ?_⟩
  rcases h3 with h3 | h3
  · exact .inl (by rw [size_list]; exact h3)
  · refine .inr fun c r e hc => h3 ?_
    rw [byteAt_eq h2]
    have e2 : s[0] = s.data.toList[0]'(by simpa using h2) := by rw [Array.getElem_toList]; rfl
    have e3 : s.data.toList[0]'(by simpa using h2) = c := by
      have : s.data.toList = c :: r := by rw [← ByteArray.toList_eq]; exact e
      simp [this]
    rw [e2, e3, hc]
    rfl
theorem first_list {s : ByteArray} (h : 0 < s.size) : ∃ r, s.toList = s[0] :: r ∧ r.length + 1 = s.size := by
  have e : s.data.toList.length = s.size := by rw [Array.length_toList]; rfl
  rw [ByteArray.toList_eq]
  match hl : s.data.toList, e with
  | [], e => simp at e; omega
  | c :: r, e =>
    refine ⟨r, ?_, by simpa using e⟩
    congr 1
    have e2 : s[0] = s.data.toList[0]'(by rw [hl]; simp) := by rw [Array.getElem_toList]; rfl
    rw [e2]
    simp [hl]
theorem isnum_zero {s : ByteArray} (hn : numB s = true) (h : s.toList = [48]) : isnumB s = true := by
  have hs : s.size = 1 := by rw [← size_list, h]; rfl
  unfold isnumB
  rw [hn, decide_eq_true hs]
  rfl
theorem isnum_other {s : ByteArray} (hn : numB s = true) (hp : 0 < s.size) (h : ¬ s.toList = [48]) : isnumB s = ((s[0].toNat : Int) != 48) := by
  obtain ⟨r, e, hr⟩ := first_list hp
  unfold isnumB
  rw [hn, Bool.true_and, byteAt_eq hp]
  by_cases h8 : (s[0].toNat : Int) = 48
  · have hs1 : ¬ s.size = 1 := fun h1 => h (by
      have : r = [] := List.eq_nil_of_length_eq_zero (by omega)
      rw [e, this, show s[0] = 48 from UInt8.toNat_inj.1 (by rw [show (48 : UInt8).toNat = 48 from rfl]; omega)])
    rw [decide_eq_false hs1, h8]
    rfl
  · rw [decide_eq_true h8, Bool.or_true]
    symm
    rw [bne_iff_ne]
    exact h8
set_option maxHeartbeats 1000000 in
theorem isNumber_any (s : ByteArray) (w : World) (hs : s.size ≤ 9223372036854775806) :
    Calls Tryz.prog 46 #[.string s] w fun e w' => e = .returned (.bool (isnumB s)) ∧ w = w' := by
  have HN := Lib.hid (numeric_any s w hs)
  cases hn : numB s
  · rw [hn] at HN
    have Hr := Lib.hid (show isnumB s = false by unfold isnumB; rw [hn]; rfl)
    clear hn
    go_enter Tryz.func46, Tryz.ntmps46
    go_wp2_with fail
    refine HN.out.mono ?_
    rintro e w' ⟨rfl, rfl⟩
    go_wp2_with fail
    go_ret
    exact ⟨ret_bool Hr.out.symm, rfl⟩
  · rw [hn] at HN
    have hsz : 0 < s.size := by
      unfold numB at hn
      simp only [Bool.and_eq_true, decide_eq_true_eq] at hn
      exact hn.2
    by_cases hz : s.toList = [48]
    · have Hr := Lib.hid (isnum_zero hn hz)
      have hz2 : (s.toList == [48]) = true := by rw [beq_iff_eq]; exact hz
      clear hn hz
      go_enter Tryz.func46, Tryz.ntmps46
      go_wp2_with fail
      refine HN.out.mono ?_
      rintro e w' ⟨rfl, rfl⟩
      go_wp2_with fail
      go_ret
      exact ⟨ret_bool Hr.out.symm, rfl⟩
    · have Hr := Lib.hid (isnum_other hn hsz hz)
      have hz2 : (s.toList == [48]) = false := by rw [beq_eq_false_iff_ne]; exact hz
      clear hn
      go_enter Tryz.func46, Tryz.ntmps46
      go_wp2_with fail
      refine HN.out.mono ?_
      rintro e w' ⟨rfl, rfl⟩
      go_wp2_with fail
      go_ret
      exact ⟨ret_bool (by rw [Hr.out]), rfl⟩
/-- The reference's number. -/
theorem refnumber_any (s : ByteArray) (w : World) (hs : s.size ≤ 9223372036854775806) :
    Calls Tryz.prog 30 #[.string s] w fun e w' => e = .returned (.bool (isnumB s)) ∧ w = w' := by
  have HN := Lib.hid (refNumeric_any s w hs)
  cases hn : numB s
  · rw [hn] at HN
    have Hr := Lib.hid (show isnumB s = false by unfold isnumB; rw [hn]; rfl)
    clear hn
    go_enter Tryz.func30, Tryz.ntmps30
    go_wp2_with fail
    refine HN.out.mono ?_
    rintro e w' ⟨rfl, rfl⟩
    go_wp2_with fail
    go_ret
    exact ⟨ret_bool Hr.out.symm, rfl⟩
  · rw [hn] at HN
    have hsz : 0 < s.size := by
      unfold numB at hn
      simp only [Bool.and_eq_true, decide_eq_true_eq] at hn
      exact hn.2
    have Hr := Lib.hid (show isnumB s = (decide (s.size = 1) || ((s[0].toNat : Int) != 48)) by
      unfold isnumB
      rw [hn, Bool.true_and, byteAt_eq hsz]
      congr 1
      rw [Bool.eq_iff_iff, bne_iff_ne, decide_eq_true_iff])
    clear hn
    by_cases h1 : s.size = 1
    · have h2 : ((s.size : Int) == 1) = true := by rw [beq_iff_eq]; omega
      have Hr2 := Lib.hid (show isnumB s = true by rw [Hr.out, decide_eq_true h1]; rfl)
      clear h1 Hr
      go_enter Tryz.func30, Tryz.ntmps30
      go_wp2_with fail
      refine HN.out.mono ?_
      rintro e w' ⟨rfl, rfl⟩
      go_wp2_with fail
      go_ret
      exact ⟨ret_bool Hr2.out.symm, rfl⟩
    · have h2 : ((s.size : Int) == 1) = false := by rw [beq_eq_false_iff_ne]; omega
      have Hr2 := Lib.hid (show isnumB s = ((s[0].toNat : Int) != 48) by rw [Hr.out, decide_eq_false h1]; rfl)
      clear h1 Hr
      go_enter Tryz.func30, Tryz.ntmps30
      go_wp2_with fail
      refine HN.out.mono ?_
      rintro e w' ⟨rfl, rfl⟩
      go_wp2_with fail
      go_ret
      exact ⟨ret_bool (by rw [Hr2.out]), rfl⟩
/-- A word that may be one of a pre-release's, whatever its size. -/
def preB (s : ByteArray) : Bool := !numB s || isnumB s
theorem rightPre_any (s : ByteArray) (w : World) (hs : s.size ≤ 9223372036854775806) :
    Calls Tryz.prog 23 #[.string s] w fun e w' => e = .returned (.bool (preB s)) ∧ w = w' := by
  have HN := Lib.hid (numeric_any s w hs)
  have HI := Lib.hid (isNumber_any s w hs)
  unfold preB
  cases hn : numB s <;> rw [hn] at HN <;> clear hn
  · go_enter Tryz.func23, Tryz.ntmps23
    go_wp2_with fail
    refine HN.out.mono ?_
    rintro e w' ⟨rfl, rfl⟩
    go_wp2_with fail
    go_ret
    exact ⟨rfl, rfl⟩
  · go_enter Tryz.func23, Tryz.ntmps23
    go_wp2_with fail
    refine HN.out.mono ?_
    rintro e w' ⟨rfl, rfl⟩
    go_wp2_with fail
    refine HI.out.mono ?_
    rintro e w' ⟨rfl, rfl⟩
    go_wp2_with fail
    go_ret
    exact ⟨rfl, rfl⟩
end Go.Proofs.YtbdhmelebedpiaaGreatDoor
