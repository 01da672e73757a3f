import Derived.Test.YtkmnfkhchcoamaaGreatDoorSrcBase
/- Contracts: the document's own answer for names; which names are seen from without. -/
namespace Go.Proofs.YtkmnfkhchcoamaaGreatDoor
open Go.RowKit

set_option maxHeartbeats 400000 in
theorem refName_any (s : ByteArray) (w : World) (hs : s.size ≤ 9223372036854775807) :
    Calls Tryz.prog 47 #[.string s] w fun e w' => e = .returned (.bool (nameB s)) ∧ w = w' := by
  go_enter Tryz.func47, Tryz.ntmps47
  go_wp2_with fail
  go_loop [3, 4] (fun i _ => ∃ k : Nat, k ≤ s.size ∧ i = .int .i64 k ∧ OkTo s k ∧ (0 < k → letB (byteAt s 0) = true)) (fun i _ => s.size - (intOf i).toNat)
  case atStart => exact ⟨0, Nat.zero_le _, rfl, fun j hj => absurd hj (Nat.not_lt_zero _), fun h => absurd h (Nat.lt_irrefl _)⟩
  case round =>
    obtain ⟨k, hk, rfl, hok, hfst⟩ := hrel
    by_cases hlt : k < s.size
    · have hb := byteAt_eq hlt
      have dig : ∀ c : Int, digB c = decide (48 ≤ c ∧ c ≤ 57) := fun _ => rfl
      cases hl : letB (s[k].toNat : Int)
      · by_cases hd : 48 ≤ (s[k].toNat : Int) ∧ (s[k].toNat : Int) ≤ 57
        · by_cases hk0 : k = 0
          · subst hk0
            have hn := Lib.hid (nameB_no s (by intro ⟨_, _, h⟩; rw [hb, hl] at h; cases h))
            obtain ⟨hd1, hd2⟩ := hd
            have Hb := Lib.hid hb
            clear hb dig hfst hok
            go_wp2_with (go_at_call 67; refine (refLetter_any _ _).mono ?_; rintro e w' ⟨rfl, rfl⟩)
            go_ret
            exact ⟨ret_bool hn.out.symm, rfl⟩
          · have hnx := okTo_succ hok (by rw [hb, inB, dig]; simp [hd])
            have hf := hfst (by omega)
            obtain ⟨hd1, hd2⟩ := hd
            have hk1 : ((k : Int) == 0) = false := by simpa using hk0
            have Hb := Lib.hid hb
            have Hf := Lib.hid hf
            clear hb dig hfst hok hf
            go_wp2_with (go_at_call 67; refine (refLetter_any _ _).mono ?_; rintro e w' ⟨rfl, rfl⟩)
            go_round
            case rel => exact ⟨k + 1, by omega, by go_num, hnx, fun _ => Hf.out⟩
            case measure => simp [intOf]; omega
        · have hn := Lib.hid (nameB_bad s k hlt (by rw [hb, inB, dig, hl]; simp; omega))
          have Hb := Lib.hid hb
          clear hb dig hfst hok
          by_cases hd1 : 48 ≤ (s[k].toNat : Int)
          · have hd2 : 57 < (s[k].toNat : Int) := by omega
            clear hd
            go_wp2_with (go_at_call 67; refine (refLetter_any _ _).mono ?_; rintro e w' ⟨rfl, rfl⟩)
            go_ret
            exact ⟨ret_bool hn.out.symm, rfl⟩
          · clear hd
            go_wp2_with (go_at_call 67; refine (refLetter_any _ _).mono ?_; rintro e w' ⟨rfl, rfl⟩)
            go_ret
            exact ⟨ret_bool hn.out.symm, rfl⟩
      · have hnx := okTo_succ hok (by rw [hb, inB, hl]; rfl)
        have hf : letB (byteAt s 0) = true := by
          by_cases hk0 : k = 0
          · subst hk0; rw [hb]; exact hl
          · exact hfst (by omega)
        have Hb := Lib.hid hb
        have Hf := Lib.hid hf
        clear hb dig hfst hok hf
        by_cases hd1 : 48 ≤ (s[k].toNat : Int)
        · go_wp2_with (go_at_call 67; refine (refLetter_any _ _).mono ?_; rintro e w' ⟨rfl, rfl⟩)
          go_round
          case rel => exact ⟨k + 1, by omega, by go_num, hnx, fun _ => Hf.out⟩
          case measure => simp [intOf]; omega
        · go_wp2_with (go_at_call 67; refine (refLetter_any _ _).mono ?_; rintro e w' ⟨rfl, rfl⟩)
          go_round
          case rel => exact ⟨k + 1, by omega, by go_num, hnx, fun _ => Hf.out⟩
          case measure => simp [intOf]; omega
    · have hke : k = s.size := by omega
      subst hke
      by_cases h0 : 0 < s.size
      · by_cases h1 : s.size ≤ 20
        · have hn := Lib.hid (nameB_yes s h0 h1 (hfst h0) hok)
          clear hfst
          go_wp2_with (go_at_call 67; refine (refLetter_any _ _).mono ?_; rintro e w' ⟨rfl, rfl⟩)
          go_ret
          exact ⟨ret_bool (by rw [hn.out]; simp; omega), rfl⟩
        · have hn := Lib.hid (nameB_no s (fun h => h1 h.2.1))
          clear hfst
          go_wp2_with (go_at_call 67; refine (refLetter_any _ _).mono ?_; rintro e w' ⟨rfl, rfl⟩)
          go_ret
          exact ⟨ret_bool (by rw [hn.out]; simp; omega), rfl⟩
      · have hn := Lib.hid (nameB_no s (fun h => h0 h.1))
        clear hfst
        go_wp2_with (go_at_call 67; refine (refLetter_any _ _).mono ?_; rintro e w' ⟨rfl, rfl⟩)
        go_ret
        exact ⟨ret_bool hn.out.symm, rfl⟩

/-- A name that is seen from without. -/
def pubB (s : ByteArray) : Bool := nameB s && upB (byteAt s 0)
theorem size_of_nameB {s : ByteArray} (h : nameB s = true) : 0 < s.size := by
  unfold nameB at h
  rw [decide_eq_true_iff] at h
  exact h.1

end Go.Proofs.YtkmnfkhchcoamaaGreatDoor


