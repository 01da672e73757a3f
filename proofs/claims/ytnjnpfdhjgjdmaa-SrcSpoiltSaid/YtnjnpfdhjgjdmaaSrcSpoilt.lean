/- The law of spoilt texts: for every text the law answers true. -/
import Derived.Test.YtnjnpfdhjgjdmaaSrcCheckWalk
import Derived.Deep.DeepCutAuto
namespace Go.Proofs.Ytnjnpfdhjgjdmaa
open Go.RowKit

set_option maxHeartbeats 1000000 in
set_option maxRecDepth 100000 in
theorem spoilt_walk (s0 : ByteArray) (w : World) (hs : s0.size ≤ 9223372036854775807) :
    Calls Try.prog 3 #[.string s0] w fun e w' => e = .returned (.bool true) ∧ Below w.heap.size w w' := by
  go_enter Try.func3, Try.ntmps3
  go_upto_region 1 with fail
  go_cut [0] (fun v0 wx => ∃ s : ByteArray, v0 = .string s ∧ s.size ≤ 4010 ∧ w = wx)
  case first =>
    go_wp2_with fail
    all_goals go_meet
    all_goals exact ⟨_, rfl, by first | omega | (simp; try omega), rfl⟩
  case rest =>
    obtain ⟨s, rfl, hs1, rfl⟩ := hcut
    clear hs
    by_cases hm : 4000 < s.size
    · go_wp2_with fail
      refine (check_many s _ hm).mono ?_
      rintro e w1 ⟨rfl, hb⟩
      go_wp2_with (go_at_call 7; refine (alive_any _).mono ?_; rintro e w' ⟨rfl, rfl⟩)
      go_ret
      exact ⟨rfl, hb⟩
    · have hm2 : s.size ≤ 4000 := by omega
      obtain ⟨b1, b2⟩ := spoil_bounds s s.size 0
      by_cases hsp : spoil s = -1
      · have hc := Lib.hid (chk_ok hsp)
        have Hsp := Lib.hid hsp
        clear hsp b1 b2
        go_wp2_with fail
        refine (check_few s _ hm2).mono ?_
        rintro e w1 ⟨rfl, hb⟩
        rw [hc.out]
        go_wp2_with fail
        refine (refSpoilt_any s _ (by omega)).mono ?_
        rintro e w2 ⟨rfl, rfl⟩
        rw [Hsp.out]
        go_wp2_with (go_at_call 7; refine (alive_any _).mono ?_; rintro e w' ⟨rfl, rfl⟩)
        go_ret
        exact ⟨rfl, hb⟩
      · obtain ⟨k, hk⟩ : ∃ k : Nat, spoil s = k := ⟨(spoil s).toNat, by have : -1 ≤ spoil s := b1; omega⟩
        have hc := Lib.hid (chk_bad hk)
        have Hsp := Lib.hid hk
        clear hsp b1 b2 hk
        go_wp2_with fail
        refine (check_few s _ hm2).mono ?_
        rintro e w1 ⟨rfl, hb⟩
        rw [hc.out]
        go_wp2_with fail
        refine (refSpoilt_any s _ (by omega)).mono ?_
        rintro e w2 ⟨rfl, rfl⟩
        rw [Hsp.out]
        go_wp2_with (go_at_call 7; refine (alive_any _).mono ?_; rintro e w' ⟨rfl, rfl⟩)
        go_ret
        exact ⟨rfl, hb⟩
end Go.Proofs.Ytnjnpfdhjgjdmaa
