/- The law of places: for every text, place, byte and name the law answers true. -/
import Derived.Test.YtnjnpfdhjgjdmaaSrcRefPlace
import Derived.RegionTactic
import Derived.WalkSmall
import Derived.ChangeAlike
import Derived.Deep.DeepCutAuto
namespace Go.Proofs.Ytnjnpfdhjgjdmaa
open Go.RowKit

set_option maxHeartbeats 1000000 in
set_option maxRecDepth 100000 in
theorem places_walk (s0 : ByteArray) (p c : Int) (m0 : ByteArray) (w : World) (hs : s0.size ≤ 9223372036854775807) (hm : m0.size ≤ 9223372036854775807) (hp0 : -9223372036854775808 ≤ p) (hp1 : p ≤ 9223372036854775807) :
    Calls Try.prog 4 #[.string s0, .int .i64 p, .int .u8 c, .string m0] w fun e w' => e = .returned (.bool true) ∧ Below w.heap.size w w' := by
  go_enter Try.func4, Try.ntmps4
  go_upto_region 1 with fail
  go_cut [0, 3] (fun v0 v3 wx => ∃ s m : ByteArray, v0 = .string s ∧ v3 = .string m ∧ s.size ≤ 4010 ∧ m.size ≤ 30 ∧ Below w.heap.size w wx)
  case first =>
    go_quiet (fail)
    all_goals go_wp2_with fail
    all_goals go_meet
    all_goals exact ⟨_, _, rfl, rfl, by first | omega | (simp; try omega), by first | omega | (simp; try omega), below_drewN (Below.refl _ _) _⟩
  case rest =>
    obtain ⟨s, m, rfl, rfl, hs1, hm1, hb⟩ := hcut
    clear hs hm
    have hs2 : s.size < 4611686018427387904 := by omega
    have hs3 : s.size ≤ 9223372036854775807 := by omega
    have hm3 : m.size ≤ 9223372036854775807 := by omega
    by_cases hp : p < 0 ∨ (s.size : Int) < p
    · go_wp2_with fail
      refine (place_no s p _ hp).mono ?_
      rintro e w' ⟨rfl, rfl⟩
      go_upto_region 3 with fail
      go_cut [12] (fun v wx => v = .bool (pubB m) ∧ wc = wx)
      case first =>
        cases hn : nameB m
        · have hpb := Lib.hid (show pubB m = false by simp [pubB, hn])
          go_wp2_with (go_at_call 10; refine (refName_any _ _ hm3).mono ?_; rintro e w' ⟨rfl, rfl⟩)
          go_meet
          exact ⟨by rw [hpb.out], rfl⟩
        · have h0 := size_of_nameB hn
          by_cases u1 : 65 ≤ (m[0].toNat : Int)
          · by_cases u2 : (m[0].toNat : Int) ≤ 90
            · have hpb := Lib.hid (show pubB m = true by simp [pubB, hn, upB, byteAt_eq h0]; omega)
              go_wp2_with (go_at_call 10; refine (refName_any _ _ hm3).mono ?_; rintro e w' ⟨rfl, rfl⟩)
              go_meet
              exact ⟨by rw [hpb.out], rfl⟩
            · have hpb := Lib.hid (show pubB m = false by simp [pubB, hn, upB, byteAt_eq h0]; omega)
              go_wp2_with (go_at_call 10; refine (refName_any _ _ hm3).mono ?_; rintro e w' ⟨rfl, rfl⟩)
              go_meet
              exact ⟨by rw [hpb.out]; simp; omega, rfl⟩
          · have hpb := Lib.hid (show pubB m = false by simp [pubB, hn, upB, byteAt_eq h0]; omega)
            go_wp2_with (go_at_call 10; refine (refName_any _ _ hm3).mono ?_; rintro e w' ⟨rfl, rfl⟩)
            go_meet
            exact ⟨by rw [hpb.out], rfl⟩
      case rest =>
        obtain ⟨rfl, rfl⟩ := hcut
        go_wp2_with (first
          | (go_at_call 11; refine (letter_any _ _).mono ?_; rintro e w' ⟨rfl, rfl⟩)
          | (go_at_call 12; refine (refLetter_any _ _).mono ?_; rintro e w' ⟨rfl, rfl⟩)
          | (go_at_call 13; refine (name_any _ _ hm3).mono ?_; rintro e w' ⟨rfl, rfl⟩)
          | (go_at_call 10; refine (refName_any _ _ hm3).mono ?_; rintro e w' ⟨rfl, rfl⟩)
          | (go_at_call 14; refine (public_any _ _ hm3).mono ?_; rintro e w' ⟨rfl, rfl⟩)
          | (go_at_call 7; refine (alive_any _).mono ?_; rintro e w' ⟨rfl, rfl⟩))
        all_goals
          go_ret
          exact ⟨rfl, hb⟩
    · obtain ⟨n, rfl⟩ := Int.eq_ofNat_of_zero_le (show 0 ≤ p by omega)
      have hns : n ≤ s.size := by omega
      clear hp
      go_wp2_with fail
      refine (place_yes s n _ hns hs2).mono ?_
      rintro e w' ⟨rfl, rfl⟩
      go_upto_region 3 with fail
      go_cut [12] (fun v wx => v = .bool (pubB m) ∧ wc = wx)
      case first =>
        cases hn : nameB m
        · have hpb := Lib.hid (show pubB m = false by simp [pubB, hn])
          go_wp2_with (go_at_call 10; refine (refName_any _ _ hm3).mono ?_; rintro e w' ⟨rfl, rfl⟩)
          go_meet
          exact ⟨by rw [hpb.out], rfl⟩
        · have h0 := size_of_nameB hn
          by_cases u1 : 65 ≤ (m[0].toNat : Int)
          · by_cases u2 : (m[0].toNat : Int) ≤ 90
            · have hpb := Lib.hid (show pubB m = true by simp [pubB, hn, upB, byteAt_eq h0]; omega)
              go_wp2_with (go_at_call 10; refine (refName_any _ _ hm3).mono ?_; rintro e w' ⟨rfl, rfl⟩)
              go_meet
              exact ⟨by rw [hpb.out], rfl⟩
            · have hpb := Lib.hid (show pubB m = false by simp [pubB, hn, upB, byteAt_eq h0]; omega)
              go_wp2_with (go_at_call 10; refine (refName_any _ _ hm3).mono ?_; rintro e w' ⟨rfl, rfl⟩)
              go_meet
              exact ⟨by rw [hpb.out]; simp; omega, rfl⟩
          · have hpb := Lib.hid (show pubB m = false by simp [pubB, hn, upB, byteAt_eq h0]; omega)
            go_wp2_with (go_at_call 10; refine (refName_any _ _ hm3).mono ?_; rintro e w' ⟨rfl, rfl⟩)
            go_meet
            exact ⟨by rw [hpb.out], rfl⟩
      case rest =>
        obtain ⟨rfl, rfl⟩ := hcut
        go_wp2_with (first
          | (go_at_call 11; refine (letter_any _ _).mono ?_; rintro e w' ⟨rfl, rfl⟩)
          | (go_at_call 12; refine (refLetter_any _ _).mono ?_; rintro e w' ⟨rfl, rfl⟩)
          | (go_at_call 13; refine (name_any _ _ hm3).mono ?_; rintro e w' ⟨rfl, rfl⟩)
          | (go_at_call 10; refine (refName_any _ _ hm3).mono ?_; rintro e w' ⟨rfl, rfl⟩)
          | (go_at_call 14; refine (public_any _ _ hm3).mono ?_; rintro e w' ⟨rfl, rfl⟩)
          | (go_at_call 7; refine (alive_any _).mono ?_; rintro e w' ⟨rfl, rfl⟩))
        refine (refPlace_any s n _ hns hs2).mono ?_
        rintro e w' ⟨rfl, hb2⟩
        have hb3 := hb.trans (hb2.mono hb.size)
        go_wp2_with fail
        go_ret
        exact ⟨rfl, hb3.alloc hb3.size _⟩
end Go.Proofs.Ytnjnpfdhjgjdmaa
