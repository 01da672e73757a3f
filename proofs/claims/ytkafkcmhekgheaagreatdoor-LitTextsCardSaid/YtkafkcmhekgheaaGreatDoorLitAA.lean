/- Literals: alive: calls at plain digits. -/
import Derived.Test.YtkafkcmhekgheaaGreatDoorRA
import Derived.Test.YtkafkcmhekgheaaGreatDoorLitPE
namespace Go.Proofs.YtkafkcmhekgheaaGreatDoor
open Go.RowKit
set_option linter.unusedSimpArgs false
set_option linter.unusedVariables false

theorem bare_any (s : ByteArray) (w : World) (hs : s.size ≤ 4010) (hM : MaxAt w) (hp : s.data.toList.filter (fun x => x != 95) = s.data.toList) :
    Calls Tryz.prog 31 #[.string s] w fun e w' => e = .returned (.string s) ∧ Below w.heap.size w w' := by
  obtain ⟨m, hm⟩ := hM
  have h := Tryz.strings_ReplaceAll s ⟨#[95]⟩ ⟨#[]⟩ m w (by omega) hm (by decide) (by rw [show (⟨#[]⟩ : ByteArray).size = 0 from rfl, Nat.mul_zero]; omega)
  rw [show (⟨#[95]⟩ : ByteArray).data.toList = [95] from rfl, show (⟨#[]⟩ : ByteArray).data.toList = [] from rfl, replace_out, hp, show (⟨s.data.toList.toArray⟩ : ByteArray) = s by simp] at h
  have H := Lib.hid h
  clear h hp hm
  go_enter Tryz.func31, Tryz.ntmps31
  go_wp2_with fail
  refine H.out.mono ?_
  rintro x w1 ⟨rfl, hb⟩
  have B1 := Lib.hid hb
  clear hb
  go_wp2_with fail
  go_ret
  exact ⟨rfl, B1.out⟩
/-- Digits of base 10 alone. -/
def plainB (s : ByteArray) : Bool := decide (0 < s.size ∧ s.size ≤ 100) && s.data.toList.all (fun b => decide (48 ≤ b.toNat ∧ b.toNat ≤ 57))
theorem plain_at {s : ByteArray} (h : plainB s = true) {k : Nat} (hk : k < s.size) : 48 ≤ (s[k].toNat : Int) ∧ (s[k].toNat : Int) ≤ 57 := by
  unfold plainB at h
  rw [Bool.and_eq_true, List.all_eq_true] at h
  have := h.2 s[k] (by show s.data[k] ∈ s.data.toList; simp)
  rw [decide_eq_true_iff] at this
  omega
theorem plain_no {s : ByteArray} (h : plainB s = true) : (95 : UInt8) ∉ s.data.toList := fun hm => by
  unfold plainB at h
  rw [Bool.and_eq_true, List.all_eq_true] at h
  exact absurd (h.2 95 hm) (by decide)
theorem plain_filter {s : ByteArray} (h : plainB s = true) : s.data.toList.filter (fun x => x != 95) = s.data.toList :=
  List.filter_eq_self.2 (fun x hx => by rw [bne_iff_ne]; exact fun e => plain_no h (e ▸ hx))
theorem plain_count {s : ByteArray} (h : plainB s = true) : Lib.countB s ⟨#[95]⟩ = 0 := by
  show Lib.count s.data.toList [95] = 0
  rw [Lib.count_one]
  exact List.count_eq_zero.2 (plain_no h)
set_option maxHeartbeats 4000000 in
set_option maxRecDepth 100000 in
theorem digits_any (s : ByteArray) (w : World) (hM : MaxAt w) (hp : plainB s = true) :
    Calls Tryz.prog 35 #[.string s, .int .i64 10] w fun e w' => e = .returned (.bool true) ∧ Below w.heap.size w w' := by
  have hsz : 0 < s.size ∧ s.size ≤ 100 := by unfold plainB at hp; rw [Bool.and_eq_true, decide_eq_true_iff] at hp; exact hp.1
  obtain ⟨m, hm⟩ := hM
  have h := Tryz.strings_Split s ⟨#[95]⟩ m w (by omega) hm (by decide)
  rw [plain_count hp, show (Lib.splitB ⟨#[95]⟩ 0 0 s).map Value.string = [.string s] from rfl, Nat.zero_add] at h
  have H := Lib.hid h
  have HP := Lib.hid hp
  have h0 := hsz.1
  have h1 := hsz.2
  have hne := isEmpty_no h0
  have B1 := Lib.hid (show Below w.heap.size w (w.alloc (.cells #[.string s] 9)) from (Below.refl _ _).alloc (Nat.le_refl _) _)
  clear h hm hp hsz
  go_enter Tryz.func35, Tryz.ntmps35
  go_wp2_with fail
  refine H.out.mono ?_
  rintro x w1 ⟨rfl, rfl⟩
  go_wp2_with fail
  go_loop [11] (fun i => i = .int .i64 0 ∨ i = .int .i64 1) (fun i => 1 - (intOf i).toNat)
  case atStart => exact .inl rfl
  case round =>
    rcases hrel with rfl | rfl
    · go_wp2_with fail
      go_loop [19] (fun i => ∃ k : Nat, k ≤ s.size ∧ i = .int .i64 k) (fun i => s.size - (intOf i).toNat)
      case atStart => exact ⟨0, Nat.zero_le _, rfl⟩
      case round =>
        obtain ⟨k, hk, rfl⟩ := hrel
        by_cases hlt : k < s.size
        · have hltI : (k : Int) < (s.size : Int) := by omega
          have hpk := plain_at HP.out hlt
          obtain ⟨c, hc⟩ : ∃ c : Int, (s[k].toNat : Int) = c := ⟨_, rfl⟩
          rw [hc] at hpk
          have HD0 := fun w => ldigit_any c w (by omega) (by omega)
          obtain ⟨d, hd⟩ : ∃ d, digC c = d := ⟨_, rfl⟩
          have hd10 : ¬ 10 ≤ d := by rw [← hd]; unfold digC; rw [if_pos hpk]; omega
          rw [hd] at HD0
          have HD := Lib.hid HD0
          clear HD0 hpk hd
          go_wp2_with fail
          refine (HD.out _).mono ?_
          rintro x w' ⟨rfl, rfl⟩
          go_wp2_with fail
          go_round
          case rel => exact ⟨k + 1, by omega, by go_num⟩
          case measure => simp [intOf]; omega
        · have hltI : ¬ (k : Int) < (s.size : Int) := by omega
          go_wp2_with fail
          go_round
          case rel => exact .inr rfl
          case measure => simp [intOf]
    · go_wp2_with fail
      go_ret
      exact ⟨rfl, B1.out⟩
end Go.Proofs.YtkafkcmhekgheaaGreatDoor
