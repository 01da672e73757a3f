/- Literals: the program's small calls: digit, number, letter, between; the map of letters behind byte 92. -/
import Derived.Test.YtkafkcmhekgheaaGreatDoorLitO
import Derived.Test.YtkafkcmhekgheaaGreatDoorLitShelf
import Derived.Test.YtkafkcmhekgheaaGreatDoorBlock
import Derived.Maps.OwnSet
import Derived.IntWalk
namespace Go.Proofs.YtkafkcmhekgheaaGreatDoor
open Go.RowKit Go.Maps
set_option linter.unusedSimpArgs false
set_option linter.unusedVariables false

theorem ldigit_any (c : Int) (w : World) (h0 : 0 ≤ c) (h1 : c < 256) :
    Calls Tryz.prog 60 #[.int .u8 c] w fun e w' => e = .returned (.int .i64 (digC c)) ∧ w = w' := by
  go_enter Tryz.func60, Tryz.ntmps60
  go_wp2
  all_goals
    go_ret
    refine ⟨ret_int ?_, rfl⟩
    unfold digC
    (repeat' split) <;> omega
def pow16 : Nat → Int
  | 0 => 1
  | n + 1 => pow16 n * 16
theorem pow16_pos : ∀ n, 1 ≤ pow16 n
  | 0 => by decide
  | n + 1 => by have := pow16_pos n; unfold pow16; omega
theorem pow16_le {n m : Nat} (h : n ≤ m) : pow16 n ≤ pow16 m := by
  induction m with
  | zero => rw [show n = 0 by omega]; exact Int.le_refl _
  | succ m ih =>
    rcases (show n = m + 1 ∨ n ≤ m by omega) with e | e
    · rw [e]; exact Int.le_refl _
    · have h1 := ih e
      have h2 := pow16_pos m
      have h3 : pow16 (m + 1) = pow16 m * 16 := rfl
      omega
theorem pow16_8 {n : Nat} (h : n ≤ 8) : pow16 n ≤ 4294967296 := Int.le_trans (pow16_le h) (by decide)
/-- What number gives. -/
def numV (o : Option Int) : Value := match o with
  | none => .tuple #[.int .i64 0, .bool false]
  | some v => .tuple #[.int .i64 v, .bool true]
set_option maxHeartbeats 4000000 in
set_option maxRecDepth 100000 in
theorem number_any (s : ByteArray) (many : Nat) (base : Int) (w : World) (hb : base = 16 ∨ base = 8) (hm : many ≤ 8) (hs : s.size ≤ 4010) :
    Calls Tryz.prog 40 #[.string s, .int .i64 many, .int .i64 base] w fun e w' => e = .returned (numV (numA s 0 many base)) ∧ w = w' := by
  unfold numA
  rw [Nat.zero_add]
  by_cases h : s.size < many
  · have hI : (s.size : Int) < (many : Int) := by omega
    rw [if_pos h]
    unfold numV
    go_enter Tryz.func40, Tryz.ntmps40
    go_wp2_with fail
    go_ret2
    exact ⟨rfl, rfl⟩
  rw [if_neg h]
  have hI : ¬ (s.size : Int) < (many : Int) := by omega
  obtain ⟨R, hR⟩ : ∃ R, numF s base many 0 0 = R := ⟨_, rfl⟩
  have HR := Lib.hid hR
  rw [hR]
  clear hR h
  go_enter Tryz.func40, Tryz.ntmps40
  go_wp2_with fail
  go_loop [8, 16] (fun v t => ∃ (k : Nat) (a : Int), k ≤ many ∧ t = .int .i64 k ∧ v = .int .i64 a ∧ 0 ≤ a ∧ a < pow16 k ∧ Hid (numF s base (many - k) k a = R)) (fun _ t => many - (intOf t).toNat)
  case atStart => exact ⟨0, 0, Nat.zero_le _, rfl, rfl, by decide, by decide, HR⟩
  case round =>
    obtain ⟨k, a, hk, rfl, rfl, ha0, hap, HN⟩ := hrel
    by_cases hlt : k < many
    · have hltI : (k : Int) < (many : Int) := by omega
      have hks : k < s.size := by omega
      have hksI : (k : Int) < (s.size : Int) := by omega
      have hp8 := pow16_8 (show k ≤ 8 by omega)
      have haB : a ≤ 4294967296 := by omega
      obtain ⟨c, hc⟩ : ∃ c : Int, (s[k].toNat : Int) = c := ⟨_, rfl⟩
      have hcb : byteAt s k = c := (byteAt_eq hks).trans hc
      have hcr := byteAt_range s k
      rw [hcb] at hcr
      obtain ⟨d, hd⟩ : ∃ d, digC c = d := ⟨_, rfl⟩
      have HD0 := fun w => ldigit_any c w hcr.1 hcr.2
      rw [hd] at HD0
      have HD := Lib.hid HD0
      have hd0 : 0 ≤ d := by rw [← hd]; exact digC_nonneg c
      have hd16 : d ≤ 16 := by rw [← hd]; unfold digC; (repeat' split) <;> omega
      have hN := HN.out
      rw [show many - k = (many - (k + 1)) + 1 by omega] at hN
      unfold numF at hN
      rw [hcb, hd] at hN
      clear HD0 hd hcb
      by_cases hdb : d < base
      · rw [if_pos hdb] at hN
        have HX := Lib.hid hN
        have hge : ¬ base ≤ d := by omega
        have hpk : pow16 (k + 1) = pow16 k * 16 := rfl
        have hP : 0 ≤ a * base ∧ a * base ≤ 68719476736 ∧ a * base + d < pow16 (k + 1) := by
          rcases hb with rfl | rfl <;> omega
        obtain ⟨m, hm2⟩ : ∃ m, a * base = m := ⟨_, rfl⟩
        rw [hm2] at hP
        have h1 := hP.1
        have h2 := hP.2.1
        have H3 := Lib.hid hP.2.2
        rw [hm2] at hN
        have HX := Lib.hid hN
        clear hN hP hpk hap HN
        go_wp2_with (go_at_call 60; refine (HD.out _).mono ?_; rintro e w' ⟨rfl, rfl⟩)
        go_round
        case rel => exact ⟨k + 1, m + d, by omega, by go_num, rfl, by omega, H3.out, HX⟩
        case measure => simp [intOf]; omega
      · rw [if_neg hdb] at hN
        have HX := Lib.hid hN
        have hge : base ≤ d := by omega
        clear hN hap HN hdb
        go_wp2_with (go_at_call 60; refine (HD.out _).mono ?_; rintro e w' ⟨rfl, rfl⟩)
        go_ret2
        exact ⟨by rw [← HX.out]; rfl, rfl⟩
    · have hke : k = many := by omega
      have hltI : ¬ (k : Int) < (many : Int) := by omega
      have HX := Lib.hid (show R = some a by rw [← HN.out, hke, Nat.sub_self]; rfl)
      clear HN
      go_wp2_with fail
      go_ret2
      exact ⟨by rw [HX.out]; rfl, rfl⟩
set_option maxHeartbeats 1000000 in
theorem letter_any (v : Int) (w : World) (h0 : 0 ≤ v) (h1 : v ≤ 4294967296) :
    Calls Tryz.prog 41 #[.int .i64 v] w fun e w' => e = .returned (.bool (letV v)) ∧ w = w' := by
  by_cases h : v ≤ 1114111
  · have HV := Lib.hid (fun w => Tryz.utf8_ValidRune v w)
    have HE := Lib.hid (show Lib.validRune v = letV v by unfold Lib.validRune letV; rw [decide_eq_decide]; omega)
    go_enter Tryz.func41, Tryz.ntmps41
    go_wp2_with fail
    refine (HV.out _).mono ?_
    rintro x w' ⟨rfl, rfl⟩
    go_wp2_with fail
    go_ret
    exact ⟨ret_bool HE.out, rfl⟩
  · have HE := Lib.hid (show letV v = false by unfold letV; rw [decide_eq_false_iff_not]; omega)
    have hn : decide (v ≤ 1114111) = false := by rw [decide_eq_false_iff_not]; exact h
    go_enter Tryz.func41, Tryz.ntmps41
    go_wp2_with fail
    go_ret
    exact ⟨ret_bool HE.out.symm, rfl⟩
/-- Is a text between two quotes? -/
def betwB (s : ByteArray) (q : Int) : Bool := decide (2 ≤ s.size ∧ byteAt s 0 = q ∧ byteAt s (s.size - 1) = q)
def betwS (s : ByteArray) (q : Int) : ByteArray := if betwB s q = true then s.extract 1 (s.size - 1) else ⟨#[]⟩
set_option maxHeartbeats 2000000 in
theorem between_any (s : ByteArray) (q : Int) (w : World) (hs : s.size ≤ 4010) :
    Calls Tryz.prog 11 #[.string s, .int .u8 q] w fun e w' => e = .returned (.tuple #[.string (betwS s q), .bool (betwB s q)]) ∧ w = w' := by
  by_cases h2 : s.size < 2
  · have h2I : (s.size : Int) < 2 := by omega
    have HB := Lib.hid (show betwB s q = false by unfold betwB; rw [decide_eq_false_iff_not]; omega)
    go_enter Tryz.func11, Tryz.ntmps11
    go_wp2_with fail
    go_ret2
    exact ⟨by unfold betwS; rw [HB.out]; rfl, rfl⟩
  have h2I : ¬ (s.size : Int) < 2 := by omega
  have h0 : 0 < s.size := by omega
  have hl : s.size - 1 < s.size := by omega
  obtain ⟨c, hc⟩ : ∃ c : Int, (s[0].toNat : Int) = c := ⟨_, rfl⟩
  obtain ⟨d, hd⟩ : ∃ d : Int, (s[s.size - 1].toNat : Int) = d := ⟨_, rfl⟩
  have hcb : byteAt s 0 = c := (byteAt_eq h0).trans hc
  have hdb : byteAt s (s.size - 1) = d := (byteAt_eq hl).trans hd
  have HB := Lib.hid (show betwB s q = decide (c = q ∧ d = q) by unfold betwB; rw [hcb, hdb, decide_eq_decide]; omega)
  have hsub : (s.size : Int) - 1 = ((s.size - 1 : Nat) : Int) := by omega
  clear hcb hdb
  by_cases hcq : c = q
  · have n1 : (c != q) = false := by rw [hcq, bne_self_eq_false]
    by_cases hdq : d = q
    · have n2 : (d != q) = false := by rw [hdq, bne_self_eq_false]
      have HE := Lib.hid (show betwB s q = true by rw [HB.out, decide_eq_true_iff]; exact ⟨hcq, hdq⟩)
      clear hcq hdq HB
      go_enter Tryz.func11, Tryz.ntmps11
      go_wp2_with fail
      go_ret2
      exact ⟨by unfold betwS; rw [HE.out]; rfl, rfl⟩
    · have n2 : (d != q) = true := by rw [bne_iff_ne]; exact hdq
      have HE := Lib.hid (show betwB s q = false by rw [HB.out, decide_eq_false_iff_not]; exact fun h => hdq h.2)
      clear hcq hdq HB
      go_enter Tryz.func11, Tryz.ntmps11
      go_wp2_with fail
      go_ret2
      exact ⟨by unfold betwS; rw [HE.out]; rfl, rfl⟩
  · have n1 : (c != q) = true := by rw [bne_iff_ne]; exact hcq
    have HE := Lib.hid (show betwB s q = false by rw [HB.out, decide_eq_false_iff_not]; exact fun h => hcq h.1)
    clear hcq HB
    go_enter Tryz.func11, Tryz.ntmps11
    go_wp2_with fail
    go_ret2
    exact ⟨by unfold betwS; rw [HE.out]; rfl, rfl⟩
theorem byteKey : Keyed Tryz.prog 5 := int_keyed Tryz.underlying5
theorem key_byte (n : Int) (h : (Lit.int .u8 n).wf = true) : keyOf Tryz.prog 5 (.int .u8 n) = some (.int .u8 n) := by
  simp [keyOf, mapKey, Tryz.underlying5, h]
theorem zero_rune (w : World) : (zeroValue 21).run Tryz.prog w = .ok (.int .i32 0) w := by kernel_rfl
theorem rune_plain (v : Int) (h : (Lit.int .i32 v).wf = true) : plainElem (H := Nat) Tryz.prog 21 (.int .i32 v) = some (.lit (.int .i32 v), []) := plainElem_int Tryz.underlying21 h
end Go.Proofs.YtkafkcmhekgheaaGreatDoor
