/- Literals: the document's answer: One. -/
import Derived.Test.YtkafkcmhekgheaaGreatDoorLitRA
namespace Go.Proofs.YtkafkcmhekgheaaGreatDoor
open Go.RowKit
set_option linter.unusedSimpArgs false
set_option linter.unusedVariables false

theorem oV_none {o : Option Pc} (h : o = none) : Ending.returned (.agg #[.int .i32 0, .bool false, .int .i64 0]) = .returned (oV o) := by rw [h]; rfl
theorem oV_some {o : Option Pc} {p : Pc} (h : o = some p) : Ending.returned (.agg #[.int .i32 p.val, .bool p.plain, .int .i64 (p.size : Int)]) = .returned (oV o) := by rw [h]; rfl
set_option maxHeartbeats 16000000 in
set_option maxRecDepth 100000 in
theorem one_empty (s : ByteArray) (q : Int) (w : World) (hs : s.size ≤ 4010) (hq : q = 39 ∨ q = 34) (h : s.size = 0) :
    Calls Tryz.prog 19 #[.string s, .int .u8 q] w fun e w' => e = .returned (oV (firstT s q)) ∧ Below w.heap.size w w' := by
  have HE := Lib.hid (first_none (q := q) (.inl h))
  have hI : (s.size : Int) = 0 := by omega
  clear h
  go_enter Tryz.func19, Tryz.ntmps19
  go_wp2_with fail
  refine bodyPost_ret (v := .agg #[.int .i32 0, .bool false, .int .i64 0]) (by simp [results, Tryz.results19, go_sem]) rfl ⟨oV_none HE.out, (Below.refl _ _).alloc (Nat.le_refl _) _⟩
set_option maxHeartbeats 16000000 in
set_option maxRecDepth 100000 in
theorem one_quote (s : ByteArray) (q : Int) (w : World) (hs : s.size ≤ 4010) (hq : q = 39 ∨ q = 34) (h0 : 0 < s.size) (h : byteAt s 0 = q) :
    Calls Tryz.prog 19 #[.string s, .int .u8 q] w fun e w' => e = .returned (oV (firstT s q)) ∧ Below w.heap.size w w' := by
  have HE := Lib.hid (first_none (q := q) (.inr (.inr h)))
  have hsI : (0 : Int) < (s.size : Int) := by omega
  have hnz : ((s.size : Int) == 0) = false := by rw [beq_eq_false_iff_ne]; omega
  obtain ⟨c, hc⟩ : ∃ c : Int, (s[0].toNat : Int) = c := ⟨_, rfl⟩
  have hcb : byteAt s 0 = c := (byteAt_eq h0).trans hc
  have g : (c == q) = true := by rw [beq_iff_eq, ← hcb, h]
  clear h hcb
  go_enter Tryz.func19, Tryz.ntmps19
  go_wp2_with fail
  refine bodyPost_ret (v := .agg #[.int .i32 0, .bool false, .int .i64 0]) (by simp [results, Tryz.results19, go_sem]) rfl ⟨oV_none HE.out, (Below.refl _ _).alloc (Nat.le_refl _) _⟩
set_option maxHeartbeats 16000000 in
set_option maxRecDepth 100000 in
theorem one_ten (s : ByteArray) (q : Int) (w : World) (hs : s.size ≤ 4010) (hq : q = 39 ∨ q = 34) (h0 : 0 < s.size) (h : byteAt s 0 = 10) :
    Calls Tryz.prog 19 #[.string s, .int .u8 q] w fun e w' => e = .returned (oV (firstT s q)) ∧ Below w.heap.size w w' := by
  have HE := Lib.hid (first_none (q := q) (.inr (.inl h)))
  have hsI : (0 : Int) < (s.size : Int) := by omega
  have hnz : ((s.size : Int) == 0) = false := by rw [beq_eq_false_iff_ne]; omega
  obtain ⟨c, hc⟩ : ∃ c : Int, (s[0].toNat : Int) = c := ⟨_, rfl⟩
  have hcb : byteAt s 0 = c := (byteAt_eq h0).trans hc
  have g : (c == q) = false := by rw [beq_eq_false_iff_ne]; omega
  have g2 : (c == 10) = true := by rw [beq_iff_eq]; omega
  clear h hcb
  go_enter Tryz.func19, Tryz.ntmps19
  go_wp2_with fail
  refine bodyPost_ret (v := .agg #[.int .i32 0, .bool false, .int .i64 0]) (by simp [results, Tryz.results19, go_sem]) rfl ⟨oV_none HE.out, (Below.refl _ _).alloc (Nat.le_refl _) _⟩
set_option maxHeartbeats 16000000 in
set_option maxRecDepth 100000 in
theorem one_letter (s : ByteArray) (q : Int) (w : World) (hs : s.size ≤ 4010) (hq : q = 39 ∨ q = 34) (h0 : 0 < s.size) (h1 : byteAt s 0 ≠ q) (h2 : byteAt s 0 ≠ 10) (h3 : byteAt s 0 ≠ 92) (hg : badAt s 0 = false) :
    Calls Tryz.prog 19 #[.string s, .int .u8 q] w fun e w' => e = .returned (oV (firstT s q)) ∧ Below w.heap.size w w' := by
  have HE := Lib.hid (show firstT s q = some ⟨valT s, false, (szAt s 0).toNat⟩ by unfold firstT; rw [if_neg (show ¬ (s.size = 0 ∨ byteAt s 0 = 10 ∨ byteAt s 0 = q) by omega), if_neg h3])
  have hsI : (0 : Int) < (s.size : Int) := by omega
  have hnz : ((s.size : Int) == 0) = false := by rw [beq_eq_false_iff_ne]; omega
  obtain ⟨c, hc⟩ : ∃ c : Int, (s[0].toNat : Int) = c := ⟨_, rfl⟩
  have hcb : byteAt s 0 = c := (byteAt_eq h0).trans hc
  have g : (c == q) = false := by rw [beq_eq_false_iff_ne]; omega
  have g2 : (c == 10) = false := by rw [beq_eq_false_iff_ne]; omega
  have g3 : (c != 92) = true := by rw [bne_iff_ne]; omega
  have HL := Lib.hid (fun w => rletter_any s w hs h0 hg)
  obtain ⟨v, hv⟩ : ∃ v, valT s = v := ⟨_, rfl⟩
  obtain ⟨n, hn⟩ : ∃ n, (szAt s 0).toNat = n := ⟨_, rfl⟩
  have G1 := HL.out
  have G2 := HE.out
  rw [hv, hn] at G1 G2
  unfold oV at G1
  simp only at G1
  have HL2 := Lib.hid G1
  have HE2 := Lib.hid G2
  obtain ⟨w1, hw⟩ : ∃ w1, w.alloc (.cells #[.int .i32 0, .bool false, .int .i64 0] 56) = w1 := ⟨_, rfl⟩
  have hb := BlockAt.new w #[.int .i32 0, .bool false, .int .i64 0] 56
  have bq : Below w.heap.size w (w.alloc (.cells #[.int .i32 0, .bool false, .int .i64 0] 56)) := (Below.refl _ _).alloc (Nat.le_refl _) _
  rw [hw] at hb bq
  have K1 := Lib.hid hb
  have B1 := Lib.hid bq
  clear h1 h2 h3 hcb hg HL HE G1 G2 hv hn hb bq
  go_enter Tryz.func19, Tryz.ntmps19
  go_wp2_with fail
  clear hw
  refine (HL2.out _).mono ?_
  rintro x w2 ⟨rfl, hb2⟩
  have K2 := Lib.hid (K1.out.below hb2)
  have B2 := Lib.hid (B1.out.trans (hb2.mono B1.out.size))
  clear hb2 K1 B1 HL2
  have f0 := K2.out.free 0
  have f1 := K2.out.free 1
  have f2 := K2.out.free 2
  obtain ⟨e0, e1, e2⟩ := cell3 K2.out
  go_wp2_with fail
  clear e0 e1 e2 f0 f1 f2
  obtain ⟨g0, g1, g2⟩ := set3_cells K2.out (.int .i32 v) (.bool false) (.int .i64 (n : Int))
  refine bodyPost_ret (v := .agg #[.int .i32 v, .bool false, .int .i64 (n : Int)]) (by simp [results, Tryz.results19, go_sem, g0, g1, g2]) rfl ⟨oV_some HE2.out, set3_below' B2.out _ _ _ (Nat.le_refl _)⟩
set_option maxHeartbeats 16000000 in
set_option maxRecDepth 100000 in
theorem one_single (s : ByteArray) (q : Int) (w : World) (hs : s.size ≤ 4010) (hq : q = 39 ∨ q = 34) (h : s.size = 1) (h92 : byteAt s 0 = 92) :
    Calls Tryz.prog 19 #[.string s, .int .u8 q] w fun e w' => e = .returned (oV (firstT s q)) ∧ Below w.heap.size w w' := by
  have h0 : 0 < s.size := by omega
  have g9 : ¬ (s.size = 0 ∨ byteAt s 0 = 10 ∨ byteAt s 0 = q) := by omega
  have HE0 : firstT s q = escT s q := by unfold firstT; rw [if_neg g9, if_pos h92]
  have HE := Lib.hid (show firstT s q = none by rw [HE0]; unfold escT; rw [if_pos (by omega)])
  have hsI : (0 : Int) < (s.size : Int) := by omega
  have hnz : ((s.size : Int) == 0) = false := by rw [beq_eq_false_iff_ne]; omega
  obtain ⟨c, hc⟩ : ∃ c : Int, (s[0].toNat : Int) = c := ⟨_, rfl⟩
  have hcb : byteAt s 0 = c := (byteAt_eq h0).trans hc
  have g : (c == q) = false := by rw [beq_eq_false_iff_ne]; omega
  have g2 : (c == 10) = false := by rw [beq_eq_false_iff_ne]; omega
  have g3 : (c != 92) = false := by rw [← hcb, h92]; rfl
  have h1 : (s.size : Int) = 1 := by omega
  clear h h92 hcb HE0 g9 hq hnz
  go_enter Tryz.func19, Tryz.ntmps19
  go_wp2_with fail
  refine bodyPost_ret (v := .agg #[.int .i32 0, .bool false, .int .i64 0]) (by simp [results, Tryz.results19, go_sem]) rfl ⟨oV_none HE.out, (Below.refl _ _).alloc (Nat.le_refl _) _⟩
set_option maxHeartbeats 16000000 in
set_option maxRecDepth 100000 in
theorem one_hit0 (s : ByteArray) (q : Int) (w : World) (hs : s.size ≤ 4010) (hq : q = 39 ∨ q = 34) (hz : 2 ≤ s.size) (h92 : byteAt s 0 = 92) (hk : byteAt s 1 = 97) :
    Calls Tryz.prog 19 #[.string s, .int .u8 q] w fun e w' => e = .returned (oV (firstT s q)) ∧ Below w.heap.size w w' := by
  have h0 : 0 < s.size := by omega
  have g9 : ¬ (s.size = 0 ∨ byteAt s 0 = 10 ∨ byteAt s 0 = q) := by omega
  have HE0 : firstT s q = escT s q := by unfold firstT; rw [if_neg g9, if_pos h92]
  have hsI : (0 : Int) < (s.size : Int) := by omega
  have hnz : ((s.size : Int) == 0) = false := by rw [beq_eq_false_iff_ne]; omega
  obtain ⟨c, hc⟩ : ∃ c : Int, (s[0].toNat : Int) = c := ⟨_, rfl⟩
  have hcb : byteAt s 0 = c := (byteAt_eq h0).trans hc
  have g : (c == q) = false := by rw [beq_eq_false_iff_ne]; omega
  have g2 : (c == 10) = false := by rw [beq_eq_false_iff_ne]; omega
  have g3 : (c != 92) = false := by rw [← hcb, h92]; rfl
  have h1 : 1 < s.size := by omega
  have h1I : ((1 : Nat) : Int) < (s.size : Int) := by omega
  have h1n : ((s.size : Int) == 1) = false := by rw [beq_eq_false_iff_ne]; omega
  obtain ⟨d, hd⟩ : ∃ c : Int, (s[1].toNat : Int) = c := ⟨_, rfl⟩
  have hdb : byteAt s 1 = d := (byteAt_eq h1).trans hd
  rw [hdb] at hk
  have HE := Lib.hid (show firstT s q = some ⟨7, true, 2⟩ by rw [HE0]; unfold escT; rw [if_neg (show ¬ s.size ≤ 1 by omega), if_neg (show ¬ byteAt s 1 = q by omega), show shortC (byteAt s 1) = some 7 by rw [hdb, hk]; rfl])
  have n0 : (d == 97) = true := by rw [beq_iff_eq]; exact hk
  have q0 : 0 ≤ q := by omega
  have q1 : q < 256 := by omega
  clear h92 hcb HE0 g9 hq hdb hk hz
  go_enter Tryz.func19, Tryz.ntmps19
  go_wp2_with fail
  go_loop [41] (fun i => ∃ k : Nat, k ≤ 0 ∧ i = .int .i64 k) (fun i => 9 - (intOf i).toNat)
  case atStart => exact ⟨0, Nat.zero_le _, rfl⟩
  case round =>
    obtain ⟨k, hkl, rfl⟩ := hrel
    rcases (show k = 0 by omega) with rfl
    · go_wp2_with fail
      refine bodyPost_ret (v := .agg #[.int .i32 7, .bool true, .int .i64 2]) (by simp [results, Tryz.results19, go_sem]) rfl ⟨oV_some HE.out, (((Below.refl _ _).alloc (Nat.le_refl _) _).alloc (by simp) _).alloc (by first | (simp; done) | (simp; omega)) _⟩
set_option maxHeartbeats 16000000 in
set_option maxRecDepth 100000 in
theorem one_hit1 (s : ByteArray) (q : Int) (w : World) (hs : s.size ≤ 4010) (hq : q = 39 ∨ q = 34) (hz : 2 ≤ s.size) (h92 : byteAt s 0 = 92) (hk : byteAt s 1 = 98) :
    Calls Tryz.prog 19 #[.string s, .int .u8 q] w fun e w' => e = .returned (oV (firstT s q)) ∧ Below w.heap.size w w' := by
  have h0 : 0 < s.size := by omega
  have g9 : ¬ (s.size = 0 ∨ byteAt s 0 = 10 ∨ byteAt s 0 = q) := by omega
  have HE0 : firstT s q = escT s q := by unfold firstT; rw [if_neg g9, if_pos h92]
  have hsI : (0 : Int) < (s.size : Int) := by omega
  have hnz : ((s.size : Int) == 0) = false := by rw [beq_eq_false_iff_ne]; omega
  obtain ⟨c, hc⟩ : ∃ c : Int, (s[0].toNat : Int) = c := ⟨_, rfl⟩
  have hcb : byteAt s 0 = c := (byteAt_eq h0).trans hc
  have g : (c == q) = false := by rw [beq_eq_false_iff_ne]; omega
  have g2 : (c == 10) = false := by rw [beq_eq_false_iff_ne]; omega
  have g3 : (c != 92) = false := by rw [← hcb, h92]; rfl
  have h1 : 1 < s.size := by omega
  have h1I : ((1 : Nat) : Int) < (s.size : Int) := by omega
  have h1n : ((s.size : Int) == 1) = false := by rw [beq_eq_false_iff_ne]; omega
  obtain ⟨d, hd⟩ : ∃ c : Int, (s[1].toNat : Int) = c := ⟨_, rfl⟩
  have hdb : byteAt s 1 = d := (byteAt_eq h1).trans hd
  rw [hdb] at hk
  have HE := Lib.hid (show firstT s q = some ⟨8, true, 2⟩ by rw [HE0]; unfold escT; rw [if_neg (show ¬ s.size ≤ 1 by omega), if_neg (show ¬ byteAt s 1 = q by omega), show shortC (byteAt s 1) = some 8 by rw [hdb, hk]; rfl])
  have n0 : (d == 97) = false := by rw [beq_eq_false_iff_ne]; omega
  have n1 : (d == 98) = true := by rw [beq_iff_eq]; exact hk
  have q0 : 0 ≤ q := by omega
  have q1 : q < 256 := by omega
  clear h92 hcb HE0 g9 hq hdb hk hz
  go_enter Tryz.func19, Tryz.ntmps19
  go_wp2_with fail
  go_loop [41] (fun i => ∃ k : Nat, k ≤ 1 ∧ i = .int .i64 k) (fun i => 9 - (intOf i).toNat)
  case atStart => exact ⟨0, Nat.zero_le _, rfl⟩
  case round =>
    obtain ⟨k, hkl, rfl⟩ := hrel
    rcases (show k = 0 ∨ k = 1 by omega) with rfl | rfl
    · go_wp2_with fail
      go_round
      case rel => exact ⟨1, by decide, rfl⟩
      case measure => simp [intOf]
    · go_wp2_with fail
      refine bodyPost_ret (v := .agg #[.int .i32 8, .bool true, .int .i64 2]) (by simp [results, Tryz.results19, go_sem]) rfl ⟨oV_some HE.out, (((Below.refl _ _).alloc (Nat.le_refl _) _).alloc (by simp) _).alloc (by first | (simp; done) | (simp; omega)) _⟩
set_option maxHeartbeats 16000000 in
set_option maxRecDepth 100000 in
theorem one_hit2 (s : ByteArray) (q : Int) (w : World) (hs : s.size ≤ 4010) (hq : q = 39 ∨ q = 34) (hz : 2 ≤ s.size) (h92 : byteAt s 0 = 92) (hk : byteAt s 1 = 102) :
    Calls Tryz.prog 19 #[.string s, .int .u8 q] w fun e w' => e = .returned (oV (firstT s q)) ∧ Below w.heap.size w w' := by
  have h0 : 0 < s.size := by omega
  have g9 : ¬ (s.size = 0 ∨ byteAt s 0 = 10 ∨ byteAt s 0 = q) := by omega
  have HE0 : firstT s q = escT s q := by unfold firstT; rw [if_neg g9, if_pos h92]
  have hsI : (0 : Int) < (s.size : Int) := by omega
  have hnz : ((s.size : Int) == 0) = false := by rw [beq_eq_false_iff_ne]; omega
  obtain ⟨c, hc⟩ : ∃ c : Int, (s[0].toNat : Int) = c := ⟨_, rfl⟩
  have hcb : byteAt s 0 = c := (byteAt_eq h0).trans hc
  have g : (c == q) = false := by rw [beq_eq_false_iff_ne]; omega
  have g2 : (c == 10) = false := by rw [beq_eq_false_iff_ne]; omega
  have g3 : (c != 92) = false := by rw [← hcb, h92]; rfl
  have h1 : 1 < s.size := by omega
  have h1I : ((1 : Nat) : Int) < (s.size : Int) := by omega
  have h1n : ((s.size : Int) == 1) = false := by rw [beq_eq_false_iff_ne]; omega
  obtain ⟨d, hd⟩ : ∃ c : Int, (s[1].toNat : Int) = c := ⟨_, rfl⟩
  have hdb : byteAt s 1 = d := (byteAt_eq h1).trans hd
  rw [hdb] at hk
  have HE := Lib.hid (show firstT s q = some ⟨12, true, 2⟩ by rw [HE0]; unfold escT; rw [if_neg (show ¬ s.size ≤ 1 by omega), if_neg (show ¬ byteAt s 1 = q by omega), show shortC (byteAt s 1) = some 12 by rw [hdb, hk]; rfl])
  have n0 : (d == 97) = false := by rw [beq_eq_false_iff_ne]; omega
  have n1 : (d == 98) = false := by rw [beq_eq_false_iff_ne]; omega
  have n2 : (d == 102) = true := by rw [beq_iff_eq]; exact hk
  have q0 : 0 ≤ q := by omega
  have q1 : q < 256 := by omega
  clear h92 hcb HE0 g9 hq hdb hk hz
  go_enter Tryz.func19, Tryz.ntmps19
  go_wp2_with fail
  go_loop [41] (fun i => ∃ k : Nat, k ≤ 2 ∧ i = .int .i64 k) (fun i => 9 - (intOf i).toNat)
  case atStart => exact ⟨0, Nat.zero_le _, rfl⟩
  case round =>
    obtain ⟨k, hkl, rfl⟩ := hrel
    rcases (show k = 0 ∨ k = 1 ∨ k = 2 by omega) with rfl | rfl | rfl
    · go_wp2_with fail
      go_round
      case rel => exact ⟨1, by decide, rfl⟩
      case measure => simp [intOf]
    · go_wp2_with fail
      go_round
      case rel => exact ⟨2, by decide, rfl⟩
      case measure => simp [intOf]
    · go_wp2_with fail
      refine bodyPost_ret (v := .agg #[.int .i32 12, .bool true, .int .i64 2]) (by simp [results, Tryz.results19, go_sem]) rfl ⟨oV_some HE.out, (((Below.refl _ _).alloc (Nat.le_refl _) _).alloc (by simp) _).alloc (by first | (simp; done) | (simp; omega)) _⟩
set_option maxHeartbeats 16000000 in
set_option maxRecDepth 100000 in
theorem one_hit3 (s : ByteArray) (q : Int) (w : World) (hs : s.size ≤ 4010) (hq : q = 39 ∨ q = 34) (hz : 2 ≤ s.size) (h92 : byteAt s 0 = 92) (hk : byteAt s 1 = 110) :
    Calls Tryz.prog 19 #[.string s, .int .u8 q] w fun e w' => e = .returned (oV (firstT s q)) ∧ Below w.heap.size w w' := by
  have h0 : 0 < s.size := by omega
  have g9 : ¬ (s.size = 0 ∨ byteAt s 0 = 10 ∨ byteAt s 0 = q) := by omega
  have HE0 : firstT s q = escT s q := by unfold firstT; rw [if_neg g9, if_pos h92]
  have hsI : (0 : Int) < (s.size : Int) := by omega
  have hnz : ((s.size : Int) == 0) = false := by rw [beq_eq_false_iff_ne]; omega
  obtain ⟨c, hc⟩ : ∃ c : Int, (s[0].toNat : Int) = c := ⟨_, rfl⟩
  have hcb : byteAt s 0 = c := (byteAt_eq h0).trans hc
  have g : (c == q) = false := by rw [beq_eq_false_iff_ne]; omega
  have g2 : (c == 10) = false := by rw [beq_eq_false_iff_ne]; omega
  have g3 : (c != 92) = false := by rw [← hcb, h92]; rfl
  have h1 : 1 < s.size := by omega
  have h1I : ((1 : Nat) : Int) < (s.size : Int) := by omega
  have h1n : ((s.size : Int) == 1) = false := by rw [beq_eq_false_iff_ne]; omega
  obtain ⟨d, hd⟩ : ∃ c : Int, (s[1].toNat : Int) = c := ⟨_, rfl⟩
  have hdb : byteAt s 1 = d := (byteAt_eq h1).trans hd
  rw [hdb] at hk
  have HE := Lib.hid (show firstT s q = some ⟨10, true, 2⟩ by rw [HE0]; unfold escT; rw [if_neg (show ¬ s.size ≤ 1 by omega), if_neg (show ¬ byteAt s 1 = q by omega), show shortC (byteAt s 1) = some 10 by rw [hdb, hk]; rfl])
  have n0 : (d == 97) = false := by rw [beq_eq_false_iff_ne]; omega
  have n1 : (d == 98) = false := by rw [beq_eq_false_iff_ne]; omega
  have n2 : (d == 102) = false := by rw [beq_eq_false_iff_ne]; omega
  have n3 : (d == 110) = true := by rw [beq_iff_eq]; exact hk
  have q0 : 0 ≤ q := by omega
  have q1 : q < 256 := by omega
  clear h92 hcb HE0 g9 hq hdb hk hz
  go_enter Tryz.func19, Tryz.ntmps19
  go_wp2_with fail
  go_loop [41] (fun i => ∃ k : Nat, k ≤ 3 ∧ i = .int .i64 k) (fun i => 9 - (intOf i).toNat)
  case atStart => exact ⟨0, Nat.zero_le _, rfl⟩
  case round =>
    obtain ⟨k, hkl, rfl⟩ := hrel
    rcases (show k = 0 ∨ k = 1 ∨ k = 2 ∨ k = 3 by omega) with rfl | rfl | rfl | rfl
    · go_wp2_with fail
      go_round
      case rel => exact ⟨1, by decide, rfl⟩
      case measure => simp [intOf]
    · go_wp2_with fail
      go_round
      case rel => exact ⟨2, by decide, rfl⟩
      case measure => simp [intOf]
    · go_wp2_with fail
      go_round
      case rel => exact ⟨3, by decide, rfl⟩
      case measure => simp [intOf]
    · go_wp2_with fail
      refine bodyPost_ret (v := .agg #[.int .i32 10, .bool true, .int .i64 2]) (by simp [results, Tryz.results19, go_sem]) rfl ⟨oV_some HE.out, (((Below.refl _ _).alloc (Nat.le_refl _) _).alloc (by simp) _).alloc (by first | (simp; done) | (simp; omega)) _⟩
set_option maxHeartbeats 16000000 in
set_option maxRecDepth 100000 in
theorem one_hit4 (s : ByteArray) (q : Int) (w : World) (hs : s.size ≤ 4010) (hq : q = 39 ∨ q = 34) (hz : 2 ≤ s.size) (h92 : byteAt s 0 = 92) (hk : byteAt s 1 = 114) :
    Calls Tryz.prog 19 #[.string s, .int .u8 q] w fun e w' => e = .returned (oV (firstT s q)) ∧ Below w.heap.size w w' := by
  have h0 : 0 < s.size := by omega
  have g9 : ¬ (s.size = 0 ∨ byteAt s 0 = 10 ∨ byteAt s 0 = q) := by omega
  have HE0 : firstT s q = escT s q := by unfold firstT; rw [if_neg g9, if_pos h92]
  have hsI : (0 : Int) < (s.size : Int) := by omega
  have hnz : ((s.size : Int) == 0) = false := by rw [beq_eq_false_iff_ne]; omega
  obtain ⟨c, hc⟩ : ∃ c : Int, (s[0].toNat : Int) = c := ⟨_, rfl⟩
  have hcb : byteAt s 0 = c := (byteAt_eq h0).trans hc
  have g : (c == q) = false := by rw [beq_eq_false_iff_ne]; omega
  have g2 : (c == 10) = false := by rw [beq_eq_false_iff_ne]; omega
  have g3 : (c != 92) = false := by rw [← hcb, h92]; rfl
  have h1 : 1 < s.size := by omega
  have h1I : ((1 : Nat) : Int) < (s.size : Int) := by omega
  have h1n : ((s.size : Int) == 1) = false := by rw [beq_eq_false_iff_ne]; omega
  obtain ⟨d, hd⟩ : ∃ c : Int, (s[1].toNat : Int) = c := ⟨_, rfl⟩
  have hdb : byteAt s 1 = d := (byteAt_eq h1).trans hd
  rw [hdb] at hk
  have HE := Lib.hid (show firstT s q = some ⟨13, true, 2⟩ by rw [HE0]; unfold escT; rw [if_neg (show ¬ s.size ≤ 1 by omega), if_neg (show ¬ byteAt s 1 = q by omega), show shortC (byteAt s 1) = some 13 by rw [hdb, hk]; rfl])
  have n0 : (d == 97) = false := by rw [beq_eq_false_iff_ne]; omega
  have n1 : (d == 98) = false := by rw [beq_eq_false_iff_ne]; omega
  have n2 : (d == 102) = false := by rw [beq_eq_false_iff_ne]; omega
  have n3 : (d == 110) = false := by rw [beq_eq_false_iff_ne]; omega
  have n4 : (d == 114) = true := by rw [beq_iff_eq]; exact hk
  have q0 : 0 ≤ q := by omega
  have q1 : q < 256 := by omega
  clear h92 hcb HE0 g9 hq hdb hk hz
  go_enter Tryz.func19, Tryz.ntmps19
  go_wp2_with fail
  go_loop [41] (fun i => ∃ k : Nat, k ≤ 4 ∧ i = .int .i64 k) (fun i => 9 - (intOf i).toNat)
  case atStart => exact ⟨0, Nat.zero_le _, rfl⟩
  case round =>
    obtain ⟨k, hkl, rfl⟩ := hrel
    rcases (show k = 0 ∨ k = 1 ∨ k = 2 ∨ k = 3 ∨ k = 4 by omega) with rfl | rfl | rfl | rfl | rfl
    · go_wp2_with fail
      go_round
      case rel => exact ⟨1, by decide, rfl⟩
      case measure => simp [intOf]
    · go_wp2_with fail
      go_round
      case rel => exact ⟨2, by decide, rfl⟩
      case measure => simp [intOf]
    · go_wp2_with fail
      go_round
      case rel => exact ⟨3, by decide, rfl⟩
      case measure => simp [intOf]
    · go_wp2_with fail
      go_round
      case rel => exact ⟨4, by decide, rfl⟩
      case measure => simp [intOf]
    · go_wp2_with fail
      refine bodyPost_ret (v := .agg #[.int .i32 13, .bool true, .int .i64 2]) (by simp [results, Tryz.results19, go_sem]) rfl ⟨oV_some HE.out, (((Below.refl _ _).alloc (Nat.le_refl _) _).alloc (by simp) _).alloc (by first | (simp; done) | (simp; omega)) _⟩
set_option maxHeartbeats 16000000 in
set_option maxRecDepth 100000 in
theorem one_hit5 (s : ByteArray) (q : Int) (w : World) (hs : s.size ≤ 4010) (hq : q = 39 ∨ q = 34) (hz : 2 ≤ s.size) (h92 : byteAt s 0 = 92) (hk : byteAt s 1 = 116) :
    Calls Tryz.prog 19 #[.string s, .int .u8 q] w fun e w' => e = .returned (oV (firstT s q)) ∧ Below w.heap.size w w' := by
  have h0 : 0 < s.size := by omega
  have g9 : ¬ (s.size = 0 ∨ byteAt s 0 = 10 ∨ byteAt s 0 = q) := by omega
  have HE0 : firstT s q = escT s q := by unfold firstT; rw [if_neg g9, if_pos h92]
  have hsI : (0 : Int) < (s.size : Int) := by omega
  have hnz : ((s.size : Int) == 0) = false := by rw [beq_eq_false_iff_ne]; omega
  obtain ⟨c, hc⟩ : ∃ c : Int, (s[0].toNat : Int) = c := ⟨_, rfl⟩
  have hcb : byteAt s 0 = c := (byteAt_eq h0).trans hc
  have g : (c == q) = false := by rw [beq_eq_false_iff_ne]; omega
  have g2 : (c == 10) = false := by rw [beq_eq_false_iff_ne]; omega
  have g3 : (c != 92) = false := by rw [← hcb, h92]; rfl
  have h1 : 1 < s.size := by omega
  have h1I : ((1 : Nat) : Int) < (s.size : Int) := by omega
  have h1n : ((s.size : Int) == 1) = false := by rw [beq_eq_false_iff_ne]; omega
  obtain ⟨d, hd⟩ : ∃ c : Int, (s[1].toNat : Int) = c := ⟨_, rfl⟩
  have hdb : byteAt s 1 = d := (byteAt_eq h1).trans hd
  rw [hdb] at hk
  have HE := Lib.hid (show firstT s q = some ⟨9, true, 2⟩ by rw [HE0]; unfold escT; rw [if_neg (show ¬ s.size ≤ 1 by omega), if_neg (show ¬ byteAt s 1 = q by omega), show shortC (byteAt s 1) = some 9 by rw [hdb, hk]; rfl])
  have n0 : (d == 97) = false := by rw [beq_eq_false_iff_ne]; omega
  have n1 : (d == 98) = false := by rw [beq_eq_false_iff_ne]; omega
  have n2 : (d == 102) = false := by rw [beq_eq_false_iff_ne]; omega
  have n3 : (d == 110) = false := by rw [beq_eq_false_iff_ne]; omega
  have n4 : (d == 114) = false := by rw [beq_eq_false_iff_ne]; omega
  have n5 : (d == 116) = true := by rw [beq_iff_eq]; exact hk
  have q0 : 0 ≤ q := by omega
  have q1 : q < 256 := by omega
  clear h92 hcb HE0 g9 hq hdb hk hz
  go_enter Tryz.func19, Tryz.ntmps19
  go_wp2_with fail
  go_loop [41] (fun i => ∃ k : Nat, k ≤ 5 ∧ i = .int .i64 k) (fun i => 9 - (intOf i).toNat)
  case atStart => exact ⟨0, Nat.zero_le _, rfl⟩
  case round =>
    obtain ⟨k, hkl, rfl⟩ := hrel
    rcases (show k = 0 ∨ k = 1 ∨ k = 2 ∨ k = 3 ∨ k = 4 ∨ k = 5 by omega) with rfl | rfl | rfl | rfl | rfl | rfl
    · go_wp2_with fail
      go_round
      case rel => exact ⟨1, by decide, rfl⟩
      case measure => simp [intOf]
    · go_wp2_with fail
      go_round
      case rel => exact ⟨2, by decide, rfl⟩
      case measure => simp [intOf]
    · go_wp2_with fail
      go_round
      case rel => exact ⟨3, by decide, rfl⟩
      case measure => simp [intOf]
    · go_wp2_with fail
      go_round
      case rel => exact ⟨4, by decide, rfl⟩
      case measure => simp [intOf]
    · go_wp2_with fail
      go_round
      case rel => exact ⟨5, by decide, rfl⟩
      case measure => simp [intOf]
    · go_wp2_with fail
      refine bodyPost_ret (v := .agg #[.int .i32 9, .bool true, .int .i64 2]) (by simp [results, Tryz.results19, go_sem]) rfl ⟨oV_some HE.out, (((Below.refl _ _).alloc (Nat.le_refl _) _).alloc (by simp) _).alloc (by first | (simp; done) | (simp; omega)) _⟩
set_option maxHeartbeats 16000000 in
set_option maxRecDepth 100000 in
theorem one_hit6 (s : ByteArray) (q : Int) (w : World) (hs : s.size ≤ 4010) (hq : q = 39 ∨ q = 34) (hz : 2 ≤ s.size) (h92 : byteAt s 0 = 92) (hk : byteAt s 1 = 118) :
    Calls Tryz.prog 19 #[.string s, .int .u8 q] w fun e w' => e = .returned (oV (firstT s q)) ∧ Below w.heap.size w w' := by
  have h0 : 0 < s.size := by omega
  have g9 : ¬ (s.size = 0 ∨ byteAt s 0 = 10 ∨ byteAt s 0 = q) := by omega
  have HE0 : firstT s q = escT s q := by unfold firstT; rw [if_neg g9, if_pos h92]
  have hsI : (0 : Int) < (s.size : Int) := by omega
  have hnz : ((s.size : Int) == 0) = false := by rw [beq_eq_false_iff_ne]; omega
  obtain ⟨c, hc⟩ : ∃ c : Int, (s[0].toNat : Int) = c := ⟨_, rfl⟩
  have hcb : byteAt s 0 = c := (byteAt_eq h0).trans hc
  have g : (c == q) = false := by rw [beq_eq_false_iff_ne]; omega
  have g2 : (c == 10) = false := by rw [beq_eq_false_iff_ne]; omega
  have g3 : (c != 92) = false := by rw [← hcb, h92]; rfl
  have h1 : 1 < s.size := by omega
  have h1I : ((1 : Nat) : Int) < (s.size : Int) := by omega
  have h1n : ((s.size : Int) == 1) = false := by rw [beq_eq_false_iff_ne]; omega
  obtain ⟨d, hd⟩ : ∃ c : Int, (s[1].toNat : Int) = c := ⟨_, rfl⟩
  have hdb : byteAt s 1 = d := (byteAt_eq h1).trans hd
  rw [hdb] at hk
  have HE := Lib.hid (show firstT s q = some ⟨11, true, 2⟩ by rw [HE0]; unfold escT; rw [if_neg (show ¬ s.size ≤ 1 by omega), if_neg (show ¬ byteAt s 1 = q by omega), show shortC (byteAt s 1) = some 11 by rw [hdb, hk]; rfl])
  have n0 : (d == 97) = false := by rw [beq_eq_false_iff_ne]; omega
  have n1 : (d == 98) = false := by rw [beq_eq_false_iff_ne]; omega
  have n2 : (d == 102) = false := by rw [beq_eq_false_iff_ne]; omega
  have n3 : (d == 110) = false := by rw [beq_eq_false_iff_ne]; omega
  have n4 : (d == 114) = false := by rw [beq_eq_false_iff_ne]; omega
  have n5 : (d == 116) = false := by rw [beq_eq_false_iff_ne]; omega
  have n6 : (d == 118) = true := by rw [beq_iff_eq]; exact hk
  have q0 : 0 ≤ q := by omega
  have q1 : q < 256 := by omega
  clear h92 hcb HE0 g9 hq hdb hk hz
  go_enter Tryz.func19, Tryz.ntmps19
  go_wp2_with fail
  go_loop [41] (fun i => ∃ k : Nat, k ≤ 6 ∧ i = .int .i64 k) (fun i => 9 - (intOf i).toNat)
  case atStart => exact ⟨0, Nat.zero_le _, rfl⟩
  case round =>
    obtain ⟨k, hkl, rfl⟩ := hrel
    rcases (show k = 0 ∨ k = 1 ∨ k = 2 ∨ k = 3 ∨ k = 4 ∨ k = 5 ∨ k = 6 by omega) with rfl | rfl | rfl | rfl | rfl | rfl | rfl
    · go_wp2_with fail
      go_round
      case rel => exact ⟨1, by decide, rfl⟩
      case measure => simp [intOf]
    · go_wp2_with fail
      go_round
      case rel => exact ⟨2, by decide, rfl⟩
      case measure => simp [intOf]
    · go_wp2_with fail
      go_round
      case rel => exact ⟨3, by decide, rfl⟩
      case measure => simp [intOf]
    · go_wp2_with fail
      go_round
      case rel => exact ⟨4, by decide, rfl⟩
      case measure => simp [intOf]
    · go_wp2_with fail
      go_round
      case rel => exact ⟨5, by decide, rfl⟩
      case measure => simp [intOf]
    · go_wp2_with fail
      go_round
      case rel => exact ⟨6, by decide, rfl⟩
      case measure => simp [intOf]
    · go_wp2_with fail
      refine bodyPost_ret (v := .agg #[.int .i32 11, .bool true, .int .i64 2]) (by simp [results, Tryz.results19, go_sem]) rfl ⟨oV_some HE.out, (((Below.refl _ _).alloc (Nat.le_refl _) _).alloc (by simp) _).alloc (by first | (simp; done) | (simp; omega)) _⟩
set_option maxHeartbeats 16000000 in
set_option maxRecDepth 100000 in
theorem one_hit7 (s : ByteArray) (q : Int) (w : World) (hs : s.size ≤ 4010) (hq : q = 39 ∨ q = 34) (hz : 2 ≤ s.size) (h92 : byteAt s 0 = 92) (hk : byteAt s 1 = 92) :
    Calls Tryz.prog 19 #[.string s, .int .u8 q] w fun e w' => e = .returned (oV (firstT s q)) ∧ Below w.heap.size w w' := by
  have h0 : 0 < s.size := by omega
  have g9 : ¬ (s.size = 0 ∨ byteAt s 0 = 10 ∨ byteAt s 0 = q) := by omega
  have HE0 : firstT s q = escT s q := by unfold firstT; rw [if_neg g9, if_pos h92]
  have hsI : (0 : Int) < (s.size : Int) := by omega
  have hnz : ((s.size : Int) == 0) = false := by rw [beq_eq_false_iff_ne]; omega
  obtain ⟨c, hc⟩ : ∃ c : Int, (s[0].toNat : Int) = c := ⟨_, rfl⟩
  have hcb : byteAt s 0 = c := (byteAt_eq h0).trans hc
  have g : (c == q) = false := by rw [beq_eq_false_iff_ne]; omega
  have g2 : (c == 10) = false := by rw [beq_eq_false_iff_ne]; omega
  have g3 : (c != 92) = false := by rw [← hcb, h92]; rfl
  have h1 : 1 < s.size := by omega
  have h1I : ((1 : Nat) : Int) < (s.size : Int) := by omega
  have h1n : ((s.size : Int) == 1) = false := by rw [beq_eq_false_iff_ne]; omega
  obtain ⟨d, hd⟩ : ∃ c : Int, (s[1].toNat : Int) = c := ⟨_, rfl⟩
  have hdb : byteAt s 1 = d := (byteAt_eq h1).trans hd
  rw [hdb] at hk
  have HE := Lib.hid (show firstT s q = some ⟨92, true, 2⟩ by rw [HE0]; unfold escT; rw [if_neg (show ¬ s.size ≤ 1 by omega), if_neg (show ¬ byteAt s 1 = q by omega), show shortC (byteAt s 1) = some 92 by rw [hdb, hk]; rfl])
  have n0 : (d == 97) = false := by rw [beq_eq_false_iff_ne]; omega
  have n1 : (d == 98) = false := by rw [beq_eq_false_iff_ne]; omega
  have n2 : (d == 102) = false := by rw [beq_eq_false_iff_ne]; omega
  have n3 : (d == 110) = false := by rw [beq_eq_false_iff_ne]; omega
  have n4 : (d == 114) = false := by rw [beq_eq_false_iff_ne]; omega
  have n5 : (d == 116) = false := by rw [beq_eq_false_iff_ne]; omega
  have n6 : (d == 118) = false := by rw [beq_eq_false_iff_ne]; omega
  have n7 : (d == 92) = true := by rw [beq_iff_eq]; exact hk
  have q0 : 0 ≤ q := by omega
  have q1 : q < 256 := by omega
  clear h92 hcb HE0 g9 hq hdb hk hz
  go_enter Tryz.func19, Tryz.ntmps19
  go_wp2_with fail
  go_loop [41] (fun i => ∃ k : Nat, k ≤ 7 ∧ i = .int .i64 k) (fun i => 9 - (intOf i).toNat)
  case atStart => exact ⟨0, Nat.zero_le _, rfl⟩
  case round =>
    obtain ⟨k, hkl, rfl⟩ := hrel
    rcases (show k = 0 ∨ k = 1 ∨ k = 2 ∨ k = 3 ∨ k = 4 ∨ k = 5 ∨ k = 6 ∨ k = 7 by omega) with rfl | rfl | rfl | rfl | rfl | rfl | rfl | rfl
    · go_wp2_with fail
      go_round
      case rel => exact ⟨1, by decide, rfl⟩
      case measure => simp [intOf]
    · go_wp2_with fail
      go_round
      case rel => exact ⟨2, by decide, rfl⟩
      case measure => simp [intOf]
    · go_wp2_with fail
      go_round
      case rel => exact ⟨3, by decide, rfl⟩
      case measure => simp [intOf]
    · go_wp2_with fail
      go_round
      case rel => exact ⟨4, by decide, rfl⟩
      case measure => simp [intOf]
    · go_wp2_with fail
      go_round
      case rel => exact ⟨5, by decide, rfl⟩
      case measure => simp [intOf]
    · go_wp2_with fail
      go_round
      case rel => exact ⟨6, by decide, rfl⟩
      case measure => simp [intOf]
    · go_wp2_with fail
      go_round
      case rel => exact ⟨7, by decide, rfl⟩
      case measure => simp [intOf]
    · go_wp2_with fail
      refine bodyPost_ret (v := .agg #[.int .i32 92, .bool true, .int .i64 2]) (by simp [results, Tryz.results19, go_sem]) rfl ⟨oV_some HE.out, (((Below.refl _ _).alloc (Nat.le_refl _) _).alloc (by simp) _).alloc (by first | (simp; done) | (simp; omega)) _⟩
set_option maxHeartbeats 16000000 in
set_option maxRecDepth 100000 in
theorem one_hit8 (s : ByteArray) (q : Int) (w : World) (hs : s.size ≤ 4010) (hq : q = 39 ∨ q = 34) (hz : 2 ≤ s.size) (h92 : byteAt s 0 = 92) (hk : byteAt s 1 = q) :
    Calls Tryz.prog 19 #[.string s, .int .u8 q] w fun e w' => e = .returned (oV (firstT s q)) ∧ Below w.heap.size w w' := by
  have h0 : 0 < s.size := by omega
  have g9 : ¬ (s.size = 0 ∨ byteAt s 0 = 10 ∨ byteAt s 0 = q) := by omega
  have HE0 : firstT s q = escT s q := by unfold firstT; rw [if_neg g9, if_pos h92]
  have hsI : (0 : Int) < (s.size : Int) := by omega
  have hnz : ((s.size : Int) == 0) = false := by rw [beq_eq_false_iff_ne]; omega
  obtain ⟨c, hc⟩ : ∃ c : Int, (s[0].toNat : Int) = c := ⟨_, rfl⟩
  have hcb : byteAt s 0 = c := (byteAt_eq h0).trans hc
  have g : (c == q) = false := by rw [beq_eq_false_iff_ne]; omega
  have g2 : (c == 10) = false := by rw [beq_eq_false_iff_ne]; omega
  have g3 : (c != 92) = false := by rw [← hcb, h92]; rfl
  have h1 : 1 < s.size := by omega
  have h1I : ((1 : Nat) : Int) < (s.size : Int) := by omega
  have h1n : ((s.size : Int) == 1) = false := by rw [beq_eq_false_iff_ne]; omega
  obtain ⟨d, hd⟩ : ∃ c : Int, (s[1].toNat : Int) = c := ⟨_, rfl⟩
  have hdb : byteAt s 1 = d := (byteAt_eq h1).trans hd
  rw [hdb] at hk
  have HE := Lib.hid (show firstT s q = some ⟨q, true, 2⟩ by rw [HE0]; unfold escT; rw [if_neg (show ¬ s.size ≤ 1 by omega), if_pos (show byteAt s 1 = q by omega)])
  have n0 : (d == 97) = false := by rw [beq_eq_false_iff_ne]; omega
  have n1 : (d == 98) = false := by rw [beq_eq_false_iff_ne]; omega
  have n2 : (d == 102) = false := by rw [beq_eq_false_iff_ne]; omega
  have n3 : (d == 110) = false := by rw [beq_eq_false_iff_ne]; omega
  have n4 : (d == 114) = false := by rw [beq_eq_false_iff_ne]; omega
  have n5 : (d == 116) = false := by rw [beq_eq_false_iff_ne]; omega
  have n6 : (d == 118) = false := by rw [beq_eq_false_iff_ne]; omega
  have n7 : (d == 92) = false := by rw [beq_eq_false_iff_ne]; omega
  have n8 : (d == q) = true := by rw [beq_iff_eq]; exact hk
  have q0 : 0 ≤ q := by omega
  have q1 : q < 256 := by omega
  clear h92 hcb HE0 g9 hq hdb hk hz
  go_enter Tryz.func19, Tryz.ntmps19
  go_wp2_with fail
  go_loop [41] (fun i => ∃ k : Nat, k ≤ 8 ∧ i = .int .i64 k) (fun i => 9 - (intOf i).toNat)
  case atStart => exact ⟨0, Nat.zero_le _, rfl⟩
  case round =>
    obtain ⟨k, hkl, rfl⟩ := hrel
    rcases (show k = 0 ∨ k = 1 ∨ k = 2 ∨ k = 3 ∨ k = 4 ∨ k = 5 ∨ k = 6 ∨ k = 7 ∨ k = 8 by omega) with rfl | rfl | rfl | rfl | rfl | rfl | rfl | rfl | rfl
    · go_wp2_with fail
      go_round
      case rel => exact ⟨1, by decide, rfl⟩
      case measure => simp [intOf]
    · go_wp2_with fail
      go_round
      case rel => exact ⟨2, by decide, rfl⟩
      case measure => simp [intOf]
    · go_wp2_with fail
      go_round
      case rel => exact ⟨3, by decide, rfl⟩
      case measure => simp [intOf]
    · go_wp2_with fail
      go_round
      case rel => exact ⟨4, by decide, rfl⟩
      case measure => simp [intOf]
    · go_wp2_with fail
      go_round
      case rel => exact ⟨5, by decide, rfl⟩
      case measure => simp [intOf]
    · go_wp2_with fail
      go_round
      case rel => exact ⟨6, by decide, rfl⟩
      case measure => simp [intOf]
    · go_wp2_with fail
      go_round
      case rel => exact ⟨7, by decide, rfl⟩
      case measure => simp [intOf]
    · go_wp2_with fail
      go_round
      case rel => exact ⟨8, by decide, rfl⟩
      case measure => simp [intOf]
    · go_wp2_with fail
      refine bodyPost_ret (v := .agg #[.int .i32 q, .bool true, .int .i64 2]) (by simp [results, Tryz.results19, go_sem]) rfl ⟨oV_some HE.out, (((Below.refl _ _).alloc (Nat.le_refl _) _).alloc (by simp) _).alloc (by first | (simp; done) | (simp; omega)) _⟩
set_option maxHeartbeats 16000000 in
set_option maxRecDepth 100000 in
theorem one_x (s : ByteArray) (q : Int) (w : World) (hs : s.size ≤ 4010) (hq : q = 39 ∨ q = 34) (hz : 2 ≤ s.size) (h92 : byteAt s 0 = 92) (hq1 : byteAt s 1 ≠ q) (hsh : shortC (byteAt s 1) = none) (hk : byteAt s 1 = 120) :
    Calls Tryz.prog 19 #[.string s, .int .u8 q] w fun e w' => e = .returned (oV (firstT s q)) ∧ Below w.heap.size w w' := by
  have hk0 := hk
  have h0 : 0 < s.size := by omega
  have g9 : ¬ (s.size = 0 ∨ byteAt s 0 = 10 ∨ byteAt s 0 = q) := by omega
  have HE0 : firstT s q = escT s q := by unfold firstT; rw [if_neg g9, if_pos h92]
  have hsI : (0 : Int) < (s.size : Int) := by omega
  have hnz : ((s.size : Int) == 0) = false := by rw [beq_eq_false_iff_ne]; omega
  obtain ⟨c, hc⟩ : ∃ c : Int, (s[0].toNat : Int) = c := ⟨_, rfl⟩
  have hcb : byteAt s 0 = c := (byteAt_eq h0).trans hc
  have g : (c == q) = false := by rw [beq_eq_false_iff_ne]; omega
  have g2 : (c == 10) = false := by rw [beq_eq_false_iff_ne]; omega
  have g3 : (c != 92) = false := by rw [← hcb, h92]; rfl
  have h1 : 1 < s.size := by omega
  have h1I : ((1 : Nat) : Int) < (s.size : Int) := by omega
  have h1n : ((s.size : Int) == 1) = false := by rw [beq_eq_false_iff_ne]; omega
  obtain ⟨d, hd⟩ : ∃ c : Int, (s[1].toNat : Int) = c := ⟨_, rfl⟩
  have hdb : byteAt s 1 = d := (byteAt_eq h1).trans hd
  rw [hdb] at hk
  have hnk : d ≠ 97 ∧ d ≠ 98 ∧ d ≠ 102 ∧ d ≠ 110 ∧ d ≠ 114 ∧ d ≠ 116 ∧ d ≠ 118 ∧ d ≠ 92 := by
    rw [hdb] at hsh
    refine ⟨?_, ?_, ?_, ?_, ?_, ?_, ?_, ?_⟩ <;> (intro e; rw [e] at hsh; revert hsh; decide)
  rw [hdb] at hq1
  have n0 : (d == 97) = false := by rw [beq_eq_false_iff_ne]; omega
  have n1 : (d == 98) = false := by rw [beq_eq_false_iff_ne]; omega
  have n2 : (d == 102) = false := by rw [beq_eq_false_iff_ne]; omega
  have n3 : (d == 110) = false := by rw [beq_eq_false_iff_ne]; omega
  have n4 : (d == 114) = false := by rw [beq_eq_false_iff_ne]; omega
  have n5 : (d == 116) = false := by rw [beq_eq_false_iff_ne]; omega
  have n6 : (d == 118) = false := by rw [beq_eq_false_iff_ne]; omega
  have n7 : (d == 92) = false := by rw [beq_eq_false_iff_ne]; omega
  have n8 : (d == q) = false := by rw [beq_eq_false_iff_ne]; omega
  have g117 : (d == 117) = false := by rw [beq_eq_false_iff_ne]; omega
  have g85 : (d == 85) = false := by rw [beq_eq_false_iff_ne]; omega
  have g120 : (d == 120) = true := by rw [beq_iff_eq]; omega
  have HE1 : firstT s q = hexT s := by rw [HE0]; unfold escT; rw [if_neg (show ¬ s.size ≤ 1 by omega), if_neg (show ¬ byteAt s 1 = q by omega), hsh]; simp only; rw [if_pos hk0]
  have q0 : 0 ≤ q := by omega
  have q1 : q < 256 := by omega
  have h2I : ((2 : Nat) : Int) ≤ (s.size : Int) := by omega
  have hsz := size_ext s 2 s.size (Nat.le_refl _)
  have HV0 := fun w => rvalue_any (s.extract 2 s.size) 2 16 w (.inl rfl) (by decide) (by decide) (by omega)
  rw [numA_end s 2 0 2 16 (by omega), Nat.add_zero] at HV0
  cases hn : numA s 2 2 16 with
  | none =>
    rw [hn] at HV0
    unfold valR at HV0
    have HV := Lib.hid HV0
    have HE := Lib.hid (show firstT s q = none by rw [HE1]; unfold hexT; rw [hn])
    clear h92 hcb HE0 HE1 g9 hq hdb hk hz hk0 hsh hq1 hnk hsz HV0 hn
    go_enter Tryz.func19, Tryz.ntmps19
    go_wp2_with fail
    go_loop [41] (fun i => ∃ k : Nat, k ≤ 9 ∧ i = .int .i64 k) (fun i => 9 - (intOf i).toNat)
    case atStart => exact ⟨0, Nat.zero_le _, rfl⟩
    case round =>
      obtain ⟨k, hkl, rfl⟩ := hrel
      rcases (show k = 0 ∨ k = 1 ∨ k = 2 ∨ k = 3 ∨ k = 4 ∨ k = 5 ∨ k = 6 ∨ k = 7 ∨ k = 8 ∨ k = 9 by omega) with rfl | rfl | rfl | rfl | rfl | rfl | rfl | rfl | rfl | rfl
      · go_wp2_with fail
        go_round
        case rel => exact ⟨1, by decide, rfl⟩
        case measure => simp [intOf]
      · go_wp2_with fail
        go_round
        case rel => exact ⟨2, by decide, rfl⟩
        case measure => simp [intOf]
      · go_wp2_with fail
        go_round
        case rel => exact ⟨3, by decide, rfl⟩
        case measure => simp [intOf]
      · go_wp2_with fail
        go_round
        case rel => exact ⟨4, by decide, rfl⟩
        case measure => simp [intOf]
      · go_wp2_with fail
        go_round
        case rel => exact ⟨5, by decide, rfl⟩
        case measure => simp [intOf]
      · go_wp2_with fail
        go_round
        case rel => exact ⟨6, by decide, rfl⟩
        case measure => simp [intOf]
      · go_wp2_with fail
        go_round
        case rel => exact ⟨7, by decide, rfl⟩
        case measure => simp [intOf]
      · go_wp2_with fail
        go_round
        case rel => exact ⟨8, by decide, rfl⟩
        case measure => simp [intOf]
      · go_wp2_with fail
        go_round
        case rel => exact ⟨9, by decide, rfl⟩
        case measure => simp [intOf]
      · go_wp2_with fail
        refine (HV.out _).mono ?_
        rintro x w' ⟨rfl, rfl⟩
        go_wp2_with fail
        refine bodyPost_ret (v := .agg #[.int .i32 0, .bool false, .int .i64 0]) (by simp [results, Tryz.results19, go_sem]) rfl ⟨oV_none HE.out, ((Below.refl _ _).alloc (Nat.le_refl _) _).alloc (by first | (simp; done) | (simp; omega)) _⟩
  | some v =>
    rw [hn] at HV0
    unfold valR at HV0
    have HV := Lib.hid HV0
    have hbd := numF_bound s 16 (by decide) 2 2 0 v (by decide) (numA_some hn).2
    have v0 : 0 ≤ v := by have := hbd.1; rw [Int.zero_mul] at this; exact this
    have v1 : v ≤ 4294967296 := by
      have := hbd.2
      have h2 : (0 + 1) * (16 : Int) ^ 2 ≤ 4294967296 := by decide
      omega
    have m0 : decide (v < 0) = false := by rw [decide_eq_false_iff_not]; omega
    have v2 : v ≤ 255 := by omega
    have HE := Lib.hid (show firstT s q = some ⟨v, true, 4⟩ by rw [HE1]; unfold hexT; rw [hn])
    clear h92 hcb HE0 HE1 g9 hq hdb hk hz hk0 hsh hq1 hnk hsz HV0 hn hbd
    go_enter Tryz.func19, Tryz.ntmps19
    go_wp2_with fail
    go_loop [41] (fun i => ∃ k : Nat, k ≤ 9 ∧ i = .int .i64 k) (fun i => 9 - (intOf i).toNat)
    case atStart => exact ⟨0, Nat.zero_le _, rfl⟩
    case round =>
      obtain ⟨k, hkl, rfl⟩ := hrel
      rcases (show k = 0 ∨ k = 1 ∨ k = 2 ∨ k = 3 ∨ k = 4 ∨ k = 5 ∨ k = 6 ∨ k = 7 ∨ k = 8 ∨ k = 9 by omega) with rfl | rfl | rfl | rfl | rfl | rfl | rfl | rfl | rfl | rfl
      · go_wp2_with fail
        go_round
        case rel => exact ⟨1, by decide, rfl⟩
        case measure => simp [intOf]
      · go_wp2_with fail
        go_round
        case rel => exact ⟨2, by decide, rfl⟩
        case measure => simp [intOf]
      · go_wp2_with fail
        go_round
        case rel => exact ⟨3, by decide, rfl⟩
        case measure => simp [intOf]
      · go_wp2_with fail
        go_round
        case rel => exact ⟨4, by decide, rfl⟩
        case measure => simp [intOf]
      · go_wp2_with fail
        go_round
        case rel => exact ⟨5, by decide, rfl⟩
        case measure => simp [intOf]
      · go_wp2_with fail
        go_round
        case rel => exact ⟨6, by decide, rfl⟩
        case measure => simp [intOf]
      · go_wp2_with fail
        go_round
        case rel => exact ⟨7, by decide, rfl⟩
        case measure => simp [intOf]
      · go_wp2_with fail
        go_round
        case rel => exact ⟨8, by decide, rfl⟩
        case measure => simp [intOf]
      · go_wp2_with fail
        go_round
        case rel => exact ⟨9, by decide, rfl⟩
        case measure => simp [intOf]
      · go_wp2_with fail
        refine (HV.out _).mono ?_
        rintro x w' ⟨rfl, rfl⟩
        go_wp2_with fail
        refine bodyPost_ret (v := .agg #[.int .i32 v, .bool true, .int .i64 4]) (by simp [results, Tryz.results19, go_sem]) rfl ⟨oV_some HE.out, ((Below.refl _ _).alloc (Nat.le_refl _) _).alloc (by first | (simp; done) | (simp; omega)) _⟩
set_option maxHeartbeats 16000000 in
set_option maxRecDepth 100000 in
theorem one_u4 (s : ByteArray) (q : Int) (w : World) (hs : s.size ≤ 4010) (hq : q = 39 ∨ q = 34) (hz : 2 ≤ s.size) (h92 : byteAt s 0 = 92) (hq1 : byteAt s 1 ≠ q) (hsh : shortC (byteAt s 1) = none) (hk : byteAt s 1 = 117) :
    Calls Tryz.prog 19 #[.string s, .int .u8 q] w fun e w' => e = .returned (oV (firstT s q)) ∧ Below w.heap.size w w' := by
  have hk0 := hk
  have h0 : 0 < s.size := by omega
  have g9 : ¬ (s.size = 0 ∨ byteAt s 0 = 10 ∨ byteAt s 0 = q) := by omega
  have HE0 : firstT s q = escT s q := by unfold firstT; rw [if_neg g9, if_pos h92]
  have hsI : (0 : Int) < (s.size : Int) := by omega
  have hnz : ((s.size : Int) == 0) = false := by rw [beq_eq_false_iff_ne]; omega
  obtain ⟨c, hc⟩ : ∃ c : Int, (s[0].toNat : Int) = c := ⟨_, rfl⟩
  have hcb : byteAt s 0 = c := (byteAt_eq h0).trans hc
  have g : (c == q) = false := by rw [beq_eq_false_iff_ne]; omega
  have g2 : (c == 10) = false := by rw [beq_eq_false_iff_ne]; omega
  have g3 : (c != 92) = false := by rw [← hcb, h92]; rfl
  have h1 : 1 < s.size := by omega
  have h1I : ((1 : Nat) : Int) < (s.size : Int) := by omega
  have h1n : ((s.size : Int) == 1) = false := by rw [beq_eq_false_iff_ne]; omega
  obtain ⟨d, hd⟩ : ∃ c : Int, (s[1].toNat : Int) = c := ⟨_, rfl⟩
  have hdb : byteAt s 1 = d := (byteAt_eq h1).trans hd
  rw [hdb] at hk
  have hnk : d ≠ 97 ∧ d ≠ 98 ∧ d ≠ 102 ∧ d ≠ 110 ∧ d ≠ 114 ∧ d ≠ 116 ∧ d ≠ 118 ∧ d ≠ 92 := by
    rw [hdb] at hsh
    refine ⟨?_, ?_, ?_, ?_, ?_, ?_, ?_, ?_⟩ <;> (intro e; rw [e] at hsh; revert hsh; decide)
  rw [hdb] at hq1
  have n0 : (d == 97) = false := by rw [beq_eq_false_iff_ne]; omega
  have n1 : (d == 98) = false := by rw [beq_eq_false_iff_ne]; omega
  have n2 : (d == 102) = false := by rw [beq_eq_false_iff_ne]; omega
  have n3 : (d == 110) = false := by rw [beq_eq_false_iff_ne]; omega
  have n4 : (d == 114) = false := by rw [beq_eq_false_iff_ne]; omega
  have n5 : (d == 116) = false := by rw [beq_eq_false_iff_ne]; omega
  have n6 : (d == 118) = false := by rw [beq_eq_false_iff_ne]; omega
  have n7 : (d == 92) = false := by rw [beq_eq_false_iff_ne]; omega
  have n8 : (d == q) = false := by rw [beq_eq_false_iff_ne]; omega
  have g117 : (d == 117) = true := by rw [beq_iff_eq]; omega
  have g85 : (d == 85) = false := by rw [beq_eq_false_iff_ne]; omega
  have g120 : (d == 120) = false := by rw [beq_eq_false_iff_ne]; omega
  have HE1 : firstT s q = uniT s 4 := by rw [HE0]; unfold escT; rw [if_neg (show ¬ s.size ≤ 1 by omega), if_neg (show ¬ byteAt s 1 = q by omega), hsh]; simp only; rw [if_neg (show ¬ byteAt s 1 = 120 by omega), if_pos hk0]
  have q0 : 0 ≤ q := by omega
  have q1 : q < 256 := by omega
  have h2I : ((2 : Nat) : Int) ≤ (s.size : Int) := by omega
  have hsz := size_ext s 2 s.size (Nat.le_refl _)
  have HV0 := fun w => rvalue_any (s.extract 2 s.size) 4 16 w (.inl rfl) (by decide) (by decide) (by omega)
  rw [numA_end s 2 0 4 16 (by omega), Nat.add_zero] at HV0
  cases hn : numA s 2 4 16 with
  | none =>
    rw [hn] at HV0
    unfold valR at HV0
    have HV := Lib.hid HV0
    have HE := Lib.hid (show firstT s q = none by rw [HE1]; unfold uniT; rw [hn])
    clear h92 hcb HE0 HE1 g9 hq hdb hk hz hk0 hsh hq1 hnk hsz HV0 hn
    go_enter Tryz.func19, Tryz.ntmps19
    go_wp2_with fail
    go_loop [41] (fun i => ∃ k : Nat, k ≤ 9 ∧ i = .int .i64 k) (fun i => 9 - (intOf i).toNat)
    case atStart => exact ⟨0, Nat.zero_le _, rfl⟩
    case round =>
      obtain ⟨k, hkl, rfl⟩ := hrel
      rcases (show k = 0 ∨ k = 1 ∨ k = 2 ∨ k = 3 ∨ k = 4 ∨ k = 5 ∨ k = 6 ∨ k = 7 ∨ k = 8 ∨ k = 9 by omega) with rfl | rfl | rfl | rfl | rfl | rfl | rfl | rfl | rfl | rfl
      · go_wp2_with fail
        go_round
        case rel => exact ⟨1, by decide, rfl⟩
        case measure => simp [intOf]
      · go_wp2_with fail
        go_round
        case rel => exact ⟨2, by decide, rfl⟩
        case measure => simp [intOf]
      · go_wp2_with fail
        go_round
        case rel => exact ⟨3, by decide, rfl⟩
        case measure => simp [intOf]
      · go_wp2_with fail
        go_round
        case rel => exact ⟨4, by decide, rfl⟩
        case measure => simp [intOf]
      · go_wp2_with fail
        go_round
        case rel => exact ⟨5, by decide, rfl⟩
        case measure => simp [intOf]
      · go_wp2_with fail
        go_round
        case rel => exact ⟨6, by decide, rfl⟩
        case measure => simp [intOf]
      · go_wp2_with fail
        go_round
        case rel => exact ⟨7, by decide, rfl⟩
        case measure => simp [intOf]
      · go_wp2_with fail
        go_round
        case rel => exact ⟨8, by decide, rfl⟩
        case measure => simp [intOf]
      · go_wp2_with fail
        go_round
        case rel => exact ⟨9, by decide, rfl⟩
        case measure => simp [intOf]
      · go_wp2_with fail
        refine (HV.out _).mono ?_
        rintro x w' ⟨rfl, rfl⟩
        go_wp2_with fail
        refine bodyPost_ret (v := .agg #[.int .i32 0, .bool false, .int .i64 0]) (by simp [results, Tryz.results19, go_sem]) rfl ⟨oV_none HE.out, ((Below.refl _ _).alloc (Nat.le_refl _) _).alloc (by first | (simp; done) | (simp; omega)) _⟩
  | some v =>
    rw [hn] at HV0
    unfold valR at HV0
    have HV := Lib.hid HV0
    have hbd := numF_bound s 16 (by decide) 4 2 0 v (by decide) (numA_some hn).2
    have v0 : 0 ≤ v := by have := hbd.1; rw [Int.zero_mul] at this; exact this
    have v1 : v ≤ 4294967296 := by
      have := hbd.2
      have h2 : (0 + 1) * (16 : Int) ^ 4 ≤ 4294967296 := by decide
      omega
    have m0 : decide (v < 0) = false := by rw [decide_eq_false_iff_not]; omega
    cases hl : letV v
    · have HE := Lib.hid (show firstT s q = none by rw [HE1]; unfold uniT; rw [hn]; simp only; rw [if_neg (by rw [hl]; decide)])
      unfold letV at hl
      rw [decide_eq_false_iff_not] at hl
      by_cases h3 : 1114111 < v
      · have m1 := h3
        clear h92 hcb HE0 HE1 g9 hq hdb hk hz hk0 hsh hq1 hnk hsz HV0 hn hbd hl
        go_enter Tryz.func19, Tryz.ntmps19
        go_wp2_with fail
        go_loop [41] (fun i => ∃ k : Nat, k ≤ 9 ∧ i = .int .i64 k) (fun i => 9 - (intOf i).toNat)
        case atStart => exact ⟨0, Nat.zero_le _, rfl⟩
        case round =>
          obtain ⟨k, hkl, rfl⟩ := hrel
          rcases (show k = 0 ∨ k = 1 ∨ k = 2 ∨ k = 3 ∨ k = 4 ∨ k = 5 ∨ k = 6 ∨ k = 7 ∨ k = 8 ∨ k = 9 by omega) with rfl | rfl | rfl | rfl | rfl | rfl | rfl | rfl | rfl | rfl
          · go_wp2_with fail
            go_round
            case rel => exact ⟨1, by decide, rfl⟩
            case measure => simp [intOf]
          · go_wp2_with fail
            go_round
            case rel => exact ⟨2, by decide, rfl⟩
            case measure => simp [intOf]
          · go_wp2_with fail
            go_round
            case rel => exact ⟨3, by decide, rfl⟩
            case measure => simp [intOf]
          · go_wp2_with fail
            go_round
            case rel => exact ⟨4, by decide, rfl⟩
            case measure => simp [intOf]
          · go_wp2_with fail
            go_round
            case rel => exact ⟨5, by decide, rfl⟩
            case measure => simp [intOf]
          · go_wp2_with fail
            go_round
            case rel => exact ⟨6, by decide, rfl⟩
            case measure => simp [intOf]
          · go_wp2_with fail
            go_round
            case rel => exact ⟨7, by decide, rfl⟩
            case measure => simp [intOf]
          · go_wp2_with fail
            go_round
            case rel => exact ⟨8, by decide, rfl⟩
            case measure => simp [intOf]
          · go_wp2_with fail
            go_round
            case rel => exact ⟨9, by decide, rfl⟩
            case measure => simp [intOf]
          · go_wp2_with fail
            refine (HV.out _).mono ?_
            rintro x w' ⟨rfl, rfl⟩
            go_wp2_with fail
            refine bodyPost_ret (v := .agg #[.int .i32 0, .bool false, .int .i64 0]) (by simp [results, Tryz.results19, go_sem]) rfl ⟨oV_none HE.out, ((Below.refl _ _).alloc (Nat.le_refl _) _).alloc (by first | (simp; done) | (simp; omega)) _⟩
      · have m1 : decide (1114111 < v) = false := by rw [decide_eq_false_iff_not]; exact h3
        have m2 : 55296 ≤ v := by omega
        have m3 : v ≤ 57343 := by omega
        clear h92 hcb HE0 HE1 g9 hq hdb hk hz hk0 hsh hq1 hnk hsz HV0 hn hbd hl
        go_enter Tryz.func19, Tryz.ntmps19
        go_wp2_with fail
        go_loop [41] (fun i => ∃ k : Nat, k ≤ 9 ∧ i = .int .i64 k) (fun i => 9 - (intOf i).toNat)
        case atStart => exact ⟨0, Nat.zero_le _, rfl⟩
        case round =>
          obtain ⟨k, hkl, rfl⟩ := hrel
          rcases (show k = 0 ∨ k = 1 ∨ k = 2 ∨ k = 3 ∨ k = 4 ∨ k = 5 ∨ k = 6 ∨ k = 7 ∨ k = 8 ∨ k = 9 by omega) with rfl | rfl | rfl | rfl | rfl | rfl | rfl | rfl | rfl | rfl
          · go_wp2_with fail
            go_round
            case rel => exact ⟨1, by decide, rfl⟩
            case measure => simp [intOf]
          · go_wp2_with fail
            go_round
            case rel => exact ⟨2, by decide, rfl⟩
            case measure => simp [intOf]
          · go_wp2_with fail
            go_round
            case rel => exact ⟨3, by decide, rfl⟩
            case measure => simp [intOf]
          · go_wp2_with fail
            go_round
            case rel => exact ⟨4, by decide, rfl⟩
            case measure => simp [intOf]
          · go_wp2_with fail
            go_round
            case rel => exact ⟨5, by decide, rfl⟩
            case measure => simp [intOf]
          · go_wp2_with fail
            go_round
            case rel => exact ⟨6, by decide, rfl⟩
            case measure => simp [intOf]
          · go_wp2_with fail
            go_round
            case rel => exact ⟨7, by decide, rfl⟩
            case measure => simp [intOf]
          · go_wp2_with fail
            go_round
            case rel => exact ⟨8, by decide, rfl⟩
            case measure => simp [intOf]
          · go_wp2_with fail
            go_round
            case rel => exact ⟨9, by decide, rfl⟩
            case measure => simp [intOf]
          · go_wp2_with fail
            refine (HV.out _).mono ?_
            rintro x w' ⟨rfl, rfl⟩
            go_wp2_with fail
            refine bodyPost_ret (v := .agg #[.int .i32 0, .bool false, .int .i64 0]) (by simp [results, Tryz.results19, go_sem]) rfl ⟨oV_none HE.out, ((Below.refl _ _).alloc (Nat.le_refl _) _).alloc (by first | (simp; done) | (simp; omega)) _⟩
    · have HE := Lib.hid (show firstT s q = some ⟨v, false, 6⟩ by rw [HE1]; unfold uniT; rw [hn]; simp only; rw [if_pos hl])
      unfold letV at hl
      rw [decide_eq_true_iff] at hl
      have v2 : v ≤ 1114111 := hl.1
      have m1 : decide (1114111 < v) = false := by rw [decide_eq_false_iff_not]; omega
      by_cases h3 : 55296 ≤ v
      · have m3 : decide (v ≤ 57343) = false := by rw [decide_eq_false_iff_not]; omega
        clear h92 hcb HE0 HE1 g9 hq hdb hk hz hk0 hsh hq1 hnk hsz HV0 hn hbd hl
        go_enter Tryz.func19, Tryz.ntmps19
        go_wp2_with fail
        go_loop [41] (fun i => ∃ k : Nat, k ≤ 9 ∧ i = .int .i64 k) (fun i => 9 - (intOf i).toNat)
        case atStart => exact ⟨0, Nat.zero_le _, rfl⟩
        case round =>
          obtain ⟨k, hkl, rfl⟩ := hrel
          rcases (show k = 0 ∨ k = 1 ∨ k = 2 ∨ k = 3 ∨ k = 4 ∨ k = 5 ∨ k = 6 ∨ k = 7 ∨ k = 8 ∨ k = 9 by omega) with rfl | rfl | rfl | rfl | rfl | rfl | rfl | rfl | rfl | rfl
          · go_wp2_with fail
            go_round
            case rel => exact ⟨1, by decide, rfl⟩
            case measure => simp [intOf]
          · go_wp2_with fail
            go_round
            case rel => exact ⟨2, by decide, rfl⟩
            case measure => simp [intOf]
          · go_wp2_with fail
            go_round
            case rel => exact ⟨3, by decide, rfl⟩
            case measure => simp [intOf]
          · go_wp2_with fail
            go_round
            case rel => exact ⟨4, by decide, rfl⟩
            case measure => simp [intOf]
          · go_wp2_with fail
            go_round
            case rel => exact ⟨5, by decide, rfl⟩
            case measure => simp [intOf]
          · go_wp2_with fail
            go_round
            case rel => exact ⟨6, by decide, rfl⟩
            case measure => simp [intOf]
          · go_wp2_with fail
            go_round
            case rel => exact ⟨7, by decide, rfl⟩
            case measure => simp [intOf]
          · go_wp2_with fail
            go_round
            case rel => exact ⟨8, by decide, rfl⟩
            case measure => simp [intOf]
          · go_wp2_with fail
            go_round
            case rel => exact ⟨9, by decide, rfl⟩
            case measure => simp [intOf]
          · go_wp2_with fail
            refine (HV.out _).mono ?_
            rintro x w' ⟨rfl, rfl⟩
            go_wp2_with fail
            refine bodyPost_ret (v := .agg #[.int .i32 v, .bool false, .int .i64 6]) (by simp [results, Tryz.results19, go_sem]) rfl ⟨oV_some HE.out, ((Below.refl _ _).alloc (Nat.le_refl _) _).alloc (by first | (simp; done) | (simp; omega)) _⟩
      · have m2 : decide (55296 ≤ v) = false := by rw [decide_eq_false_iff_not]; exact h3
        clear h92 hcb HE0 HE1 g9 hq hdb hk hz hk0 hsh hq1 hnk hsz HV0 hn hbd hl
        go_enter Tryz.func19, Tryz.ntmps19
        go_wp2_with fail
        go_loop [41] (fun i => ∃ k : Nat, k ≤ 9 ∧ i = .int .i64 k) (fun i => 9 - (intOf i).toNat)
        case atStart => exact ⟨0, Nat.zero_le _, rfl⟩
        case round =>
          obtain ⟨k, hkl, rfl⟩ := hrel
          rcases (show k = 0 ∨ k = 1 ∨ k = 2 ∨ k = 3 ∨ k = 4 ∨ k = 5 ∨ k = 6 ∨ k = 7 ∨ k = 8 ∨ k = 9 by omega) with rfl | rfl | rfl | rfl | rfl | rfl | rfl | rfl | rfl | rfl
          · go_wp2_with fail
            go_round
            case rel => exact ⟨1, by decide, rfl⟩
            case measure => simp [intOf]
          · go_wp2_with fail
            go_round
            case rel => exact ⟨2, by decide, rfl⟩
            case measure => simp [intOf]
          · go_wp2_with fail
            go_round
            case rel => exact ⟨3, by decide, rfl⟩
            case measure => simp [intOf]
          · go_wp2_with fail
            go_round
            case rel => exact ⟨4, by decide, rfl⟩
            case measure => simp [intOf]
          · go_wp2_with fail
            go_round
            case rel => exact ⟨5, by decide, rfl⟩
            case measure => simp [intOf]
          · go_wp2_with fail
            go_round
            case rel => exact ⟨6, by decide, rfl⟩
            case measure => simp [intOf]
          · go_wp2_with fail
            go_round
            case rel => exact ⟨7, by decide, rfl⟩
            case measure => simp [intOf]
          · go_wp2_with fail
            go_round
            case rel => exact ⟨8, by decide, rfl⟩
            case measure => simp [intOf]
          · go_wp2_with fail
            go_round
            case rel => exact ⟨9, by decide, rfl⟩
            case measure => simp [intOf]
          · go_wp2_with fail
            refine (HV.out _).mono ?_
            rintro x w' ⟨rfl, rfl⟩
            go_wp2_with fail
            refine bodyPost_ret (v := .agg #[.int .i32 v, .bool false, .int .i64 6]) (by simp [results, Tryz.results19, go_sem]) rfl ⟨oV_some HE.out, ((Below.refl _ _).alloc (Nat.le_refl _) _).alloc (by first | (simp; done) | (simp; omega)) _⟩
set_option maxHeartbeats 16000000 in
set_option maxRecDepth 100000 in
theorem one_u8 (s : ByteArray) (q : Int) (w : World) (hs : s.size ≤ 4010) (hq : q = 39 ∨ q = 34) (hz : 2 ≤ s.size) (h92 : byteAt s 0 = 92) (hq1 : byteAt s 1 ≠ q) (hsh : shortC (byteAt s 1) = none) (hk : byteAt s 1 = 85) :
    Calls Tryz.prog 19 #[.string s, .int .u8 q] w fun e w' => e = .returned (oV (firstT s q)) ∧ Below w.heap.size w w' := by
  have hk0 := hk
  have h0 : 0 < s.size := by omega
  have g9 : ¬ (s.size = 0 ∨ byteAt s 0 = 10 ∨ byteAt s 0 = q) := by omega
  have HE0 : firstT s q = escT s q := by unfold firstT; rw [if_neg g9, if_pos h92]
  have hsI : (0 : Int) < (s.size : Int) := by omega
  have hnz : ((s.size : Int) == 0) = false := by rw [beq_eq_false_iff_ne]; omega
  obtain ⟨c, hc⟩ : ∃ c : Int, (s[0].toNat : Int) = c := ⟨_, rfl⟩
  have hcb : byteAt s 0 = c := (byteAt_eq h0).trans hc
  have g : (c == q) = false := by rw [beq_eq_false_iff_ne]; omega
  have g2 : (c == 10) = false := by rw [beq_eq_false_iff_ne]; omega
  have g3 : (c != 92) = false := by rw [← hcb, h92]; rfl
  have h1 : 1 < s.size := by omega
  have h1I : ((1 : Nat) : Int) < (s.size : Int) := by omega
  have h1n : ((s.size : Int) == 1) = false := by rw [beq_eq_false_iff_ne]; omega
  obtain ⟨d, hd⟩ : ∃ c : Int, (s[1].toNat : Int) = c := ⟨_, rfl⟩
  have hdb : byteAt s 1 = d := (byteAt_eq h1).trans hd
  rw [hdb] at hk
  have hnk : d ≠ 97 ∧ d ≠ 98 ∧ d ≠ 102 ∧ d ≠ 110 ∧ d ≠ 114 ∧ d ≠ 116 ∧ d ≠ 118 ∧ d ≠ 92 := by
    rw [hdb] at hsh
    refine ⟨?_, ?_, ?_, ?_, ?_, ?_, ?_, ?_⟩ <;> (intro e; rw [e] at hsh; revert hsh; decide)
  rw [hdb] at hq1
  have n0 : (d == 97) = false := by rw [beq_eq_false_iff_ne]; omega
  have n1 : (d == 98) = false := by rw [beq_eq_false_iff_ne]; omega
  have n2 : (d == 102) = false := by rw [beq_eq_false_iff_ne]; omega
  have n3 : (d == 110) = false := by rw [beq_eq_false_iff_ne]; omega
  have n4 : (d == 114) = false := by rw [beq_eq_false_iff_ne]; omega
  have n5 : (d == 116) = false := by rw [beq_eq_false_iff_ne]; omega
  have n6 : (d == 118) = false := by rw [beq_eq_false_iff_ne]; omega
  have n7 : (d == 92) = false := by rw [beq_eq_false_iff_ne]; omega
  have n8 : (d == q) = false := by rw [beq_eq_false_iff_ne]; omega
  have g117 : (d == 117) = false := by rw [beq_eq_false_iff_ne]; omega
  have g85 : (d == 85) = true := by rw [beq_iff_eq]; omega
  have g120 : (d == 120) = false := by rw [beq_eq_false_iff_ne]; omega
  have HE1 : firstT s q = uniT s 8 := by rw [HE0]; unfold escT; rw [if_neg (show ¬ s.size ≤ 1 by omega), if_neg (show ¬ byteAt s 1 = q by omega), hsh]; simp only; rw [if_neg (show ¬ byteAt s 1 = 120 by omega), if_neg (show ¬ byteAt s 1 = 117 by omega), if_pos hk0]
  have q0 : 0 ≤ q := by omega
  have q1 : q < 256 := by omega
  have h2I : ((2 : Nat) : Int) ≤ (s.size : Int) := by omega
  have hsz := size_ext s 2 s.size (Nat.le_refl _)
  have HV0 := fun w => rvalue_any (s.extract 2 s.size) 8 16 w (.inl rfl) (by decide) (by decide) (by omega)
  rw [numA_end s 2 0 8 16 (by omega), Nat.add_zero] at HV0
  cases hn : numA s 2 8 16 with
  | none =>
    rw [hn] at HV0
    unfold valR at HV0
    have HV := Lib.hid HV0
    have HE := Lib.hid (show firstT s q = none by rw [HE1]; unfold uniT; rw [hn])
    clear h92 hcb HE0 HE1 g9 hq hdb hk hz hk0 hsh hq1 hnk hsz HV0 hn
    go_enter Tryz.func19, Tryz.ntmps19
    go_wp2_with fail
    go_loop [41] (fun i => ∃ k : Nat, k ≤ 9 ∧ i = .int .i64 k) (fun i => 9 - (intOf i).toNat)
    case atStart => exact ⟨0, Nat.zero_le _, rfl⟩
    case round =>
      obtain ⟨k, hkl, rfl⟩ := hrel
      rcases (show k = 0 ∨ k = 1 ∨ k = 2 ∨ k = 3 ∨ k = 4 ∨ k = 5 ∨ k = 6 ∨ k = 7 ∨ k = 8 ∨ k = 9 by omega) with rfl | rfl | rfl | rfl | rfl | rfl | rfl | rfl | rfl | rfl
      · go_wp2_with fail
        go_round
        case rel => exact ⟨1, by decide, rfl⟩
        case measure => simp [intOf]
      · go_wp2_with fail
        go_round
        case rel => exact ⟨2, by decide, rfl⟩
        case measure => simp [intOf]
      · go_wp2_with fail
        go_round
        case rel => exact ⟨3, by decide, rfl⟩
        case measure => simp [intOf]
      · go_wp2_with fail
        go_round
        case rel => exact ⟨4, by decide, rfl⟩
        case measure => simp [intOf]
      · go_wp2_with fail
        go_round
        case rel => exact ⟨5, by decide, rfl⟩
        case measure => simp [intOf]
      · go_wp2_with fail
        go_round
        case rel => exact ⟨6, by decide, rfl⟩
        case measure => simp [intOf]
      · go_wp2_with fail
        go_round
        case rel => exact ⟨7, by decide, rfl⟩
        case measure => simp [intOf]
      · go_wp2_with fail
        go_round
        case rel => exact ⟨8, by decide, rfl⟩
        case measure => simp [intOf]
      · go_wp2_with fail
        go_round
        case rel => exact ⟨9, by decide, rfl⟩
        case measure => simp [intOf]
      · go_wp2_with fail
        refine (HV.out _).mono ?_
        rintro x w' ⟨rfl, rfl⟩
        go_wp2_with fail
        refine bodyPost_ret (v := .agg #[.int .i32 0, .bool false, .int .i64 0]) (by simp [results, Tryz.results19, go_sem]) rfl ⟨oV_none HE.out, ((Below.refl _ _).alloc (Nat.le_refl _) _).alloc (by first | (simp; done) | (simp; omega)) _⟩
  | some v =>
    rw [hn] at HV0
    unfold valR at HV0
    have HV := Lib.hid HV0
    have hbd := numF_bound s 16 (by decide) 8 2 0 v (by decide) (numA_some hn).2
    have v0 : 0 ≤ v := by have := hbd.1; rw [Int.zero_mul] at this; exact this
    have v1 : v ≤ 4294967296 := by
      have := hbd.2
      have h2 : (0 + 1) * (16 : Int) ^ 8 ≤ 4294967296 := by decide
      omega
    have m0 : decide (v < 0) = false := by rw [decide_eq_false_iff_not]; omega
    cases hl : letV v
    · have HE := Lib.hid (show firstT s q = none by rw [HE1]; unfold uniT; rw [hn]; simp only; rw [if_neg (by rw [hl]; decide)])
      unfold letV at hl
      rw [decide_eq_false_iff_not] at hl
      by_cases h3 : 1114111 < v
      · have m1 := h3
        clear h92 hcb HE0 HE1 g9 hq hdb hk hz hk0 hsh hq1 hnk hsz HV0 hn hbd hl
        go_enter Tryz.func19, Tryz.ntmps19
        go_wp2_with fail
        go_loop [41] (fun i => ∃ k : Nat, k ≤ 9 ∧ i = .int .i64 k) (fun i => 9 - (intOf i).toNat)
        case atStart => exact ⟨0, Nat.zero_le _, rfl⟩
        case round =>
          obtain ⟨k, hkl, rfl⟩ := hrel
          rcases (show k = 0 ∨ k = 1 ∨ k = 2 ∨ k = 3 ∨ k = 4 ∨ k = 5 ∨ k = 6 ∨ k = 7 ∨ k = 8 ∨ k = 9 by omega) with rfl | rfl | rfl | rfl | rfl | rfl | rfl | rfl | rfl | rfl
          · go_wp2_with fail
            go_round
            case rel => exact ⟨1, by decide, rfl⟩
            case measure => simp [intOf]
          · go_wp2_with fail
            go_round
            case rel => exact ⟨2, by decide, rfl⟩
            case measure => simp [intOf]
          · go_wp2_with fail
            go_round
            case rel => exact ⟨3, by decide, rfl⟩
            case measure => simp [intOf]
          · go_wp2_with fail
            go_round
            case rel => exact ⟨4, by decide, rfl⟩
            case measure => simp [intOf]
          · go_wp2_with fail
            go_round
            case rel => exact ⟨5, by decide, rfl⟩
            case measure => simp [intOf]
          · go_wp2_with fail
            go_round
            case rel => exact ⟨6, by decide, rfl⟩
            case measure => simp [intOf]
          · go_wp2_with fail
            go_round
            case rel => exact ⟨7, by decide, rfl⟩
            case measure => simp [intOf]
          · go_wp2_with fail
            go_round
            case rel => exact ⟨8, by decide, rfl⟩
            case measure => simp [intOf]
          · go_wp2_with fail
            go_round
            case rel => exact ⟨9, by decide, rfl⟩
            case measure => simp [intOf]
          · go_wp2_with fail
            refine (HV.out _).mono ?_
            rintro x w' ⟨rfl, rfl⟩
            go_wp2_with fail
            refine bodyPost_ret (v := .agg #[.int .i32 0, .bool false, .int .i64 0]) (by simp [results, Tryz.results19, go_sem]) rfl ⟨oV_none HE.out, ((Below.refl _ _).alloc (Nat.le_refl _) _).alloc (by first | (simp; done) | (simp; omega)) _⟩
      · have m1 : decide (1114111 < v) = false := by rw [decide_eq_false_iff_not]; exact h3
        have m2 : 55296 ≤ v := by omega
        have m3 : v ≤ 57343 := by omega
        clear h92 hcb HE0 HE1 g9 hq hdb hk hz hk0 hsh hq1 hnk hsz HV0 hn hbd hl
        go_enter Tryz.func19, Tryz.ntmps19
        go_wp2_with fail
        go_loop [41] (fun i => ∃ k : Nat, k ≤ 9 ∧ i = .int .i64 k) (fun i => 9 - (intOf i).toNat)
        case atStart => exact ⟨0, Nat.zero_le _, rfl⟩
        case round =>
          obtain ⟨k, hkl, rfl⟩ := hrel
          rcases (show k = 0 ∨ k = 1 ∨ k = 2 ∨ k = 3 ∨ k = 4 ∨ k = 5 ∨ k = 6 ∨ k = 7 ∨ k = 8 ∨ k = 9 by omega) with rfl | rfl | rfl | rfl | rfl | rfl | rfl | rfl | rfl | rfl
          · go_wp2_with fail
            go_round
            case rel => exact ⟨1, by decide, rfl⟩
            case measure => simp [intOf]
          · go_wp2_with fail
            go_round
            case rel => exact ⟨2, by decide, rfl⟩
            case measure => simp [intOf]
          · go_wp2_with fail
            go_round
            case rel => exact ⟨3, by decide, rfl⟩
            case measure => simp [intOf]
          · go_wp2_with fail
            go_round
            case rel => exact ⟨4, by decide, rfl⟩
            case measure => simp [intOf]
          · go_wp2_with fail
            go_round
            case rel => exact ⟨5, by decide, rfl⟩
            case measure => simp [intOf]
          · go_wp2_with fail
            go_round
            case rel => exact ⟨6, by decide, rfl⟩
            case measure => simp [intOf]
          · go_wp2_with fail
            go_round
            case rel => exact ⟨7, by decide, rfl⟩
            case measure => simp [intOf]
          · go_wp2_with fail
            go_round
            case rel => exact ⟨8, by decide, rfl⟩
            case measure => simp [intOf]
          · go_wp2_with fail
            go_round
            case rel => exact ⟨9, by decide, rfl⟩
            case measure => simp [intOf]
          · go_wp2_with fail
            refine (HV.out _).mono ?_
            rintro x w' ⟨rfl, rfl⟩
            go_wp2_with fail
            refine bodyPost_ret (v := .agg #[.int .i32 0, .bool false, .int .i64 0]) (by simp [results, Tryz.results19, go_sem]) rfl ⟨oV_none HE.out, ((Below.refl _ _).alloc (Nat.le_refl _) _).alloc (by first | (simp; done) | (simp; omega)) _⟩
    · have HE := Lib.hid (show firstT s q = some ⟨v, false, 10⟩ by rw [HE1]; unfold uniT; rw [hn]; simp only; rw [if_pos hl])
      unfold letV at hl
      rw [decide_eq_true_iff] at hl
      have v2 : v ≤ 1114111 := hl.1
      have m1 : decide (1114111 < v) = false := by rw [decide_eq_false_iff_not]; omega
      by_cases h3 : 55296 ≤ v
      · have m3 : decide (v ≤ 57343) = false := by rw [decide_eq_false_iff_not]; omega
        clear h92 hcb HE0 HE1 g9 hq hdb hk hz hk0 hsh hq1 hnk hsz HV0 hn hbd hl
        go_enter Tryz.func19, Tryz.ntmps19
        go_wp2_with fail
        go_loop [41] (fun i => ∃ k : Nat, k ≤ 9 ∧ i = .int .i64 k) (fun i => 9 - (intOf i).toNat)
        case atStart => exact ⟨0, Nat.zero_le _, rfl⟩
        case round =>
          obtain ⟨k, hkl, rfl⟩ := hrel
          rcases (show k = 0 ∨ k = 1 ∨ k = 2 ∨ k = 3 ∨ k = 4 ∨ k = 5 ∨ k = 6 ∨ k = 7 ∨ k = 8 ∨ k = 9 by omega) with rfl | rfl | rfl | rfl | rfl | rfl | rfl | rfl | rfl | rfl
          · go_wp2_with fail
            go_round
            case rel => exact ⟨1, by decide, rfl⟩
            case measure => simp [intOf]
          · go_wp2_with fail
            go_round
            case rel => exact ⟨2, by decide, rfl⟩
            case measure => simp [intOf]
          · go_wp2_with fail
            go_round
            case rel => exact ⟨3, by decide, rfl⟩
            case measure => simp [intOf]
          · go_wp2_with fail
            go_round
            case rel => exact ⟨4, by decide, rfl⟩
            case measure => simp [intOf]
          · go_wp2_with fail
            go_round
            case rel => exact ⟨5, by decide, rfl⟩
            case measure => simp [intOf]
          · go_wp2_with fail
            go_round
            case rel => exact ⟨6, by decide, rfl⟩
            case measure => simp [intOf]
          · go_wp2_with fail
            go_round
            case rel => exact ⟨7, by decide, rfl⟩
            case measure => simp [intOf]
          · go_wp2_with fail
            go_round
            case rel => exact ⟨8, by decide, rfl⟩
            case measure => simp [intOf]
          · go_wp2_with fail
            go_round
            case rel => exact ⟨9, by decide, rfl⟩
            case measure => simp [intOf]
          · go_wp2_with fail
            refine (HV.out _).mono ?_
            rintro x w' ⟨rfl, rfl⟩
            go_wp2_with fail
            refine bodyPost_ret (v := .agg #[.int .i32 v, .bool false, .int .i64 10]) (by simp [results, Tryz.results19, go_sem]) rfl ⟨oV_some HE.out, ((Below.refl _ _).alloc (Nat.le_refl _) _).alloc (by first | (simp; done) | (simp; omega)) _⟩
      · have m2 : decide (55296 ≤ v) = false := by rw [decide_eq_false_iff_not]; exact h3
        clear h92 hcb HE0 HE1 g9 hq hdb hk hz hk0 hsh hq1 hnk hsz HV0 hn hbd hl
        go_enter Tryz.func19, Tryz.ntmps19
        go_wp2_with fail
        go_loop [41] (fun i => ∃ k : Nat, k ≤ 9 ∧ i = .int .i64 k) (fun i => 9 - (intOf i).toNat)
        case atStart => exact ⟨0, Nat.zero_le _, rfl⟩
        case round =>
          obtain ⟨k, hkl, rfl⟩ := hrel
          rcases (show k = 0 ∨ k = 1 ∨ k = 2 ∨ k = 3 ∨ k = 4 ∨ k = 5 ∨ k = 6 ∨ k = 7 ∨ k = 8 ∨ k = 9 by omega) with rfl | rfl | rfl | rfl | rfl | rfl | rfl | rfl | rfl | rfl
          · go_wp2_with fail
            go_round
            case rel => exact ⟨1, by decide, rfl⟩
            case measure => simp [intOf]
          · go_wp2_with fail
            go_round
            case rel => exact ⟨2, by decide, rfl⟩
            case measure => simp [intOf]
          · go_wp2_with fail
            go_round
            case rel => exact ⟨3, by decide, rfl⟩
            case measure => simp [intOf]
          · go_wp2_with fail
            go_round
            case rel => exact ⟨4, by decide, rfl⟩
            case measure => simp [intOf]
          · go_wp2_with fail
            go_round
            case rel => exact ⟨5, by decide, rfl⟩
            case measure => simp [intOf]
          · go_wp2_with fail
            go_round
            case rel => exact ⟨6, by decide, rfl⟩
            case measure => simp [intOf]
          · go_wp2_with fail
            go_round
            case rel => exact ⟨7, by decide, rfl⟩
            case measure => simp [intOf]
          · go_wp2_with fail
            go_round
            case rel => exact ⟨8, by decide, rfl⟩
            case measure => simp [intOf]
          · go_wp2_with fail
            go_round
            case rel => exact ⟨9, by decide, rfl⟩
            case measure => simp [intOf]
          · go_wp2_with fail
            refine (HV.out _).mono ?_
            rintro x w' ⟨rfl, rfl⟩
            go_wp2_with fail
            refine bodyPost_ret (v := .agg #[.int .i32 v, .bool false, .int .i64 10]) (by simp [results, Tryz.results19, go_sem]) rfl ⟨oV_some HE.out, ((Below.refl _ _).alloc (Nat.le_refl _) _).alloc (by first | (simp; done) | (simp; omega)) _⟩
set_option maxHeartbeats 16000000 in
set_option maxRecDepth 100000 in
theorem one_oct (s : ByteArray) (q : Int) (w : World) (hs : s.size ≤ 4010) (hq : q = 39 ∨ q = 34) (hz : 2 ≤ s.size) (h92 : byteAt s 0 = 92) (hq1 : byteAt s 1 ≠ q) (hsh : shortC (byteAt s 1) = none) (hk : byteAt s 1 ≠ 120 ∧ byteAt s 1 ≠ 117 ∧ byteAt s 1 ≠ 85) :
    Calls Tryz.prog 19 #[.string s, .int .u8 q] w fun e w' => e = .returned (oV (firstT s q)) ∧ Below w.heap.size w w' := by
  have hk0 := hk
  have h0 : 0 < s.size := by omega
  have g9 : ¬ (s.size = 0 ∨ byteAt s 0 = 10 ∨ byteAt s 0 = q) := by omega
  have HE0 : firstT s q = escT s q := by unfold firstT; rw [if_neg g9, if_pos h92]
  have hsI : (0 : Int) < (s.size : Int) := by omega
  have hnz : ((s.size : Int) == 0) = false := by rw [beq_eq_false_iff_ne]; omega
  obtain ⟨c, hc⟩ : ∃ c : Int, (s[0].toNat : Int) = c := ⟨_, rfl⟩
  have hcb : byteAt s 0 = c := (byteAt_eq h0).trans hc
  have g : (c == q) = false := by rw [beq_eq_false_iff_ne]; omega
  have g2 : (c == 10) = false := by rw [beq_eq_false_iff_ne]; omega
  have g3 : (c != 92) = false := by rw [← hcb, h92]; rfl
  have h1 : 1 < s.size := by omega
  have h1I : ((1 : Nat) : Int) < (s.size : Int) := by omega
  have h1n : ((s.size : Int) == 1) = false := by rw [beq_eq_false_iff_ne]; omega
  obtain ⟨d, hd⟩ : ∃ c : Int, (s[1].toNat : Int) = c := ⟨_, rfl⟩
  have hdb : byteAt s 1 = d := (byteAt_eq h1).trans hd
  rw [hdb] at hk
  have hnk : d ≠ 97 ∧ d ≠ 98 ∧ d ≠ 102 ∧ d ≠ 110 ∧ d ≠ 114 ∧ d ≠ 116 ∧ d ≠ 118 ∧ d ≠ 92 := by
    rw [hdb] at hsh
    refine ⟨?_, ?_, ?_, ?_, ?_, ?_, ?_, ?_⟩ <;> (intro e; rw [e] at hsh; revert hsh; decide)
  rw [hdb] at hq1
  have n0 : (d == 97) = false := by rw [beq_eq_false_iff_ne]; omega
  have n1 : (d == 98) = false := by rw [beq_eq_false_iff_ne]; omega
  have n2 : (d == 102) = false := by rw [beq_eq_false_iff_ne]; omega
  have n3 : (d == 110) = false := by rw [beq_eq_false_iff_ne]; omega
  have n4 : (d == 114) = false := by rw [beq_eq_false_iff_ne]; omega
  have n5 : (d == 116) = false := by rw [beq_eq_false_iff_ne]; omega
  have n6 : (d == 118) = false := by rw [beq_eq_false_iff_ne]; omega
  have n7 : (d == 92) = false := by rw [beq_eq_false_iff_ne]; omega
  have n8 : (d == q) = false := by rw [beq_eq_false_iff_ne]; omega
  have g117 : (d == 117) = false := by rw [beq_eq_false_iff_ne]; omega
  have g85 : (d == 85) = false := by rw [beq_eq_false_iff_ne]; omega
  have g120 : (d == 120) = false := by rw [beq_eq_false_iff_ne]; omega
  have HE1 : firstT s q = octT s := by rw [HE0]; unfold escT; rw [if_neg (show ¬ s.size ≤ 1 by omega), if_neg (show ¬ byteAt s 1 = q by omega), hsh]; simp only; rw [if_neg hk0.1, if_neg hk0.2.1, if_neg hk0.2.2]
  have q0 : 0 ≤ q := by omega
  have q1 : q < 256 := by omega
  have h2I : ((2 : Nat) : Int) ≤ (s.size : Int) := by omega
  have hsz := size_ext s 1 s.size (Nat.le_refl _)
  have HV0 := fun w => rvalue_any (s.extract 1 s.size) 3 8 w (.inr rfl) (by decide) (by decide) (by omega)
  rw [numA_end s 1 0 3 8 (by omega), Nat.add_zero] at HV0
  cases hn : numA s 1 3 8 with
  | none =>
    rw [hn] at HV0
    unfold valR at HV0
    have HV := Lib.hid HV0
    have HE := Lib.hid (show firstT s q = none by rw [HE1]; unfold octT; rw [hn])
    clear h92 hcb HE0 HE1 g9 hq hdb hk hz hk0 hsh hq1 hnk hsz HV0 hn
    go_enter Tryz.func19, Tryz.ntmps19
    go_wp2_with fail
    go_loop [41] (fun i => ∃ k : Nat, k ≤ 9 ∧ i = .int .i64 k) (fun i => 9 - (intOf i).toNat)
    case atStart => exact ⟨0, Nat.zero_le _, rfl⟩
    case round =>
      obtain ⟨k, hkl, rfl⟩ := hrel
      rcases (show k = 0 ∨ k = 1 ∨ k = 2 ∨ k = 3 ∨ k = 4 ∨ k = 5 ∨ k = 6 ∨ k = 7 ∨ k = 8 ∨ k = 9 by omega) with rfl | rfl | rfl | rfl | rfl | rfl | rfl | rfl | rfl | rfl
      · go_wp2_with fail
        go_round
        case rel => exact ⟨1, by decide, rfl⟩
        case measure => simp [intOf]
      · go_wp2_with fail
        go_round
        case rel => exact ⟨2, by decide, rfl⟩
        case measure => simp [intOf]
      · go_wp2_with fail
        go_round
        case rel => exact ⟨3, by decide, rfl⟩
        case measure => simp [intOf]
      · go_wp2_with fail
        go_round
        case rel => exact ⟨4, by decide, rfl⟩
        case measure => simp [intOf]
      · go_wp2_with fail
        go_round
        case rel => exact ⟨5, by decide, rfl⟩
        case measure => simp [intOf]
      · go_wp2_with fail
        go_round
        case rel => exact ⟨6, by decide, rfl⟩
        case measure => simp [intOf]
      · go_wp2_with fail
        go_round
        case rel => exact ⟨7, by decide, rfl⟩
        case measure => simp [intOf]
      · go_wp2_with fail
        go_round
        case rel => exact ⟨8, by decide, rfl⟩
        case measure => simp [intOf]
      · go_wp2_with fail
        go_round
        case rel => exact ⟨9, by decide, rfl⟩
        case measure => simp [intOf]
      · go_wp2_with fail
        refine (HV.out _).mono ?_
        rintro x w' ⟨rfl, rfl⟩
        go_wp2_with fail
        refine bodyPost_ret (v := .agg #[.int .i32 0, .bool false, .int .i64 0]) (by simp [results, Tryz.results19, go_sem]) rfl ⟨oV_none HE.out, ((Below.refl _ _).alloc (Nat.le_refl _) _).alloc (by first | (simp; done) | (simp; omega)) _⟩
  | some v =>
    rw [hn] at HV0
    unfold valR at HV0
    have HV := Lib.hid HV0
    have hbd := numF_bound s 8 (by decide) 3 1 0 v (by decide) (numA_some hn).2
    have v0 : 0 ≤ v := by have := hbd.1; rw [Int.zero_mul] at this; exact this
    have v1 : v ≤ 4294967296 := by
      have := hbd.2
      have h2 : (0 + 1) * (8 : Int) ^ 3 ≤ 4294967296 := by decide
      omega
    have m0 : decide (v < 0) = false := by rw [decide_eq_false_iff_not]; omega
    by_cases hl : v ≤ 255
    · have HE := Lib.hid (show firstT s q = some ⟨v, true, 4⟩ by rw [HE1]; unfold octT; rw [hn]; simp only; rw [if_pos hl])
      have m1 : decide (255 < v) = false := by rw [decide_eq_false_iff_not]; omega
      clear h92 hcb HE0 HE1 g9 hq hdb hk hz hk0 hsh hq1 hnk hsz HV0 hn hbd
      go_enter Tryz.func19, Tryz.ntmps19
      go_wp2_with fail
      go_loop [41] (fun i => ∃ k : Nat, k ≤ 9 ∧ i = .int .i64 k) (fun i => 9 - (intOf i).toNat)
      case atStart => exact ⟨0, Nat.zero_le _, rfl⟩
      case round =>
        obtain ⟨k, hkl, rfl⟩ := hrel
        rcases (show k = 0 ∨ k = 1 ∨ k = 2 ∨ k = 3 ∨ k = 4 ∨ k = 5 ∨ k = 6 ∨ k = 7 ∨ k = 8 ∨ k = 9 by omega) with rfl | rfl | rfl | rfl | rfl | rfl | rfl | rfl | rfl | rfl
        · go_wp2_with fail
          go_round
          case rel => exact ⟨1, by decide, rfl⟩
          case measure => simp [intOf]
        · go_wp2_with fail
          go_round
          case rel => exact ⟨2, by decide, rfl⟩
          case measure => simp [intOf]
        · go_wp2_with fail
          go_round
          case rel => exact ⟨3, by decide, rfl⟩
          case measure => simp [intOf]
        · go_wp2_with fail
          go_round
          case rel => exact ⟨4, by decide, rfl⟩
          case measure => simp [intOf]
        · go_wp2_with fail
          go_round
          case rel => exact ⟨5, by decide, rfl⟩
          case measure => simp [intOf]
        · go_wp2_with fail
          go_round
          case rel => exact ⟨6, by decide, rfl⟩
          case measure => simp [intOf]
        · go_wp2_with fail
          go_round
          case rel => exact ⟨7, by decide, rfl⟩
          case measure => simp [intOf]
        · go_wp2_with fail
          go_round
          case rel => exact ⟨8, by decide, rfl⟩
          case measure => simp [intOf]
        · go_wp2_with fail
          go_round
          case rel => exact ⟨9, by decide, rfl⟩
          case measure => simp [intOf]
        · go_wp2_with fail
          refine (HV.out _).mono ?_
          rintro x w' ⟨rfl, rfl⟩
          go_wp2_with fail
          refine bodyPost_ret (v := .agg #[.int .i32 v, .bool true, .int .i64 4]) (by simp [results, Tryz.results19, go_sem]) rfl ⟨oV_some HE.out, ((Below.refl _ _).alloc (Nat.le_refl _) _).alloc (by first | (simp; done) | (simp; omega)) _⟩
    · have HE := Lib.hid (show firstT s q = none by rw [HE1]; unfold octT; rw [hn]; simp only; rw [if_neg hl])
      have m1 : 255 < v := by omega
      clear h92 hcb HE0 HE1 g9 hq hdb hk hz hk0 hsh hq1 hnk hsz HV0 hn hbd hl
      go_enter Tryz.func19, Tryz.ntmps19
      go_wp2_with fail
      go_loop [41] (fun i => ∃ k : Nat, k ≤ 9 ∧ i = .int .i64 k) (fun i => 9 - (intOf i).toNat)
      case atStart => exact ⟨0, Nat.zero_le _, rfl⟩
      case round =>
        obtain ⟨k, hkl, rfl⟩ := hrel
        rcases (show k = 0 ∨ k = 1 ∨ k = 2 ∨ k = 3 ∨ k = 4 ∨ k = 5 ∨ k = 6 ∨ k = 7 ∨ k = 8 ∨ k = 9 by omega) with rfl | rfl | rfl | rfl | rfl | rfl | rfl | rfl | rfl | rfl
        · go_wp2_with fail
          go_round
          case rel => exact ⟨1, by decide, rfl⟩
          case measure => simp [intOf]
        · go_wp2_with fail
          go_round
          case rel => exact ⟨2, by decide, rfl⟩
          case measure => simp [intOf]
        · go_wp2_with fail
          go_round
          case rel => exact ⟨3, by decide, rfl⟩
          case measure => simp [intOf]
        · go_wp2_with fail
          go_round
          case rel => exact ⟨4, by decide, rfl⟩
          case measure => simp [intOf]
        · go_wp2_with fail
          go_round
          case rel => exact ⟨5, by decide, rfl⟩
          case measure => simp [intOf]
        · go_wp2_with fail
          go_round
          case rel => exact ⟨6, by decide, rfl⟩
          case measure => simp [intOf]
        · go_wp2_with fail
          go_round
          case rel => exact ⟨7, by decide, rfl⟩
          case measure => simp [intOf]
        · go_wp2_with fail
          go_round
          case rel => exact ⟨8, by decide, rfl⟩
          case measure => simp [intOf]
        · go_wp2_with fail
          go_round
          case rel => exact ⟨9, by decide, rfl⟩
          case measure => simp [intOf]
        · go_wp2_with fail
          refine (HV.out _).mono ?_
          rintro x w' ⟨rfl, rfl⟩
          go_wp2_with fail
          refine bodyPost_ret (v := .agg #[.int .i32 0, .bool false, .int .i64 0]) (by simp [results, Tryz.results19, go_sem]) rfl ⟨oV_none HE.out, ((Below.refl _ _).alloc (Nat.le_refl _) _).alloc (by first | (simp; done) | (simp; omega)) _⟩
theorem rone_any (s : ByteArray) (q : Int) (w : World) (hs : s.size ≤ 4010) (hq : q = 39 ∨ q = 34) (hf : Fine s 0) :
    Calls Tryz.prog 19 #[.string s, .int .u8 q] w fun e w' => e = .returned (oV (firstT s q)) ∧ Below w.heap.size w w' := by
  by_cases h : s.size = 0
  · exact one_empty s q w hs hq h
  have h0 : 0 < s.size := by omega
  by_cases h1 : byteAt s 0 = q
  · exact one_quote s q w hs hq h0 h1
  by_cases h2 : byteAt s 0 = 10
  · exact one_ten s q w hs hq h0 h2
  by_cases h92 : byteAt s 0 = 92
  rotate_left
  · exact one_letter s q w hs hq h0 h1 h2 h92 (hf.good h0)
  by_cases hz : s.size = 1
  · exact one_single s q w hs hq hz h92
  have hz : 2 ≤ s.size := by omega
  by_cases hq1 : byteAt s 1 = q
  · exact one_hit8 s q w hs hq hz h92 hq1
  by_cases k0 : byteAt s 1 = 97
  · exact one_hit0 s q w hs hq hz h92 k0
  by_cases k1 : byteAt s 1 = 98
  · exact one_hit1 s q w hs hq hz h92 k1
  by_cases k2 : byteAt s 1 = 102
  · exact one_hit2 s q w hs hq hz h92 k2
  by_cases k3 : byteAt s 1 = 110
  · exact one_hit3 s q w hs hq hz h92 k3
  by_cases k4 : byteAt s 1 = 114
  · exact one_hit4 s q w hs hq hz h92 k4
  by_cases k5 : byteAt s 1 = 116
  · exact one_hit5 s q w hs hq hz h92 k5
  by_cases k6 : byteAt s 1 = 118
  · exact one_hit6 s q w hs hq hz h92 k6
  by_cases k7 : byteAt s 1 = 92
  · exact one_hit7 s q w hs hq hz h92 k7
  have hsh : shortC (byteAt s 1) = none := by unfold shortC; rw [if_neg k0, if_neg k1, if_neg k2, if_neg k3, if_neg k4, if_neg k5, if_neg k6, if_neg k7]
  by_cases hx : byteAt s 1 = 120
  · exact one_x s q w hs hq hz h92 hq1 hsh hx
  by_cases hu : byteAt s 1 = 117
  · exact one_u4 s q w hs hq hz h92 hq1 hsh hu
  by_cases hU : byteAt s 1 = 85
  · exact one_u8 s q w hs hq hz h92 hq1 hsh hU
  · exact one_oct s q w hs hq hz h92 hq1 hsh ⟨hx, hu, hU⟩
end Go.Proofs.YtkafkcmhekgheaaGreatDoor
