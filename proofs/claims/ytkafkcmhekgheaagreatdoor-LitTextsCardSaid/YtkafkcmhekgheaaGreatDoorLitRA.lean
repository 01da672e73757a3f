/- Literals: the document's answer: small calls. -/
import Derived.Test.YtkafkcmhekgheaaGreatDoorLitPC
namespace Go.Proofs.YtkafkcmhekgheaaGreatDoor
open Go.RowKit
set_option linter.unusedSimpArgs false
set_option linter.unusedVariables false

/-- A digit, as the document's answer tells it. -/
def digR (c : Int) : Int := if 48 ≤ c ∧ c ≤ 57 then c - 48 else if 97 ≤ c ∧ c ≤ 102 then c - 87 else if 65 ≤ c ∧ c ≤ 70 then c - 55 else 99
theorem digR_same {c b : Int} (hb : b ≤ 16) : (digR c < b ↔ digC c < b) ∧ (digR c < b → digR c = digC c) := by
  unfold digR digC
  repeat' split
  all_goals first
    | exact ⟨Iff.rfl, fun _ => rfl⟩
    | exact ⟨⟨fun h => absurd h (by omega), fun h => absurd h (by omega)⟩, fun h => absurd h (by omega)⟩
theorem digR_range (c : Int) : 0 ≤ digR c ∧ digR c ≤ 99 := by
  unfold digR
  repeat' split
  all_goals omega
theorem rdigit_any (c : Int) (w : World) (h0 : 0 ≤ c) (h1 : c < 256) :
    Calls Tryz.prog 65 #[.int .u8 c] w fun e w' => e = .returned (.int .i64 (digR c)) ∧ w = w' := by
  go_enter Tryz.func65, Tryz.ntmps65
  go_wp2
  all_goals
    go_ret
    refine ⟨ret_int ?_, rfl⟩
    unfold digR
    (repeat' split) <;> omega
def synB (s : ByteArray) (b : Int) : Bool := decide (0 < s.size ∧ ∀ k, k < s.size → digR (byteAt s k) < b)
set_option maxHeartbeats 2000000 in
theorem rsyntax_any (s : ByteArray) (b : Int) (w : World) (hs : s.size ≤ 4010) :
    Calls Tryz.prog 64 #[.string s, .int .i64 b] w fun e w' => e = .returned (.bool (synB s b)) ∧ w = w' := by
  go_enter Tryz.func64, Tryz.ntmps64
  go_wp2_with fail
  go_loop [5] (fun i => ∃ k : Nat, k ≤ s.size ∧ i = .int .i64 k ∧ Hid (∀ j, j < k → digR (byteAt s j) < b)) (fun i => s.size - (intOf i).toNat)
  case atStart => exact ⟨0, Nat.zero_le _, rfl, Lib.hid (fun j hj => absurd hj (Nat.not_lt_zero _))⟩
  case round =>
    obtain ⟨k, hk, rfl, HK⟩ := hrel
    by_cases hlt : k < s.size
    · have hltI : (k : Int) < (s.size : Int) := by omega
      obtain ⟨c, hc⟩ : ∃ c : Int, (s[k].toNat : Int) = c := ⟨_, rfl⟩
      have hcb : byteAt s k = c := (byteAt_eq hlt).trans hc
      have hcr := byteAt_range s k
      rw [hcb] at hcr
      have HD0 := fun w => rdigit_any c w hcr.1 hcr.2
      obtain ⟨d, hd⟩ : ∃ d, digR c = d := ⟨_, rfl⟩
      rw [hd] at HD0
      have HD := Lib.hid HD0
      have HCB := Lib.hid (show digR (byteAt s k) = d by rw [hcb, hd])
      clear HD0 hcb hcr hd
      by_cases hdb : b ≤ d
      · have HX := Lib.hid (show synB s b = false by
          unfold synB
          rw [decide_eq_false_iff_not]
          intro h
          have := h.2 k hlt
          rw [HCB.out] at this
          omega)
        go_wp2_with (go_at_call 65; refine (HD.out _).mono ?_; rintro e w' ⟨rfl, rfl⟩)
        go_ret
        exact ⟨ret_bool HX.out.symm, rfl⟩
      · have HX := Lib.hid (show ∀ j, j < k + 1 → digR (byteAt s j) < b from fun j hj => by
          rcases (show j < k ∨ j = k by omega) with h | h
          · exact HK.out j h
          · rw [h, HCB.out]; omega)
        go_wp2_with (go_at_call 65; refine (HD.out _).mono ?_; rintro e w' ⟨rfl, rfl⟩)
        go_round
        case rel => exact ⟨k + 1, by omega, by go_num, HX⟩
        case measure => simp [intOf]; omega
    · have hke : k = s.size := by omega
      have hltI : ¬ (k : Int) < (s.size : Int) := by omega
      have HX := Lib.hid (show synB s b = decide (0 < s.size) by
        unfold synB
        rw [decide_eq_decide]
        constructor
        · intro h; omega
        · intro h; exact ⟨by omega, fun j hj => HK.out j (by omega)⟩)
      clear HK
      go_wp2_with fail
      go_ret
      exact ⟨ret_bool HX.out.symm, rfl⟩
theorem numF_all (t : ByteArray) (base : Int) : ∀ (m j : Nat) (v : Int), (∀ k, j ≤ k → k < j + m → digC (byteAt t k) < base) → ∃ r, numF t base m j v = some r
  | 0, _, v, _ => ⟨v, rfl⟩
  | m + 1, j, v, h => by
    obtain ⟨r, hr⟩ := numF_all t base m (j + 1) (v * base + digC (byteAt t j)) (fun k h1 h2 => h k (by omega) (by omega))
    exact ⟨r, by unfold numF; rw [if_pos (h j (Nat.le_refl _) (by omega))]; exact hr⟩
theorem syn_num {s : ByteArray} {many : Nat} {base : Int} (hb : base ≤ 16) (h1 : 0 < many) (h : many ≤ s.size) : synB (s.extract 0 many) base = (numA s 0 many base).isSome := by
  have hz : (s.extract 0 many).size = many := by rw [size_ext _ _ _ h]; omega
  have hb2 : ∀ k, k < many → byteAt (s.extract 0 many) k = byteAt s k := fun k hk => by rw [byte_cut s many k h, if_pos hk]
  have hn : numA s 0 many base = numF s base many 0 0 := by unfold numA; rw [if_neg (by omega)]
  rw [hn]
  cases hs : synB (s.extract 0 many) base
  · cases hf : numF s base many 0 0 with
    | none => rfl
    | some r =>
      exfalso
      unfold synB at hs
      rw [decide_eq_false_iff_not] at hs
      apply hs
      rw [hz]
      refine ⟨h1, fun k hk => ?_⟩
      rw [hb2 k hk]
      exact (digR_same hb).1.2 (numF_digits s base many 0 0 r hf k (Nat.zero_le _) (by omega))
  · unfold synB at hs
    rw [decide_eq_true_iff, hz] at hs
    obtain ⟨r, hr⟩ := numF_all s base many 0 0 (fun k _ hk => by
      have := hs.2 k (by omega)
      rw [hb2 k (by omega)] at this
      exact (digR_same hb).1.1 this)
    rw [hr]; rfl
def valR (o : Option Int) : Int := match o with
  | none => -1
  | some v => v
set_option maxHeartbeats 4000000 in
set_option maxRecDepth 100000 in
theorem rvalue_any (s : ByteArray) (many : Nat) (base : Int) (w : World) (hb : base = 16 ∨ base = 8) (h1 : 0 < many) (hm : many ≤ 8) (hs : s.size ≤ 4010) :
    Calls Tryz.prog 38 #[.string s, .int .i64 many, .int .i64 base] w fun e w' => e = .returned (.int .i64 (valR (numA s 0 many base))) ∧ w = w' := by
  by_cases h : s.size < many
  · have hI : (s.size : Int) < (many : Int) := by omega
    have HX := Lib.hid (show valR (numA s 0 many base) = -1 by unfold numA; rw [if_pos (by omega)]; rfl)
    go_enter Tryz.func38, Tryz.ntmps38
    go_wp2_with fail
    go_ret
    exact ⟨ret_int HX.out.symm, rfl⟩
  have hI : ¬ (s.size : Int) < (many : Int) := by omega
  have hI2 : (many : Int) ≤ (s.size : Int) := by omega
  have hsyn := syn_num (s := s) (many := many) (base := base) (by omega) h1 (by omega)
  have HS0 := fun w => rsyntax_any (s.extract 0 many) base w (by rw [size_ext _ _ _ (by omega)]; omega)
  rw [hsyn] at HS0
  cases hn : numA s 0 many base with
  | none =>
    rw [hn] at HS0
    have HS := Lib.hid HS0
    clear HS0 hsyn hn
    unfold valR
    go_enter Tryz.func38, Tryz.ntmps38
    go_wp2_with fail
    refine (HS.out _).mono ?_
    rintro x w' ⟨rfl, rfl⟩
    go_wp2_with fail
    go_ret
    exact ⟨rfl, rfl⟩
  | some R =>
    rw [hn] at HS0
    have HS := Lib.hid HS0
    have HR := Lib.hid (numA_some hn).2
    clear HS0 hsyn hn
    unfold valR
    simp only
    go_enter Tryz.func38, Tryz.ntmps38
    go_wp2_with fail
    refine (HS.out _).mono ?_
    rintro x w' ⟨rfl, rfl⟩
    go_wp2_with fail
    go_loop [7, 8] (fun v t => ∃ (k : Nat) (a : Int), k ≤ many ∧ t = .int .i64 k ∧ v = .int .i64 a ∧ 0 ≤ a ∧ a < pow16 k ∧ Hid (numF s base (many - k) k a = some R)) (fun _ t => many - (intOf t).toNat)
    case atStart => exact ⟨0, 0, Nat.zero_le _, rfl, rfl, by decide, by decide, HR⟩
    case round =>
      obtain ⟨k, a, hk, rfl, rfl, ha0, hap, HN⟩ := hrel
      by_cases hlt : k < many
      · have hltI : (k : Int) < (many : Int) := by omega
        have hks : k < s.size := by omega
        have hksI : (k : Int) < (s.size : Int) := by omega
        have hp8 := pow16_8 (show k ≤ 8 by omega)
        have haB : a ≤ 4294967296 := by omega
        obtain ⟨c, hc⟩ : ∃ c : Int, (s[k].toNat : Int) = c := ⟨_, rfl⟩
        have hcb : byteAt s k = c := (byteAt_eq hks).trans hc
        have hcr := byteAt_range s k
        rw [hcb] at hcr
        have hN := HN.out
        rw [show many - k = (many - (k + 1)) + 1 by omega] at hN
        unfold numF at hN
        rw [hcb] at hN
        by_cases hdb : digC c < base
        · rw [if_pos hdb] at hN
          have hdd : digR c = digC c := (digR_same (c := c) (b := base) (by omega)).2 ((digR_same (by omega)).1.2 hdb)
          obtain ⟨d, hd⟩ : ∃ d, digC c = d := ⟨_, rfl⟩
          have HD0 := fun w => rdigit_any c w hcr.1 hcr.2
          rw [hdd, hd] at HD0
          have HD := Lib.hid HD0
          have hd0 : 0 ≤ d := by rw [← hd]; exact digC_nonneg c
          rw [hd] at hN hdb
          have hpk : pow16 (k + 1) = pow16 k * 16 := rfl
          have hP : 0 ≤ a * base ∧ a * base ≤ 68719476736 ∧ a * base + d < pow16 (k + 1) := by
            rcases hb with rfl | rfl <;> omega
          obtain ⟨m, hm2⟩ : ∃ m, base * a = m := ⟨_, rfl⟩
          rw [Int.mul_comm a base, hm2] at hP hN
          have h1' := hP.1
          have h2' := hP.2.1
          have hd16 : d ≤ 16 := by omega
          have H3 := Lib.hid hP.2.2
          have HX := Lib.hid hN
          clear hN hP hpk hap HN HD0 hd hdd hcb hdb
          go_wp2_with (go_at_call 65; refine (HD.out _).mono ?_; rintro e w' ⟨rfl, rfl⟩)
          go_round
          case rel => exact ⟨k + 1, m + d, by omega, by go_num, rfl, by omega, H3.out, HX⟩
          case measure => simp [intOf]; omega
        · rw [if_neg hdb] at hN
          cases hN
      · have hke : k = many := by omega
        have hltI : ¬ (k : Int) < (many : Int) := by omega
        have HX := Lib.hid (show a = R by
          have := HN.out
          rw [hke, Nat.sub_self] at this
          injection this)
        clear HN
        go_wp2_with fail
        go_ret
        exact ⟨ret_int HX.out, rfl⟩
def oV : Option Pc → Value
  | none => .agg #[.int .i32 0, .bool false, .int .i64 0]
  | some p => .agg #[.int .i32 p.val, .bool p.plain, .int .i64 (p.size : Int)]
set_option maxHeartbeats 1000000 in
theorem rbad_any (s : ByteArray) (w : World) (hs : s.size ≤ 4010) :
    Calls Tryz.prog 6 #[.string s] w fun e w' => e = .returned (.int .i64 (badE s)) ∧ w = w' := by
  by_cases h : 4000 < s.size
  · have hI : (4000 : Int) < (s.size : Int) := by omega
    have HX := Lib.hid (show badE s = 7 by unfold badE; rw [if_pos h])
    go_enter Tryz.func6, Tryz.ntmps6
    go_wp2_with fail
    go_ret
    exact ⟨ret_int HX.out.symm, rfl⟩
  have hI : ¬ (4000 : Int) < (s.size : Int) := by omega
  have hsb := (spoil_bounds s s.size 0).1
  have HS0 := fun w => refSpoilt_any s w (by omega)
  have he : badE s = if spoil s = -1 then 0 else 12 := by unfold badE; rw [if_neg h]
  obtain ⟨p, hp⟩ : ∃ p, spoil s = p := ⟨_, rfl⟩
  have hsb2 : -1 ≤ p := by rw [← hp]; exact hsb
  rw [hp] at HS0 he
  have HS := Lib.hid HS0
  clear HS0 hsb hp
  by_cases h0 : p = -1
  · have HX := Lib.hid (show badE s = 0 by rw [he, if_pos h0])
    have hn : ¬ 0 ≤ p := by omega
    clear he h0
    go_enter Tryz.func6, Tryz.ntmps6
    go_wp2_with fail
    refine (HS.out _).mono ?_
    rintro x w' ⟨rfl, rfl⟩
    go_wp2_with fail
    go_ret
    exact ⟨ret_int HX.out.symm, rfl⟩
  · have HX := Lib.hid (show badE s = 12 by rw [he, if_neg h0])
    have hn : 0 ≤ p := by omega
    clear he h0
    go_enter Tryz.func6, Tryz.ntmps6
    go_wp2_with fail
    refine (HS.out _).mono ?_
    rintro x w' ⟨rfl, rfl⟩
    go_wp2_with fail
    go_ret
    exact ⟨ret_int HX.out.symm, rfl⟩
set_option maxHeartbeats 4000000 in
set_option maxRecDepth 100000 in
theorem rletter_1 (s : ByteArray) (w : World) (hs : s.size ≤ 4010) (h0 : 0 < s.size) (hg : badAt s 0 = false) (hn : szAt s 0 = 1) :
    Calls Tryz.prog 37 #[.string s] w fun e w' => e = .returned (oV (some ⟨valT s, false, 1⟩)) ∧ Below w.heap.size w w' := by
  have HZ0 := fun w => size_any s 0 w (by omega) h0
  rw [hn] at HZ0
  have HZ := Lib.hid HZ0
  have hv := val_letter hg
  have hsI : (0 : Int) < (s.size : Int) := by omega
  have r0 := byteAt_range s 0
  have HV := Lib.hid (show valT s = byteAt s 0 by unfold valT; rw [if_neg (by omega), if_neg (by omega), if_neg (by omega)])
  obtain ⟨b0, hb0⟩ : ∃ c : Int, (s[0].toNat : Int) = c := ⟨_, rfl⟩
  have hc0 : byteAt s 0 = b0 := (byteAt_eq h0).trans hb0
  rw [hc0] at r0 HV
  have r0a := r0.1
  have r0b := r0.2
  clear HZ0 hv hc0 r0 hn hg
  go_enter Tryz.func37, Tryz.ntmps37
  go_wp2_with fail
  refine (HZ.out _).mono ?_
  rintro x w' ⟨rfl, rfl⟩
  go_wp2_with fail
  go_loop [4, 5] (fun r i => r = .int .i32 b0 ∧ i = .int .i64 1) (fun _ _ => 0)
  case atStart => exact ⟨rfl, rfl⟩
  case round =>
    obtain ⟨rfl, rfl⟩ := hrel
    go_wp2_with fail
    refine bodyPost_ret (v := .agg #[.int .i32 b0, .bool false, .int .i64 1]) (by simp [results, Tryz.results37, go_sem]) rfl ⟨by rw [HV.out]; rfl, (Below.refl _ _).alloc (Nat.le_refl _) _⟩
set_option maxHeartbeats 4000000 in
set_option maxRecDepth 100000 in
theorem rletter_2 (s : ByteArray) (w : World) (hs : s.size ≤ 4010) (h0 : 0 < s.size) (hg : badAt s 0 = false) (hn : szAt s 0 = 2) :
    Calls Tryz.prog 37 #[.string s] w fun e w' => e = .returned (oV (some ⟨valT s, false, 2⟩)) ∧ Below w.heap.size w w' := by
  have HZ0 := fun w => size_any s 0 w (by omega) h0
  rw [hn] at HZ0
  have HZ := Lib.hid HZ0
  have hv := val_letter hg
  have hsI : (0 : Int) < (s.size : Int) := by omega
  have r0 := byteAt_range s 0
  have hh := sz_two hn
  have l1 := lt_of_tlB hh.2.2
  have t1 := (tlB_iff s (0 + 1)).1 hh.2.2
  simp only [Nat.zero_add] at l1 t1
  obtain ⟨b0, hb0⟩ : ∃ c : Int, (s[0].toNat : Int) = c := ⟨_, rfl⟩
  have hc0 : byteAt s 0 = b0 := (byteAt_eq h0).trans hb0
  obtain ⟨b1, hb1⟩ : ∃ c : Int, (s[1].toNat : Int) = c := ⟨_, rfl⟩
  have hc1 : byteAt s 1 = b1 := (byteAt_eq l1).trans hb1
  obtain ⟨p0, hp0⟩ : ∃ p : Int, b0 - 192 = p := ⟨_, rfl⟩
  obtain ⟨p1, hp1⟩ : ∃ p : Int, 64 * p0 + b1 - 128 = p := ⟨_, rfl⟩
  rw [hc0] at hh r0
  rw [hc1] at t1
  have HV := Lib.hid (show valT s = p1 by unfold valT; rw [if_pos hn]; rw [hc0, hc1]; omega)
  have u0 : 194 ≤ b0 := by omega
  have u1 : b0 ≤ 223 := by omega
  have q1 := t1.1
  have r1 := t1.2
  have P0 : 0 ≤ p0 := by omega
  have R0 : p0 ≤ 64 := by omega
  have P1 : 0 ≤ p1 := by omega
  have R1 : p1 ≤ 4096 := by omega
  have s1 : 64 * p0 + b1 ≤ 262144 := by omega
  have w1 : ((1 : Nat) : Int) < (s.size : Int) := by omega
  have H1 := Lib.hid hp1
  have H0 := Lib.hid hp0
  clear HZ0 hv hc0 hc1 hn hg hh t1 r0 hp1
  go_enter Tryz.func37, Tryz.ntmps37
  go_wp2_with fail
  refine (HZ.out _).mono ?_
  rintro x w' ⟨rfl, rfl⟩
  go_wp2_with fail
  go_region
  go_wp2_with fail
  go_loop [4, 5] (fun r i => (i = .int .i64 1 ∧ r = .int .i32 p0) ∨ (i = .int .i64 2 ∧ r = .int .i32 p1)) (fun _ i => 2 - (intOf i).toNat)
  case atStart => exact .inl ⟨rfl, rfl⟩
  case round =>
    rcases hrel with ⟨rfl, rfl⟩ | ⟨rfl, rfl⟩
    · go_wp2_with fail
      go_round
      case rel => exact .inr (⟨rfl, by rw [H1.out]⟩)
      case measure => simp [intOf]
    · go_wp2_with fail
      refine bodyPost_ret (v := .agg #[.int .i32 p1, .bool false, .int .i64 2]) (by simp [results, Tryz.results37, go_sem]) rfl ⟨by rw [HV.out]; rfl, (((Below.refl _ _).alloc (Nat.le_refl _) _).alloc (by simp) _).drew⟩
set_option maxHeartbeats 4000000 in
set_option maxRecDepth 100000 in
theorem rletter_3 (s : ByteArray) (w : World) (hs : s.size ≤ 4010) (h0 : 0 < s.size) (hg : badAt s 0 = false) (hn : szAt s 0 = 3) :
    Calls Tryz.prog 37 #[.string s] w fun e w' => e = .returned (oV (some ⟨valT s, false, 3⟩)) ∧ Below w.heap.size w w' := by
  have HZ0 := fun w => size_any s 0 w (by omega) h0
  rw [hn] at HZ0
  have HZ := Lib.hid HZ0
  have hv := val_letter hg
  have hsI : (0 : Int) < (s.size : Int) := by omega
  have r0 := byteAt_range s 0
  have hh := (sz_three hn).1
  have l1 := lt_of_tlB hh.2.2.1
  have t1 := (tlB_iff s (0 + 1)).1 hh.2.2.1
  have l2 := lt_of_tlB hh.2.2.2
  have t2 := (tlB_iff s (0 + 2)).1 hh.2.2.2
  simp only [Nat.zero_add] at l1 t1 l2 t2
  obtain ⟨b0, hb0⟩ : ∃ c : Int, (s[0].toNat : Int) = c := ⟨_, rfl⟩
  have hc0 : byteAt s 0 = b0 := (byteAt_eq h0).trans hb0
  obtain ⟨b1, hb1⟩ : ∃ c : Int, (s[1].toNat : Int) = c := ⟨_, rfl⟩
  have hc1 : byteAt s 1 = b1 := (byteAt_eq l1).trans hb1
  obtain ⟨b2, hb2⟩ : ∃ c : Int, (s[2].toNat : Int) = c := ⟨_, rfl⟩
  have hc2 : byteAt s 2 = b2 := (byteAt_eq l2).trans hb2
  obtain ⟨p0, hp0⟩ : ∃ p : Int, b0 - 224 = p := ⟨_, rfl⟩
  obtain ⟨p1, hp1⟩ : ∃ p : Int, 64 * p0 + b1 - 128 = p := ⟨_, rfl⟩
  obtain ⟨p2, hp2⟩ : ∃ p : Int, 64 * p1 + b2 - 128 = p := ⟨_, rfl⟩
  rw [hc0] at hh r0
  rw [hc1] at t1
  rw [hc2] at t2
  have HV := Lib.hid (show valT s = p2 by unfold valT; rw [if_neg (by omega), if_pos hn]; rw [hc0, hc1, hc2]; omega)
  have u0 : 224 ≤ b0 := by omega
  have u1 : b0 ≤ 239 := by omega
  have q1 := t1.1
  have r1 := t1.2
  have q2 := t2.1
  have r2 := t2.2
  have P0 : 0 ≤ p0 := by omega
  have R0 : p0 ≤ 64 := by omega
  have P1 : 0 ≤ p1 := by omega
  have R1 : p1 ≤ 4096 := by omega
  have P2 : 0 ≤ p2 := by omega
  have R2 : p2 ≤ 262144 := by omega
  have s1 : 64 * p0 + b1 ≤ 262144 := by omega
  have s2 : 64 * p1 + b2 ≤ 16777216 := by omega
  have w1 : ((1 : Nat) : Int) < (s.size : Int) := by omega
  have w2 : ((2 : Nat) : Int) < (s.size : Int) := by omega
  have H1 := Lib.hid hp1
  have H2 := Lib.hid hp2
  have H0 := Lib.hid hp0
  clear HZ0 hv hc0 hc1 hc2 hn hg hh t1 t2 r0 hp1 hp2
  go_enter Tryz.func37, Tryz.ntmps37
  go_wp2_with fail
  refine (HZ.out _).mono ?_
  rintro x w' ⟨rfl, rfl⟩
  go_wp2_with fail
  go_region
  go_wp2_with fail
  go_loop [4, 5] (fun r i => (i = .int .i64 1 ∧ r = .int .i32 p0) ∨ (i = .int .i64 2 ∧ r = .int .i32 p1) ∨ (i = .int .i64 3 ∧ r = .int .i32 p2)) (fun _ i => 3 - (intOf i).toNat)
  case atStart => exact .inl ⟨rfl, rfl⟩
  case round =>
    rcases hrel with ⟨rfl, rfl⟩ | ⟨rfl, rfl⟩ | ⟨rfl, rfl⟩
    · go_wp2_with fail
      go_round
      case rel => exact .inr (.inl ⟨rfl, by rw [H1.out]⟩)
      case measure => simp [intOf]
    · go_wp2_with fail
      go_round
      case rel => exact .inr (.inr (⟨rfl, by rw [H2.out]⟩))
      case measure => simp [intOf]
    · go_wp2_with fail
      refine bodyPost_ret (v := .agg #[.int .i32 p2, .bool false, .int .i64 3]) (by simp [results, Tryz.results37, go_sem]) rfl ⟨by rw [HV.out]; rfl, (((Below.refl _ _).alloc (Nat.le_refl _) _).alloc (by simp) _).drew⟩
set_option maxHeartbeats 4000000 in
set_option maxRecDepth 100000 in
theorem rletter_4 (s : ByteArray) (w : World) (hs : s.size ≤ 4010) (h0 : 0 < s.size) (hg : badAt s 0 = false) (hn : szAt s 0 = 4) :
    Calls Tryz.prog 37 #[.string s] w fun e w' => e = .returned (oV (some ⟨valT s, false, 4⟩)) ∧ Below w.heap.size w w' := by
  have HZ0 := fun w => size_any s 0 w (by omega) h0
  rw [hn] at HZ0
  have HZ := Lib.hid HZ0
  have hv := val_letter hg
  have hsI : (0 : Int) < (s.size : Int) := by omega
  have r0 := byteAt_range s 0
  have hh := (sz_four hn).1
  have l1 := lt_of_tlB hh.2.2.1
  have t1 := (tlB_iff s (0 + 1)).1 hh.2.2.1
  have l2 := lt_of_tlB hh.2.2.2.1
  have t2 := (tlB_iff s (0 + 2)).1 hh.2.2.2.1
  have l3 := lt_of_tlB hh.2.2.2.2
  have t3 := (tlB_iff s (0 + 3)).1 hh.2.2.2.2
  simp only [Nat.zero_add] at l1 t1 l2 t2 l3 t3
  obtain ⟨b0, hb0⟩ : ∃ c : Int, (s[0].toNat : Int) = c := ⟨_, rfl⟩
  have hc0 : byteAt s 0 = b0 := (byteAt_eq h0).trans hb0
  obtain ⟨b1, hb1⟩ : ∃ c : Int, (s[1].toNat : Int) = c := ⟨_, rfl⟩
  have hc1 : byteAt s 1 = b1 := (byteAt_eq l1).trans hb1
  obtain ⟨b2, hb2⟩ : ∃ c : Int, (s[2].toNat : Int) = c := ⟨_, rfl⟩
  have hc2 : byteAt s 2 = b2 := (byteAt_eq l2).trans hb2
  obtain ⟨b3, hb3⟩ : ∃ c : Int, (s[3].toNat : Int) = c := ⟨_, rfl⟩
  have hc3 : byteAt s 3 = b3 := (byteAt_eq l3).trans hb3
  obtain ⟨p0, hp0⟩ : ∃ p : Int, b0 - 240 = p := ⟨_, rfl⟩
  obtain ⟨p1, hp1⟩ : ∃ p : Int, 64 * p0 + b1 - 128 = p := ⟨_, rfl⟩
  obtain ⟨p2, hp2⟩ : ∃ p : Int, 64 * p1 + b2 - 128 = p := ⟨_, rfl⟩
  obtain ⟨p3, hp3⟩ : ∃ p : Int, 64 * p2 + b3 - 128 = p := ⟨_, rfl⟩
  rw [hc0] at hh r0
  rw [hc1] at t1
  rw [hc2] at t2
  rw [hc3] at t3
  have HV := Lib.hid (show valT s = p3 by unfold valT; rw [if_neg (by omega), if_neg (by omega), if_pos hn]; rw [hc0, hc1, hc2, hc3]; omega)
  have u0 : 240 ≤ b0 := by omega
  have u1 : b0 ≤ 244 := by omega
  have q1 := t1.1
  have r1 := t1.2
  have q2 := t2.1
  have r2 := t2.2
  have q3 := t3.1
  have r3 := t3.2
  have P0 : 0 ≤ p0 := by omega
  have R0 : p0 ≤ 64 := by omega
  have P1 : 0 ≤ p1 := by omega
  have R1 : p1 ≤ 4096 := by omega
  have P2 : 0 ≤ p2 := by omega
  have R2 : p2 ≤ 262144 := by omega
  have P3 : 0 ≤ p3 := by omega
  have R3 : p3 ≤ 16777216 := by omega
  have s1 : 64 * p0 + b1 ≤ 262144 := by omega
  have s2 : 64 * p1 + b2 ≤ 16777216 := by omega
  have s3 : 64 * p2 + b3 ≤ 1073741824 := by omega
  have w1 : ((1 : Nat) : Int) < (s.size : Int) := by omega
  have w2 : ((2 : Nat) : Int) < (s.size : Int) := by omega
  have w3 : ((3 : Nat) : Int) < (s.size : Int) := by omega
  have H1 := Lib.hid hp1
  have H2 := Lib.hid hp2
  have H3 := Lib.hid hp3
  have H0 := Lib.hid hp0
  clear HZ0 hv hc0 hc1 hc2 hc3 hn hg hh t1 t2 t3 r0 hp1 hp2 hp3
  go_enter Tryz.func37, Tryz.ntmps37
  go_wp2_with fail
  refine (HZ.out _).mono ?_
  rintro x w' ⟨rfl, rfl⟩
  go_wp2_with fail
  go_region
  go_wp2_with fail
  go_loop [4, 5] (fun r i => (i = .int .i64 1 ∧ r = .int .i32 p0) ∨ (i = .int .i64 2 ∧ r = .int .i32 p1) ∨ (i = .int .i64 3 ∧ r = .int .i32 p2) ∨ (i = .int .i64 4 ∧ r = .int .i32 p3)) (fun _ i => 4 - (intOf i).toNat)
  case atStart => exact .inl ⟨rfl, rfl⟩
  case round =>
    rcases hrel with ⟨rfl, rfl⟩ | ⟨rfl, rfl⟩ | ⟨rfl, rfl⟩ | ⟨rfl, rfl⟩
    · go_wp2_with fail
      go_round
      case rel => exact .inr (.inl ⟨rfl, by rw [H1.out]⟩)
      case measure => simp [intOf]
    · go_wp2_with fail
      go_round
      case rel => exact .inr (.inr (.inl ⟨rfl, by rw [H2.out]⟩))
      case measure => simp [intOf]
    · go_wp2_with fail
      go_round
      case rel => exact .inr (.inr (.inr (⟨rfl, by rw [H3.out]⟩)))
      case measure => simp [intOf]
    · go_wp2_with fail
      refine bodyPost_ret (v := .agg #[.int .i32 p3, .bool false, .int .i64 4]) (by simp [results, Tryz.results37, go_sem]) rfl ⟨by rw [HV.out]; rfl, (((Below.refl _ _).alloc (Nat.le_refl _) _).alloc (by simp) _).drew⟩
theorem rletter_any (s : ByteArray) (w : World) (hs : s.size ≤ 4010) (h0 : 0 < s.size) (hg : badAt s 0 = false) :
    Calls Tryz.prog 37 #[.string s] w fun e w' => e = .returned (oV (some ⟨valT s, false, (szAt s 0).toNat⟩)) ∧ Below w.heap.size w w' := by
  have h := good_size hg
  rcases szAt_cases s 0 with e | e | e | e | e
  · omega
  · rw [e]; exact rletter_1 s w hs h0 hg e
  · rw [e]; exact rletter_2 s w hs h0 hg e
  · rw [e]; exact rletter_3 s w hs h0 hg e
  · rw [e]; exact rletter_4 s w hs h0 hg e
end Go.Proofs.YtkafkcmhekgheaaGreatDoor
