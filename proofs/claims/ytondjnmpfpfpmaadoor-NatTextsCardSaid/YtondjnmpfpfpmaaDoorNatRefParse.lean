/- The reference's Digit, Syntax, Parse. -/
import Derived.Test.YtondjnmpfpfpmaaDoorNatRefRight
namespace Go.Proofs.YtondjnmpfpfpmaaDoor
open Go.RowKit NM

/-- The reference's number of a byte; 99: none. -/
def rdg (c : Int) : Int := if 48 ≤ c ∧ c ≤ 57 then c - 48 else if 97 ≤ c ∧ c ≤ 102 then c - 87 else if 65 ≤ c ∧ c ≤ 70 then c - 55 else 99
theorem rdg_dg (c : Int) : dg c = rdg c ∨ (dg c = 512 ∧ rdg c = 99) := by
  unfold dg rdg
  (repeat' split) <;> omega
theorem rdg_range (c : Int) : 0 ≤ rdg c ∧ rdg c ≤ 99 := by
  unfold rdg
  (repeat' split) <;> omega

set_option maxHeartbeats 800000 in
theorem refdigit_any (c : Int) (w : World) (h0 : 0 ≤ c) (h1 : c < 256) :
    Calls Tryd.prog 50 #[.int .u8 c] w fun e w' => e = .returned (.int .i64 (rdg c)) ∧ w = w' := by
  go_enter Tryd.func50, Tryd.ntmps50
  go_wp2_with fail
  all_goals
    go_ret
    refine ⟨ret_int ?_, rfl⟩
    unfold rdg
    (repeat' split) <;> omega

theorem rdAt {s : ByteArray} {k : Nat} {b : Int} (hb : b ≤ 16) : (rdg (byteAt s k) < b ↔ dAt s k < b) ∧ (dAt s k < b → rdg (byteAt s k) = dAt s k) := by
  unfold dAt
  rcases rdg_dg (byteAt s k) with h | ⟨h1, h2⟩
  · rw [h]; exact ⟨Iff.rfl, fun _ => rfl⟩
  · rw [h1, h2]; omega

set_option maxHeartbeats 800000 in
set_option maxRecDepth 100000 in
theorem refsyntax_any (s : ByteArray) (b : Int) (w : World) (hs : s.size ≤ 1000000) (hb : b ≤ 16) :
    Calls Tryd.prog 32 #[.string s, .int .i64 b] w fun e w' => e = .returned (.bool (toldB s b)) ∧ w = w' := by
  go_enter Tryd.func32, Tryd.ntmps32
  go_wp2_with fail
  go_loop [5] (fun i => ∃ k : Nat, k ≤ s.size ∧ i = .int .i64 k ∧ Hid (∀ j, j < k → dAt s j < b)) (fun i => s.size - (intOf i).toNat)
  case atStart => exact ⟨0, Nat.zero_le _, rfl, Lib.hid (fun j hj => absurd hj (Nat.not_lt_zero _))⟩
  case round =>
    obtain ⟨k, hk, rfl, hok⟩ := hrel
    by_cases hlt : k < s.size
    · have hbb : (s[k].toNat : Int) < 256 := by have := UInt8.toNat_lt s[k]; omega
      have hrd := rdAt (s := s) (k := k) hb
      have hbe := byteAt_eq hlt
      rw [hbe] at hrd
      obtain ⟨r, hr⟩ : ∃ r, rdg (s[k].toNat : Int) = r := ⟨_, rfl⟩
      have HD := Lib.hid (fun w => refdigit_any (s[k].toNat : Int) w (by omega) hbb)
      rw [hr] at hrd HD
      by_cases h : b ≤ r
      · have hn := Lib.hid (told_bad (b := b) k hlt (by have := hrd.1; omega))
        clear hrd hbe hr
        go_wp2_with fail
        refine (HD.out _).mono ?_
        rintro e w' ⟨rfl, rfl⟩
        go_wp2_with fail
        go_ret
        exact ⟨ret_bool hn.out.symm, rfl⟩
      · have hn := Lib.hid (show ∀ j, j < k + 1 → dAt s j < b from fun j hj => by
          by_cases e : j = k
          · rw [e]; exact hrd.1.1 (by omega)
          · exact hok.out j (by omega))
        clear hrd hbe hr
        go_wp2_with fail
        refine (HD.out _).mono ?_
        rintro e w' ⟨rfl, rfl⟩
        go_wp2_with fail
        go_round
        case rel => exact ⟨k + 1, by omega, by go_num, hn⟩
        case measure => simp [intOf]; omega
    · have hk2 : k = s.size := by omega
      have hn := Lib.hid (show toldB s b = decide (0 < s.size) by
        unfold toldB
        rw [decide_eq_decide]
        exact ⟨And.left, fun h => ⟨h, fun j hj => hok.out j (by omega)⟩⟩)
      go_wp2_with fail
      go_ret
      refine ⟨ret_bool ?_, rfl⟩
      rw [hn.out]
      try simp

theorem sixteen_succ (k : Nat) : (16 : Int) ^ (k + 1) = 16 ^ k * 16 := Int.pow_succ _ _
theorem pv_lt (s : ByteArray) {b : Int} (b2 : 2 ≤ b) (b16 : b ≤ 16) (hd : ∀ j, j < s.size → dAt s j < b) : ∀ k, k ≤ s.size → pv s b k < 16 ^ k
  | 0, _ => by simp [pv]
  | k + 1, hk => by
    have h1 := pv_lt s b2 b16 hd k (by omega)
    have h0 := pv_nonneg s b2 k
    have h2 := hd k (by omega)
    have h3 : pv s b k * b ≤ pv s b k * 16 := Int.mul_le_mul_of_nonneg_left b16 h0
    rw [pv, sixteen_succ]
    omega
theorem sixteen_big {k : Nat} (h : k ≤ 400) : (16 : Int) ^ k < big := by
  have e : (16 : Int) ^ k = 2 ^ (4 * k) := by rw [Int.pow_mul]; rfl
  rw [e]
  exact pow_big (by omega)

set_option maxHeartbeats 800000 in
set_option maxRecDepth 100000 in
theorem refparse_any (s : ByteArray) (b : Int) (w : World) (hs : s.size ≤ 400) (b2 : 2 ≤ b) (b16 : b ≤ 16) (ht : toldB s b = true) :
    Calls Tryd.prog 33 #[.string s, .int .i64 b] w fun e w' => (∃ t, e = .returned (.string t) ∧ DecStr t (pv s b s.size)) ∧ Below w.heap.size w w' := by
  have Hd := Lib.hid (toldB_iff.1 ht).2
  clear ht
  go_enter Tryd.func33, Tryd.ntmps33
  go_wp2_with fail
  go_loopw [5, 6] (fun so i wr => ∃ (k : Nat) (t : ByteArray), k ≤ s.size ∧ i = .int .i64 k ∧ so = .string t ∧ Hid (DecStr t (pv s b k)) ∧ Hid (Below w.heap.size w wr)) (fun _ i _ => s.size - (intOf i).toNat)
  case atStart => exact ⟨0, _, Nat.zero_le _, rfl, rfl, Lib.hid decStr_zero, Lib.hid (Below.refl _ _)⟩
  case round =>
    obtain ⟨k, t, hk, rfl, rfl, ht, hbl⟩ := hrel
    by_cases hlt : k < s.size
    · have hbb : (s[k].toNat : Int) < 256 := by have := UInt8.toNat_lt s[k]; omega
      have hrd := rdAt (s := s) (k := k) b16
      have hd := Hd.out k hlt
      have hdn := dg_nonneg (byteAt s k)
      have hbe := byteAt_eq hlt
      rw [hbe] at hrd
      obtain ⟨r, hr⟩ : ∃ r, rdg (s[k].toNat : Int) = r := ⟨_, rfl⟩
      have HD := Lib.hid (fun w => refdigit_any (s[k].toNat : Int) w (by omega) hbb)
      rw [hr] at hrd HD
      have hre := hrd.2 hd
      have h1 := pv_lt s b2 b16 Hd.out k hk
      have h2 := sixteen_big (show k ≤ 400 by omega)
      have hr0 : 0 ≤ r := by rw [hre]; exact hdn
      have hr1 : r < b := by rw [hre]; exact hd
      have HS := Lib.hid (fun w => small_str t (pv s b k) b r (pv s b (k + 1)) w ht.out (by omega) (by omega) (by omega) hr0 (by omega) (by rw [pv, ← hre, Int.mul_comm b]; omega))
      clear hrd hbe hr hd hdn hre h1 h2
      go_wp2_with fail
      refine (HD.out _).mono ?_
      rintro e w' ⟨rfl, rfl⟩
      go_wp2_with fail
      refine (HS.out _).mono ?_
      rintro e w2 ⟨⟨t', rfl, ht'⟩, hb2⟩
      have hb3 := Lib.hid (hbl.out.trans (hb2.mono hbl.out.size))
      have Ht := Lib.hid ht'
      clear HS ht' hb2
      go_wp2_with fail
      go_roundw
      case rel => exact ⟨k + 1, t', by omega, by go_num, rfl, Ht, hb3⟩
      case measure => simp [intOf]; omega
    · obtain rfl : k = s.size := by omega
      go_wp2_with fail
      go_ret
      exact ⟨⟨_, rfl, ht.out⟩, hbl.out⟩
end Go.Proofs.YtondjnmpfpfpmaaDoor
