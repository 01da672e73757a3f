/- Numbers shifted by less than a limb. -/
import Derived.Test.YtondjnmpfpfpmaaDoorNatShort
namespace Go.Proofs.YtondjnmpfpfpmaaDoor
open Go.RowKit NM

theorem pow_pos2 (n : Nat) : (0 : Int) < 2 ^ n := Int.pow_pos (by omega)
theorem pow_split {b : Nat} (h : b ≤ 32) : (2 : Int) ^ b * 2 ^ (32 - b) = 4294967296 := by
  rw [← Int.pow_add, show b + (32 - b) = 32 by omega]
  rfl
theorem pow_le {a b : Nat} (h : a ≤ b) : (2 : Int) ^ a ≤ 2 ^ b := by
  obtain ⟨d, rfl⟩ := Nat.exists_eq_add_of_le h
  rw [Int.pow_add]
  have h1 := pow_pos2 a
  have h2 := pow_pos2 d
  have : (2 : Int) ^ a * 1 ≤ 2 ^ a * 2 ^ d := Int.mul_le_mul_of_nonneg_left (by omega) (by omega)
  omega
theorem bits_or_comm (k : IntKind) (x y : Int) : bits .or k x y = bits .or k y x := by
  simp [bits, BitVec.or_comm]

/-- A limb shifted up: what stays in its place, and what goes to the next. -/
theorem up_step {b : Nat} (hb : b ≤ 31) {x z : Int} (x0 : 0 ≤ x) (x1 : x < 4294967296) (z0 : 0 ≤ z) (z1 : z < 2 ^ b) :
    0 ≤ x * 2 ^ b ∧ x * 2 ^ b < 18446744073709551616 ∧ x * 2 ^ b / 4294967296 < 2 ^ b ∧ (2 : Int) ^ b ≤ 2147483648 ∧
    bits .or .u32 z (x * 2 ^ b % 4294967296) = z + x * 2 ^ b % 4294967296 ∧ z + x * 2 ^ b % 4294967296 < 4294967296 := by
  have hP := pow_pos2 b
  have hP2 := pow_le hb
  have hP3 : (2 : Int) ^ 31 = 2147483648 := rfl
  have hQ := pow_pos2 (32 - b)
  have hs := pow_split (show b ≤ 32 by omega)
  have h1 : x * 2 ^ b ≤ 4294967295 * 2 ^ b := Int.mul_le_mul_of_nonneg_right (by omega) (by omega)
  have hm : x * 2 ^ b % 4294967296 = 2 ^ b * (x % 2 ^ (32 - b)) := by
    rw [← hs, Int.mul_comm x, Int.mul_emod_mul_of_pos _ _ hP]
  have h2 : x % 2 ^ (32 - b) + 1 ≤ 2 ^ (32 - b) := by
    have := Int.emod_lt_of_pos x hQ
    omega
  have h3 := Int.mul_le_mul_of_nonneg_left h2 (show (0 : Int) ≤ 2 ^ b by omega)
  rw [hs, Int.mul_add, ← hm] at h3
  have h4 : 0 ≤ x * 2 ^ b := Int.mul_nonneg x0 (by omega)
  refine ⟨h4, by omega, by omega, by omega, ?_, by omega⟩
  rw [bits_or_comm, bits_join .u32 32 (by decide) ?_ b _ _ (by omega) ?_ (by omega) z0 (by omega) (by omega)]
  · omega
  · intro n n0 n1
    rw [IntKind.wrap_u32]
    omega
  · rw [hm]
    exact Int.mul_emod_right _ _

set_option maxHeartbeats 2000000 in
set_option maxRecDepth 100000 in
theorem up_any (ao : Option Addr) (ca : Nat) (xs : List Int) (by' : Nat) (w : World) (ra : Row w ao xs) (ux : U32s xs) (lx : xs.length ≤ 33) (hby : by' ≤ 31) :
    Calls Tryd.prog 46 #[.slice ao xs.length ca, .int .i64 by'] w fun e w' => ∃ zs : List Int, e = .returned (.slice (some ⟨w.heap.size, 0, none⟩) (xs.length + 1) (xs.length + 1)) ∧ zs.length = xs.length + 1 ∧ U32s zs ∧ val zs = val xs * 2 ^ by' ∧ w' = w.alloc (.cells (arr zs) 59) := by
  obtain ⟨n, hn⟩ : ∃ n, n = xs.length := ⟨_, rfl⟩
  rw [← hn] at lx ⊢
  have Hn := Lib.hid hn
  clear hn
  have hmk : ∀ wx, (Instr.makeSlice 23 (.int .i64 ((n : Int) + 1)) (.int .i64 ((n : Int) + 1))).run Tryd.prog wx = .ok (.slice (some ⟨wx.heap.size, 0, none⟩) (n + 1) (n + 1)) (wx.alloc (.cells (arr (List.replicate (n + 1) 0)) 59)) := make_nat (n + 1) (by omega)
  go_enter Tryd.func46, Tryd.ntmps46
  go_wp2_with fail
  go_loopw [15] (fun i wr => ∃ k : Nat, ∃ zs : List Int, k ≤ n ∧ i = .int .i64 k ∧ zs.length = n + 1 ∧ U32s zs ∧ Hid (val zs = val (xs.take k) * 2 ^ by') ∧ Hid (lb zs k < 2 ^ by' ∧ ∀ j, k < j → lb zs j = 0) ∧ wr = w.alloc (.cells (arr zs) 59)) (fun i _ => n - (intOf i).toNat)
  case atStart => exact ⟨0, List.replicate (n + 1) 0, Nat.zero_le _, rfl, by simp, U32s_replicate _, Lib.hid (by rw [val_replicate]; simp [val]), Lib.hid ⟨by rw [lb_replicate]; exact Int.pow_pos (by omega), fun j _ => lb_replicate _ _⟩, rfl⟩
  case round =>
    obtain ⟨k, zs, hk, rfl, hz, uz, hv, hs, rfl⟩ := hrel
    by_cases hkn : k < n
    · have hzk := arr_at zs k (by omega)
      have hzk1 := arr_at zs (k + 1) (by omega)
      obtain ⟨b, off, rfl, hbs, hc⟩ := ra.cells (by rw [← Hn.out]; omega)
      have hck := hc k (by rw [← Hn.out]; omega)
      obtain ⟨x0, x1⟩ := lb_range ux k
      obtain ⟨z0, z1⟩ := lb_range uz k
      obtain ⟨s0, s1⟩ := hs.out
      obtain ⟨w0, w1, w2, p1, hor, w3⟩ := up_step hby x0 x1 z0 s0
      have hww := wrap_in w0 w1
      obtain ⟨W, hW⟩ : ∃ W, lb xs k * 2 ^ by' = W := ⟨_, rfl⟩
      rw [hW] at w0 w1 w2 hor w3 hww
      have hww' : IntKind.u64.wrap (lb xs k * 2 ^ by') = W := by rw [hW]; exact hww
      have HW := Lib.hid hW
      have Hc := Lib.hid hc
      have W4 : W / 4294967296 < 4294967296 := by omega
      have W5 : 0 ≤ W / 4294967296 := by omega
      have W6 := Lib.hid w2
      have W7 := Lib.hid w3
      have W8 := Lib.hid p1
      have S1 := Lib.hid s1
      clear hc hW w2 w1 hww s0 s1 w3 p1
      go_wp2_with fail
      go_roundw
      case rel =>
        have w6 := W6.out
        have w7 := W7.out
        refine ⟨k + 1, (zs.set k (lb zs k + W % 4294967296)).set (k + 1) (W / 4294967296), by omega, by go_num, by simpa using hz, U32s_set (U32s_set uz _ (by omega) w7) _ W5 W4, Lib.hid ?_, Lib.hid ⟨?_, ?_⟩, by rw [arr_set, arr_set]⟩
        · rw [val_set _ _ _ (by simp; omega), lb_set_ne (by omega), S1.out (k + 1) (by omega), Int.sub_zero, val_set _ _ _ (by omega), hv.out, val_step (by rw [← Hn.out]; omega), Int.add_mul, Int.mul_assoc, HW.out, pw_succ', Int.mul_assoc, Int.add_assoc, ← Int.mul_add]
          congr 2
          omega
        · rw [lb_set_eq (by simp; omega)]
          exact w6
        · intro j hj
          rw [lb_set_ne (by omega), lb_set_ne (by omega)]
          exact S1.out j (by omega)
      case measure => simp [intOf]; omega
    · have : k = n := by omega
      subst this
      have H := Lib.hid (show val zs = val xs * 2 ^ by' by rw [hv.out, val_take_all (by rw [← Hn.out]; omega)])
      go_wp2_with fail
      go_ret
      exact ⟨zs, rfl, hz, uz, H.out, rfl⟩
end Go.Proofs.YtondjnmpfpfpmaaDoor
