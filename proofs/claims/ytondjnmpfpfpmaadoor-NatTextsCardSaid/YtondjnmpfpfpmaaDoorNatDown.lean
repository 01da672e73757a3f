/- Numbers shifted down by less than a limb. -/
import Derived.Test.YtondjnmpfpfpmaaDoorNatUp
namespace Go.Proofs.YtondjnmpfpfpmaaDoor
open Go.RowKit NM

/-- A limb shifted down: what stays in its place, and what goes to the one before. -/
theorem down_step {b : Nat} (hb : b ≤ 31) {x z : Int} (x0 : 0 ≤ x) (x1 : x < 4294967296) (z0 : 0 ≤ z) (z1 : z < 2 ^ (32 - b)) :
    0 ≤ x * 2 ^ (32 - b) ∧ x * 2 ^ (32 - b) < 18446744073709551616 ∧ x * 2 ^ (32 - b) / 4294967296 = x / 2 ^ b ∧ x * 2 ^ (32 - b) % 4294967296 = x % 2 ^ b * 2 ^ (32 - b) ∧
    x / 2 ^ b < 2 ^ (32 - b) ∧ (2 : Int) ^ (32 - b) ≤ 4294967296 ∧
    bits .or .u32 z (x * 2 ^ (32 - b) % 4294967296) = z + x * 2 ^ (32 - b) % 4294967296 ∧ z + x * 2 ^ (32 - b) % 4294967296 < 4294967296 := by
  have hP := pow_pos2 b
  have hQ := pow_pos2 (32 - b)
  have hQ2 := pow_le (show 32 - b ≤ 32 by omega)
  have hQ3 : (2 : Int) ^ 32 = 4294967296 := rfl
  have hs := pow_split (show b ≤ 32 by omega)
  have hs' : (2 : Int) ^ (32 - b) * 2 ^ b = 4294967296 := by rw [Int.mul_comm]; exact hs
  have h1 : x * 2 ^ (32 - b) ≤ 4294967295 * 2 ^ (32 - b) := Int.mul_le_mul_of_nonneg_right (by omega) (by omega)
  have h4 : 0 ≤ x * 2 ^ (32 - b) := Int.mul_nonneg x0 (by omega)
  have hd : x * 2 ^ (32 - b) / 4294967296 = x / 2 ^ b := by
    rw [← hs, Int.mul_ediv_mul_of_pos_left _ _ hQ]
  have hm : x * 2 ^ (32 - b) % 4294967296 = x % 2 ^ b * 2 ^ (32 - b) := by
    rw [← hs', Int.mul_comm x, Int.mul_emod_mul_of_pos _ _ hQ, Int.mul_comm]
  have hx : x / 2 ^ b < 2 ^ (32 - b) := by
    apply Int.ediv_lt_of_lt_mul hP
    rw [hs']; exact x1
  have h2 : x % 2 ^ b + 1 ≤ 2 ^ b := by
    have := Int.emod_lt_of_pos x hP
    omega
  have h3 := Int.mul_le_mul_of_nonneg_right h2 (show (0 : Int) ≤ 2 ^ (32 - b) by omega)
  rw [hs, Int.add_mul, ← hm] at h3
  refine ⟨h4, by omega, hd, hm, hx, by omega, ?_, by omega⟩
  rw [bits_or_comm, bits_join .u32 32 (by decide) ?_ (32 - b) _ _ (by omega) ?_ (by omega) z0 (by omega) (by omega)]
  · omega
  · intro n n0 n1
    rw [IntKind.wrap_u32]
    omega
  · rw [hm]
    exact Int.mul_emod_left _ _

/-- A number with one limb more, divided by a small power of two. -/
theorem down_val {V x : Int} {b k : Nat} (hb : b ≤ 31) : (V + pw (k + 1) * x) / 2 ^ b = V / 2 ^ b + pw (k + 1) * (x / 2 ^ b) + pw k * (x % 2 ^ b * 2 ^ (32 - b)) := by
  have hP := pow_pos2 b
  have hs := pow_split (show b ≤ 32 by omega)
  have e : pw (k + 1) * x = 2 ^ b * (pw k * (2 ^ (32 - b) * x)) := by
    rw [pw_succ', ← hs]
    ac_rfl
  rw [e, Int.add_mul_ediv_left _ _ (by omega)]
  have h2 := Int.mul_ediv_add_emod x (2 ^ b)
  have e2 : pw k * (2 ^ (32 - b) * x) = pw (k + 1) * (x / 2 ^ b) + pw k * (x % 2 ^ b * 2 ^ (32 - b)) := by
    have e3 : pw (k + 1) * (x / 2 ^ b) = pw k * (2 ^ (32 - b) * (2 ^ b * (x / 2 ^ b))) := by
      rw [pw_succ', ← hs]
      ac_rfl
    rw [e3, Int.mul_comm (x % 2 ^ b), ← Int.mul_add, ← Int.mul_add, h2]
  rw [e2]
  omega

set_option maxHeartbeats 2000000 in
set_option maxRecDepth 100000 in
theorem down_any (ao : Option Addr) (ca : Nat) (xs : List Int) (by' : Nat) (w : World) (ra : Row w ao xs) (ux : U32s xs) (lx : xs.length ≤ 33) (hby : by' ≤ 31) (hsmall : val xs / 2 ^ by' < pw 16) :
    Calls Tryd.prog 45 #[.slice ao xs.length ca, .int .i64 by'] w fun e w' => (∃ r, e = .returned r ∧ Num w' r (val xs / 2 ^ by')) ∧ Below w.heap.size w w' := by
  obtain ⟨n, hn⟩ : ∃ n, n = xs.length := ⟨_, rfl⟩
  rw [← hn] at lx ⊢
  have Hn := Lib.hid hn
  have Hsm := Lib.hid hsmall
  clear hn hsmall
  have hmk : ∀ wx, (Instr.makeSlice 23 (.int .i64 (n : Int)) (.int .i64 (n : Int))).run Tryd.prog wx = .ok (.slice (some ⟨wx.heap.size, 0, none⟩) n n) (wx.alloc (.cells (arr (List.replicate n 0)) 59)) := make_nat n (by omega)
  go_enter Tryd.func45, Tryd.ntmps45
  go_wp2_with fail
  go_loopw [14] (fun i wr => ∃ k : Nat, ∃ zs : List Int, k ≤ n ∧ i = .int .i64 k ∧ zs.length = n ∧ U32s zs ∧ Hid (val zs = val (xs.take k) / 2 ^ by') ∧ Hid ((0 < k → lb zs (k - 1) < 2 ^ (32 - by')) ∧ ∀ j, k ≤ j → lb zs j = 0) ∧ wr = w.alloc (.cells (arr zs) 59)) (fun i _ => n - (intOf i).toNat)
  case atStart => exact ⟨0, List.replicate n 0, Nat.zero_le _, rfl, by simp, U32s_replicate _, Lib.hid (by rw [val_replicate]; simp [val]), Lib.hid ⟨fun h => absurd h (Nat.lt_irrefl _), fun j _ => lb_replicate _ _⟩, rfl⟩
  case round =>
    obtain ⟨k, zs, hk, rfl, hz, uz, hv, hs, rfl⟩ := hrel
    by_cases hkn : k < n
    · obtain ⟨b, off, rfl, hbs, hc⟩ := ra.cells (by rw [← Hn.out]; omega)
      have hck := hc k (by rw [← Hn.out]; omega)
      obtain ⟨x0, x1⟩ := lb_range ux k
      have hkx : k < xs.length := by rw [← Hn.out]; exact hkn
      have Hkx := Lib.hid hkx
      have Hc := Lib.hid hc
      clear hc hkx
      cases k with
      | zero =>
        rw [Nat.add_zero] at hck
        have hzk := arr_at zs 0 (by omega)
        obtain ⟨w0, w1, w2, w2', w3, p1, -, -⟩ := down_step hby x0 x1 (z := 0) (by omega) (pow_pos2 _)
        have hww := wrap_in w0 w1
        obtain ⟨W, hW⟩ : ∃ W, lb xs 0 * 2 ^ (32 - by') = W := ⟨_, rfl⟩
        rw [hW] at w0 w1 w2 hww
        have hww' : IntKind.u64.wrap (lb xs 0 * 2 ^ (32 - by')) = W := by rw [hW]; exact hww
        have W4 : W / 4294967296 < 4294967296 := by omega
        have W5 : 0 ≤ W / 4294967296 := by omega
        have W2 := Lib.hid w2
        have W3 := Lib.hid w3
        clear hW w2 w2' w1 hww w3 p1
        go_wp2_with fail
        go_roundw
        case rel =>
          refine ⟨1, zs.set 0 (W / 4294967296), by omega, by go_num, by simpa using hz, U32s_set uz _ W5 W4, Lib.hid ?_, Lib.hid ⟨fun _ => ?_, ?_⟩, by rw [arr_set]⟩
          · rw [val_set _ _ _ (by omega), hs.out.2 0 (by omega), hv.out, show (1 : Nat) = 0 + 1 from rfl, val_step Hkx.out, W2.out]
            simp [val, pw]
          · rw [lb_set_eq (by omega), W2.out]; exact W3.out
          · intro j hj
            rw [lb_set_ne (by omega)]
            exact hs.out.2 j (by omega)
        case measure => simp [intOf]; omega
      | succ k =>
        have hz1 : ∀ v, ((arr zs).setIfInBounds (k + 1) v)[k]? = some (.int .u32 (lb zs k)) := fun v => by
          rw [Array.getElem?_setIfInBounds_ne (by omega)]
          exact arr_at zs k (by omega)
        have hzk := arr_at zs (k + 1) (by omega)
        obtain ⟨z0, z1⟩ := lb_range uz k
        have s0 := hs.out.1 (by omega)
        rw [Nat.add_sub_cancel] at s0
        obtain ⟨w0, w1, w2, w2', w3, p1, hor, w4⟩ := down_step hby x0 x1 z0 s0
        have hww := wrap_in w0 w1
        obtain ⟨W, hW⟩ : ∃ W, lb xs (k + 1) * 2 ^ (32 - by') = W := ⟨_, rfl⟩
        rw [hW] at w0 w1 w2 w2' hor w4 hww
        have hww' : IntKind.u64.wrap (lb xs (k + 1) * 2 ^ (32 - by')) = W := by rw [hW]; exact hww
        have W4 : W / 4294967296 < 4294967296 := by omega
        have W5 : 0 ≤ W / 4294967296 := by omega
        have W2 := Lib.hid w2
        have W2' := Lib.hid w2'
        have W3 := Lib.hid w3
        have W6 := Lib.hid w4
        have S1 := Lib.hid hs.out.2
        clear hW w2 w2' w1 hww w3 p1 s0 w4
        go_wp2_with fail
        go_roundw
        case rel =>
          have w6 := W6.out
          refine ⟨k + 2, (zs.set (k + 1) (W / 4294967296)).set k (lb zs k + W % 4294967296), by omega, by go_num, by simpa using hz, U32s_set (U32s_set uz _ W5 W4) _ (by omega) w6, Lib.hid ?_, Lib.hid ⟨fun _ => ?_, ?_⟩, by rw [arr_set, arr_set]⟩
          · rw [val_set _ _ _ (by simp; omega), lb_set_ne (by omega), val_set _ _ _ (by omega), S1.out (k + 1) (by omega), hv.out, show k + 2 = (k + 1) + 1 from rfl, val_step Hkx.out, down_val hby, W2.out, W2'.out, Int.sub_zero]
            congr 2
            omega
          · rw [show k + 2 - 1 = k + 1 from rfl, lb_set_ne (by omega), lb_set_eq (by omega), W2.out]; exact W3.out
          · intro j hj
            rw [lb_set_ne (by omega), lb_set_ne (by omega)]
            exact S1.out j (by omega)
        case measure => simp [intOf]; omega
    · have : k = n := by omega
      subst this
      have hvv : val zs = val xs / 2 ^ by' := by rw [hv.out, val_take_all (by rw [← Hn.out]; omega)]
      have hnum := trimmed_num (arr_row w zs 59) uz (cap := k) (by omega) ((tl_small uz).2 (by rw [hvv]; exact Hsm.out))
      rw [hvv, hz] at hnum
      have Hnum := Lib.hid hnum
      have htr := trim_any (some ⟨w.heap.size, 0, none⟩) k zs (w.alloc (.cells (arr zs) 59)) (arr_row _ _ _) (by omega) (by omega)
      rw [hz] at htr
      have Htr := Lib.hid htr
      clear hnum htr hvv
      go_wp2_with fail
      refine Htr.out.mono ?_
      rintro e w2 ⟨rfl, rfl⟩
      go_wp2_with fail
      go_ret
      exact ⟨⟨_, rfl, Hnum.out⟩, (Below.refl _ _).alloc (Nat.le_refl _) _⟩
end Go.Proofs.YtondjnmpfpfpmaaDoor
