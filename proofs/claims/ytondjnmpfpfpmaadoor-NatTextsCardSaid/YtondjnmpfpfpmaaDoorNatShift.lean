/- Bits and Shift. -/
import Derived.Test.YtondjnmpfpfpmaaDoorNatDiv
namespace Go.Proofs.YtondjnmpfpfpmaaDoor
open Go.RowKit NM

theorem pw_pow (n : Nat) : pw n = 2 ^ (32 * n) := by
  induction n with
  | zero => rfl
  | succ n ih =>
    rw [pw_succ', ih, show 32 * (n + 1) = 32 * n + 32 by omega, Int.pow_add]
    rfl

/-- The least number of bits. -/
def IsBits (N : Int) (k : Nat) : Prop := (N = 0 ∧ k = 0) ∨ (0 < N ∧ 1 ≤ k ∧ 2 ^ (k - 1) ≤ N ∧ N < 2 ^ k)

theorem top_bits {xs : List Int} (cx : Canon xs) {n : Nat} (hl : xs.length = n + 1) {k : Nat} (k1 : 1 ≤ k) (h0 : (2 : Int) ^ (k - 1) ≤ lb xs n) (h1 : lb xs n < 2 ^ k) : IsBits (val xs) (n * 32 + k) := by
  have h2 := val_step (xs := xs) (k := n) (by omega)
  rw [val_take_all (by omega)] at h2
  have t0 := val_nonneg (U32s_take cx.u n)
  have t1 := val_lt (U32s_take cx.u n)
  rw [List.length_take, Nat.min_eq_left (by omega)] at t1
  have hp := pw_pos n
  have e : pw n = 2 ^ (n * 32) := by rw [pw_pow, Nat.mul_comm]
  have a1 : pw n * 2 ^ (k - 1) ≤ pw n * lb xs n := Int.mul_le_mul_of_nonneg_left h0 (by omega)
  have a2 : pw n * (lb xs n + 1) ≤ pw n * 2 ^ k := Int.mul_le_mul_of_nonneg_left (by omega) (by omega)
  rw [Int.mul_add] at a2
  have b1 : pw n * 2 ^ (k - 1) = 2 ^ (n * 32 + k - 1) := by rw [e, ← Int.pow_add, show n * 32 + (k - 1) = n * 32 + k - 1 by omega]
  have b2 : pw n * 2 ^ k = 2 ^ (n * 32 + k) := by rw [e, ← Int.pow_add]
  rw [b1] at a1
  rw [b2] at a2
  have := pow_pos2 (n * 32 + k - 1)
  exact .inr ⟨by omega, by omega, by omega, by omega⟩

set_option maxHeartbeats 800000 in
set_option maxRecDepth 100000 in
theorem width_num (v : Value) (N : Int) (w : World) (h1 : Num w v N) :
    Calls Tryd.prog 44 #[v] w fun e w' => (∃ k : Nat, e = .returned (.int .i64 (k : Int)) ∧ IsBits N k ∧ k ≤ 512) ∧ w = w' := by
  obtain ⟨xs, ⟨ao, ca, rfl, _, ra, ux, _⟩, rx, rfl⟩ := h1
  obtain ⟨cx, lx⟩ := rightB_canon ux rx
  clear rx
  by_cases h0 : xs = []
  · subst h0
    have hb : IsBits (val []) 0 := .inl ⟨rfl, rfl⟩
    have HB := Lib.hid hb
    clear ra ux cx lx hb
    go_enter Tryd.func44, Tryd.ntmps44
    go_wp2_with fail
    go_ret
    exact ⟨⟨0, rfl, HB.out, by omega⟩, rfl⟩
  · have hlen := List.length_pos_iff.2 h0
    obtain ⟨n, hn⟩ : ∃ n, xs.length = n + 1 := ⟨xs.length - 1, by omega⟩
    obtain ⟨b, off, rfl, _, hc⟩ := ra.cells (by omega)
    have hck := hc n (by omega)
    have ht := Ends_lb cx.e h0
    rw [hn, Nat.add_sub_cancel] at ht
    obtain ⟨t0, t1⟩ := lb_range ux n
    obtain ⟨l0, l1, l2, l3⟩ := bitLen_facts (x := lb xs n) (by omega) t1
    obtain ⟨k, hk⟩ : ∃ k : Nat, k = Lib.bitLen (lb xs n).toNat := ⟨_, rfl⟩
    have hL : ∀ w, Calls Tryd.prog 55 #[.int .u32 (lb xs n)] w fun e w' => e = .returned (.int .i64 (k : Int)) ∧ w = w' := fun w =>
      (Tryd.bits_Len32 (lb xs n) w t0 (by omega)).mono fun e w' ⟨he, hw⟩ => ⟨by rw [he, hk], hw.symm⟩
    rw [← hk] at l0 l1 l2 l3
    have hB := top_bits cx hn l0 l2 l3
    have HB := Lib.hid hB
    have HL := Lib.hid hL
    have Hc := Lib.hid hc
    have Hn := Lib.hid hn
    rw [hn]
    rw [hn] at lx
    clear hB hL hc hk l2 l3 hn ht h0 hlen
    go_enter Tryd.func44, Tryd.ntmps44
    go_wp2_with fail
    refine (HL.out _).mono ?_
    rintro e w' ⟨rfl, rfl⟩
    go_wp2_with fail
    go_ret
    exact ⟨⟨n * 32 + k, ret_int (by omega), HB.out, by omega⟩, rfl⟩

set_option maxHeartbeats 800000 in
theorem bits_num (v : Value) (N : Int) (w : World) (h1 : Num w v N) :
    Calls Tryd.prog 24 #[v] w fun e w' => (∃ k : Nat, e = .returned (.tuple #[.int .i64 (k : Int), .int .i64 0]) ∧ IsBits N k ∧ k ≤ 512) ∧ w = w' := by
  have R1 := Lib.hid (right_num h1)
  have W1 := Lib.hid (width_num v N w h1)
  clear h1
  go_enter Tryd.func24, Tryd.ntmps24
  go_wp2_with fail
  refine R1.out.mono ?_
  rintro e w' ⟨rfl, rfl⟩
  go_wp2_with fail
  refine W1.out.mono ?_
  rintro e w' ⟨⟨k, rfl, hb, hk⟩, rfl⟩
  have HB := Lib.hid hb
  clear hb
  go_wp2_with fail
  go_ret2
  exact ⟨⟨k, rfl, HB.out, hk⟩, rfl⟩

/-- A slice that is no number. -/
def Bad1 (w : World) (v : Value) : Prop := ∃ xs, Sl w v xs ∧ rightB xs = false
theorem right_bad {w : World} {v : Value} (h : Bad1 w v) :
    Calls Tryd.prog 13 #[v] w fun e w' => e = .returned (.bool false) ∧ w = w' := by
  obtain ⟨xs, h1, h2⟩ := h
  have := right_sl h1
  rw [h2] at this
  exact this
set_option maxHeartbeats 400000 in
theorem bits_bad (v : Value) (w : World) (h1 : Bad1 w v) :
    Calls Tryd.prog 24 #[v] w fun e w' => e = .returned (.tuple #[.int .i64 0, .int .i64 1]) ∧ w = w' := by
  have R1 := Lib.hid (right_bad h1)
  clear h1
  go_enter Tryd.func24, Tryd.ntmps24
  go_wp2_with fail
  refine R1.out.mono ?_
  rintro e w' ⟨rfl, rfl⟩
  go_wp2_with fail
  go_ret2
  exact ⟨rfl, rfl⟩
set_option maxHeartbeats 400000 in
theorem shift_bad (v : Value) (s : Int) (w : World) (h1 : Bad1 w v) :
    Calls Tryd.prog 23 #[v, .int .i64 s] w fun e w' => e = .returned (.tuple #[.slice none 0 0, .int .i64 1]) ∧ w = w' := by
  have R1 := Lib.hid (right_bad h1)
  clear h1
  go_enter Tryd.func23, Tryd.ntmps23
  go_wp2_with fail
  refine R1.out.mono ?_
  rintro e w' ⟨rfl, rfl⟩
  go_wp2_with fail
  go_ret2
  exact ⟨rfl, rfl⟩
end Go.Proofs.YtondjnmpfpfpmaaDoor
