/- join: the bits of a floating number. -/
import Derived.Test.YtlkadnaoacoicaaRoundScaled
namespace Go.Proofs.Ytlkadnaoacoicaa
open Go.RowKit NM

theorem or_23 {a x : Int} (h0 : 0 ≤ a) (h1 : a < 4294967296) (x0 : 0 ≤ x) (x1 : x < 8388608) : bits .or .u64 x (a * 8388608) = a * 8388608 + x := by
  rw [bits_or_comm]
  refine bits_join .u64 64 (by decide) ?_ 23 _ _ (by omega) (by omega) (by omega) x0 (by omega) (by omega)
  intro n n0 n1
  simp only [IntKind.wrap, IntKind.signed, IntKind.bits]
  simp
  omega
theorem or_52 {a x : Int} (h0 : 0 ≤ a) (h1 : a < 2048) (x0 : 0 ≤ x) (x1 : x < 4503599627370496) : bits .or .u64 x (a * 4503599627370496) = a * 4503599627370496 + x := by
  rw [bits_or_comm]
  refine bits_join .u64 64 (by decide) ?_ 52 _ _ (by omega) (by omega) (by omega) x0 (by omega) (by omega)
  intro n n0 n1
  simp only [IntKind.wrap, IntKind.signed, IntKind.bits]
  simp
  omega
theorem or_31 {x : Int} (x0 : 0 ≤ x) (x1 : x < 2147483648) : bits .or .u64 x 2147483648 = x + 2147483648 := by
  rw [bits_or_comm, Int.add_comm]
  refine bits_join .u64 64 (by decide) ?_ 31 _ _ (by omega) (by omega) (by omega) x0 (by omega) (by omega)
  intro n n0 n1
  simp only [IntKind.wrap, IntKind.signed, IntKind.bits]
  simp
  omega
theorem or_63 {x : Int} (x0 : 0 ≤ x) (x1 : x < 9223372036854775808) : bits .or .u64 x 9223372036854775808 = x + 9223372036854775808 := by
  rw [bits_or_comm, Int.add_comm]
  refine bits_join .u64 64 (by decide) ?_ 63 _ _ (by omega) (by omega) (by omega) x0 (by omega) (by omega)
  intro n n0 n1
  simp only [IntKind.wrap, IntKind.signed, IntKind.bits]
  simp
  omega
set_option maxHeartbeats 1600000 in
set_option maxRecDepth 100000 in
theorem join32_zero (e : Int) (neg : Bool) (w : World) :
    Calls Try.prog 19 #[.agg #[.int .i64 24, .int .i64 149, .int .i64 104], .int .u64 0, .int .i64 e, .bool neg, .int .i64 32] w fun en w' => en = .returned (.int .u64 0) ∧ Below w.heap.size w w' := by
  go_enter Try.func19, Try.ntmps19
  go_wp2_with fail
  go_ret
  exact ⟨rfl, (Below.refl _ _).alloc (Nat.le_refl _) _⟩
set_option maxHeartbeats 1600000 in
set_option maxRecDepth 100000 in
theorem join32_low_f (m e : Int) (m0 : 0 < m) (m1 : m < 8388608) (w : World) :
    Calls Try.prog 19 #[.agg #[.int .i64 24, .int .i64 149, .int .i64 104], .int .u64 m, .int .i64 e, .bool false, .int .i64 32] w fun en w' => en = .returned (.int .u64 (m)) ∧ Below w.heap.size w w' := by
  have hz : (m == 0) = false := by rw [beq_eq_false_iff_ne]; omega
  go_enter Try.func19, Try.ntmps19
  go_wp2_with fail
  go_ret
  exact ⟨rfl, (Below.refl _ _).alloc (Nat.le_refl _) _⟩
set_option maxHeartbeats 1600000 in
set_option maxRecDepth 100000 in
theorem join32_high_f (m e : Int) (m0 : 8388608 ≤ m) (m1 : m < 16777216) (e0 : -149 ≤ e) (e1 : e ≤ 104) (w : World) :
    Calls Try.prog 19 #[.agg #[.int .i64 24, .int .i64 149, .int .i64 104], .int .u64 m, .int .i64 e, .bool false, .int .i64 32] w fun en w' => en = .returned (.int .u64 ((e + 149 + 1) * 8388608 + (m - 8388608))) ∧ Below w.heap.size w w' := by
  have hz : (m == 0) = false := by rw [beq_eq_false_iff_ne]; omega
  have hb := or_23 (a := e + 149 + 1) (x := m - 8388608) (by omega) (by omega) (by omega) (by omega)
  go_enter Try.func19, Try.ntmps19
  go_wp2_with fail
  go_ret
  exact ⟨rfl, (Below.refl _ _).alloc (Nat.le_refl _) _⟩
set_option maxHeartbeats 1600000 in
set_option maxRecDepth 100000 in
theorem join32_low_t (m e : Int) (m0 : 0 < m) (m1 : m < 8388608) (w : World) :
    Calls Try.prog 19 #[.agg #[.int .i64 24, .int .i64 149, .int .i64 104], .int .u64 m, .int .i64 e, .bool true, .int .i64 32] w fun en w' => en = .returned (.int .u64 (m + 2147483648)) ∧ Below w.heap.size w w' := by
  have hz : (m == 0) = false := by rw [beq_eq_false_iff_ne]; omega
  have ho := or_31 (x := m) (by omega) (by omega)
  go_enter Try.func19, Try.ntmps19
  go_wp2_with fail
  go_ret
  exact ⟨rfl, (Below.refl _ _).alloc (Nat.le_refl _) _⟩
set_option maxHeartbeats 1600000 in
set_option maxRecDepth 100000 in
theorem join32_high_t (m e : Int) (m0 : 8388608 ≤ m) (m1 : m < 16777216) (e0 : -149 ≤ e) (e1 : e ≤ 104) (w : World) :
    Calls Try.prog 19 #[.agg #[.int .i64 24, .int .i64 149, .int .i64 104], .int .u64 m, .int .i64 e, .bool true, .int .i64 32] w fun en w' => en = .returned (.int .u64 ((e + 149 + 1) * 8388608 + (m - 8388608) + 2147483648)) ∧ Below w.heap.size w w' := by
  have hz : (m == 0) = false := by rw [beq_eq_false_iff_ne]; omega
  have hb := or_23 (a := e + 149 + 1) (x := m - 8388608) (by omega) (by omega) (by omega) (by omega)
  have ho := or_31 (x := (e + 149 + 1) * 8388608 + (m - 8388608)) (by omega) (by omega)
  go_enter Try.func19, Try.ntmps19
  go_wp2_with fail
  go_ret
  exact ⟨rfl, (Below.refl _ _).alloc (Nat.le_refl _) _⟩
set_option maxHeartbeats 1600000 in
set_option maxRecDepth 100000 in
theorem join64_zero (e : Int) (neg : Bool) (w : World) :
    Calls Try.prog 19 #[.agg #[.int .i64 53, .int .i64 1074, .int .i64 971], .int .u64 0, .int .i64 e, .bool neg, .int .i64 64] w fun en w' => en = .returned (.int .u64 0) ∧ Below w.heap.size w w' := by
  go_enter Try.func19, Try.ntmps19
  go_wp2_with fail
  go_ret
  exact ⟨rfl, (Below.refl _ _).alloc (Nat.le_refl _) _⟩
set_option maxHeartbeats 1600000 in
set_option maxRecDepth 100000 in
theorem join64_low_f (m e : Int) (m0 : 0 < m) (m1 : m < 4503599627370496) (w : World) :
    Calls Try.prog 19 #[.agg #[.int .i64 53, .int .i64 1074, .int .i64 971], .int .u64 m, .int .i64 e, .bool false, .int .i64 64] w fun en w' => en = .returned (.int .u64 (m)) ∧ Below w.heap.size w w' := by
  have hz : (m == 0) = false := by rw [beq_eq_false_iff_ne]; omega
  go_enter Try.func19, Try.ntmps19
  go_wp2_with fail
  go_ret
  exact ⟨rfl, (Below.refl _ _).alloc (Nat.le_refl _) _⟩
set_option maxHeartbeats 1600000 in
set_option maxRecDepth 100000 in
theorem join64_high_f (m e : Int) (m0 : 4503599627370496 ≤ m) (m1 : m < 9007199254740992) (e0 : -1074 ≤ e) (e1 : e ≤ 971) (w : World) :
    Calls Try.prog 19 #[.agg #[.int .i64 53, .int .i64 1074, .int .i64 971], .int .u64 m, .int .i64 e, .bool false, .int .i64 64] w fun en w' => en = .returned (.int .u64 ((e + 1074 + 1) * 4503599627370496 + (m - 4503599627370496))) ∧ Below w.heap.size w w' := by
  have hz : (m == 0) = false := by rw [beq_eq_false_iff_ne]; omega
  have hb := or_52 (a := e + 1074 + 1) (x := m - 4503599627370496) (by omega) (by omega) (by omega) (by omega)
  go_enter Try.func19, Try.ntmps19
  go_wp2_with fail
  go_ret
  exact ⟨rfl, (Below.refl _ _).alloc (Nat.le_refl _) _⟩
set_option maxHeartbeats 1600000 in
set_option maxRecDepth 100000 in
theorem join64_low_t (m e : Int) (m0 : 0 < m) (m1 : m < 4503599627370496) (w : World) :
    Calls Try.prog 19 #[.agg #[.int .i64 53, .int .i64 1074, .int .i64 971], .int .u64 m, .int .i64 e, .bool true, .int .i64 64] w fun en w' => en = .returned (.int .u64 (m + 9223372036854775808)) ∧ Below w.heap.size w w' := by
  have hz : (m == 0) = false := by rw [beq_eq_false_iff_ne]; omega
  have ho := or_63 (x := m) (by omega) (by omega)
  go_enter Try.func19, Try.ntmps19
  go_wp2_with fail
  go_ret
  exact ⟨rfl, (Below.refl _ _).alloc (Nat.le_refl _) _⟩
set_option maxHeartbeats 1600000 in
set_option maxRecDepth 100000 in
theorem join64_high_t (m e : Int) (m0 : 4503599627370496 ≤ m) (m1 : m < 9007199254740992) (e0 : -1074 ≤ e) (e1 : e ≤ 971) (w : World) :
    Calls Try.prog 19 #[.agg #[.int .i64 53, .int .i64 1074, .int .i64 971], .int .u64 m, .int .i64 e, .bool true, .int .i64 64] w fun en w' => en = .returned (.int .u64 ((e + 1074 + 1) * 4503599627370496 + (m - 4503599627370496) + 9223372036854775808)) ∧ Below w.heap.size w w' := by
  have hz : (m == 0) = false := by rw [beq_eq_false_iff_ne]; omega
  have hb := or_52 (a := e + 1074 + 1) (x := m - 4503599627370496) (by omega) (by omega) (by omega) (by omega)
  have ho := or_63 (x := (e + 1074 + 1) * 4503599627370496 + (m - 4503599627370496)) (by omega) (by omega)
  go_enter Try.func19, Try.ntmps19
  go_wp2_with fail
  go_ret
  exact ⟨rfl, (Below.refl _ _).alloc (Nat.le_refl _) _⟩
end Go.Proofs.Ytlkadnaoacoicaa
