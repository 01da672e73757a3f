/- split: m and e of bits without a sign. -/
import Derived.Test.YtlkadnaoacoicaaDoorRoundFval
import Derived.Test.YtlkadnaoacoicaaDoorRoundTz
import Derived.Test.YtlkadnaoacoicaaDoorRoundJoin
import Derived.IntWalk
namespace Go.Proofs.YtlkadnaoacoicaaDoor
open Go.RowKit NM

theorem ret_split {a b c d : Int} {p q : Bool} (h1 : a = b) (h2 : c = d) (h3 : p = q) : Ending.returned (.tuple #[.int .u64 a, .int .i64 c, .bool p]) = .returned (.tuple #[.int .u64 b, .int .i64 d, .bool q]) := by rw [h1, h2, h3]
theorem and_23 {x : Int} (h0 : 0 ≤ x) (h1 : x < 18446744073709551616) : bits .and .u64 x 8388607 = x % 8388608 :=
  bits_mask .u64 64 (by decide) (fun n n0 n1 => by simp only [IntKind.wrap, IntKind.signed, IntKind.bits]; simp; omega) 23 (by decide) x h0 (by omega)
theorem and_52 {x : Int} (h0 : 0 ≤ x) (h1 : x < 18446744073709551616) : bits .and .u64 x 4503599627370495 = x % 4503599627370496 :=
  bits_mask .u64 64 (by decide) (fun n n0 n1 => by simp only [IntKind.wrap, IntKind.signed, IntKind.bits]; simp; omega) 52 (by decide) x h0 (by omega)
theorem or_h23 {x : Int} (x0 : 0 ≤ x) (x1 : x < 8388608) : bits .or .u64 x 8388608 = 1 * 8388608 + x := or_23 (a := 1) (by omega) (by omega) x0 x1
theorem or_h52 {x : Int} (x0 : 0 ≤ x) (x1 : x < 4503599627370496) : bits .or .u64 x 4503599627370496 = 1 * 4503599627370496 + x := or_52 (a := 1) (by omega) (by omega) x0 x1

theorem fman24 (b : Nat) : fman b 24 = b % 8388608 + (if b / 8388608 = 0 then 0 else 8388608) := rfl
theorem fexp24 (b : Nat) : fexp b 24 149 = (if b / 8388608 = 0 then 1 else (b / 8388608 : Nat)) - 1 - 149 := rfl
set_option maxHeartbeats 1600000 in
set_option maxRecDepth 100000 in
theorem split32 (b : Nat) (w : World) (hb : b < 2147483648) :
    Calls Tryd.prog 20 #[.agg #[.int .i64 24, .int .i64 149, .int .i64 104], .int .u64 b] w fun e w' => e = .returned (.tuple #[.int .u64 (fman b 24 : Nat), .int .i64 (fexp b 24 149), .bool (decide (b / 8388608 < 255))]) ∧ Below w.heap.size w w' := by
  have hand := and_23 (x := (b : Int)) (by omega) (by omega)
  have hor := or_h23 (x := (b : Int) % 8388608) (by omega) (by omega)
  have B : Below w.heap.size w (w.alloc (.cells #[.int .i64 24, .int .i64 149, .int .i64 104] 53)) := (Below.refl _ _).alloc (Nat.le_refl _) _
  obtain ⟨c0, c1, c2⟩ := block3 (BlockAt.new w #[.int .i64 24, .int .i64 149, .int .i64 104] 53)
  obtain ⟨E, hE⟩ : ∃ E : Int, (b : Int) / 8388608 = E := ⟨_, rfl⟩
  have hw : IntKind.i64.wrap E = E := by simp only [IntKind.wrap, IntKind.signed, IntKind.bits]; simp; omega
  by_cases h0 : E = 0
  · have hE0 : b / 8388608 = 0 := by omega
    have hret := Lib.hid (show ((b : Int) % 8388608 = (fman b 24 : Nat)) ∧ (-149 = fexp b 24 149) ∧ decide (b / 8388608 < 255) = true by rw [fman24, fexp24, if_pos hE0, if_pos hE0, hE0]; refine ⟨by omega, by omega, by decide⟩)
    have hz : (E == 0) = true := by rw [beq_iff_eq]; exact h0
    clear hE0 hor
    subst h0
    go_enter Tryd.func20, Tryd.ntmps20
    go_wp2_with fail
    go_quiet (fail)
    go_wp2_with fail
    go_quiet (fail)
    go_wp2_with fail
    go_ret3
    exact ⟨ret_split hret.out.1 hret.out.2.1 hret.out.2.2.symm, below_drewN (below_drewN B _) _⟩
  · have hE0 : b / 8388608 ≠ 0 := by omega
    have hret := Lib.hid (show (8388608 + (b : Int) % 8388608 = (fman b 24 : Nat)) ∧ (E - 150 = fexp b 24 149) ∧ decide (b / 8388608 < 255) = decide (E - 150 ≤ 104) by rw [fman24, fexp24, if_neg hE0, if_neg hE0]; refine ⟨by omega, by omega, by rw [decide_eq_decide]; omega⟩)
    have hz : (E == 0) = false := by rw [beq_eq_false_iff_ne]; exact h0
    clear hE0 h0
    go_enter Tryd.func20, Tryd.ntmps20
    go_wp2_with fail
    go_quiet (fail)
    go_wp2_with fail
    go_quiet (fail)
    go_wp2_with fail
    go_ret3
    exact ⟨ret_split hret.out.1 hret.out.2.1 hret.out.2.2.symm, below_drewN (below_drewN B _) _⟩
theorem fman53 (b : Nat) : fman b 53 = b % 4503599627370496 + (if b / 4503599627370496 = 0 then 0 else 4503599627370496) := rfl
theorem fexp53 (b : Nat) : fexp b 53 1074 = (if b / 4503599627370496 = 0 then 1 else (b / 4503599627370496 : Nat)) - 1 - 1074 := rfl
set_option maxHeartbeats 1600000 in
set_option maxRecDepth 100000 in
theorem split64 (b : Nat) (w : World) (hb : b < 9223372036854775808) :
    Calls Tryd.prog 20 #[.agg #[.int .i64 53, .int .i64 1074, .int .i64 971], .int .u64 b] w fun e w' => e = .returned (.tuple #[.int .u64 (fman b 53 : Nat), .int .i64 (fexp b 53 1074), .bool (decide (b / 4503599627370496 < 2047))]) ∧ Below w.heap.size w w' := by
  have hand := and_52 (x := (b : Int)) (by omega) (by omega)
  have hor := or_h52 (x := (b : Int) % 4503599627370496) (by omega) (by omega)
  have B : Below w.heap.size w (w.alloc (.cells #[.int .i64 53, .int .i64 1074, .int .i64 971] 53)) := (Below.refl _ _).alloc (Nat.le_refl _) _
  obtain ⟨c0, c1, c2⟩ := block3 (BlockAt.new w #[.int .i64 53, .int .i64 1074, .int .i64 971] 53)
  obtain ⟨E, hE⟩ : ∃ E : Int, (b : Int) / 4503599627370496 = E := ⟨_, rfl⟩
  have hw : IntKind.i64.wrap E = E := by simp only [IntKind.wrap, IntKind.signed, IntKind.bits]; simp; omega
  by_cases h0 : E = 0
  · have hE0 : b / 4503599627370496 = 0 := by omega
    have hret := Lib.hid (show ((b : Int) % 4503599627370496 = (fman b 53 : Nat)) ∧ (-1074 = fexp b 53 1074) ∧ decide (b / 4503599627370496 < 2047) = true by rw [fman53, fexp53, if_pos hE0, if_pos hE0, hE0]; refine ⟨by omega, by omega, by decide⟩)
    have hz : (E == 0) = true := by rw [beq_iff_eq]; exact h0
    clear hE0 hor
    subst h0
    go_enter Tryd.func20, Tryd.ntmps20
    go_wp2_with fail
    go_quiet (fail)
    go_wp2_with fail
    go_quiet (fail)
    go_wp2_with fail
    go_ret3
    exact ⟨ret_split hret.out.1 hret.out.2.1 hret.out.2.2.symm, below_drewN (below_drewN B _) _⟩
  · have hE0 : b / 4503599627370496 ≠ 0 := by omega
    have hret := Lib.hid (show (4503599627370496 + (b : Int) % 4503599627370496 = (fman b 53 : Nat)) ∧ (E - 1075 = fexp b 53 1074) ∧ decide (b / 4503599627370496 < 2047) = decide (E - 1075 ≤ 971) by rw [fman53, fexp53, if_neg hE0, if_neg hE0]; refine ⟨by omega, by omega, by rw [decide_eq_decide]; omega⟩)
    have hz : (E == 0) = false := by rw [beq_eq_false_iff_ne]; exact h0
    clear hE0 h0
    go_enter Tryd.func20, Tryd.ntmps20
    go_wp2_with fail
    go_quiet (fail)
    go_wp2_with fail
    go_quiet (fail)
    go_wp2_with fail
    go_ret3
    exact ⟨ret_split hret.out.1 hret.out.2.1 hret.out.2.2.symm, below_drewN (below_drewN B _) _⟩
end Go.Proofs.YtlkadnaoacoicaaDoor
