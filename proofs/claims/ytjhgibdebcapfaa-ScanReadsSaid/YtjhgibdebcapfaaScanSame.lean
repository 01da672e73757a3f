/- The document's answer: Same, of two rows that hold the same tokens. -/
import Derived.Test.YtjhgibdebcapfaaScanRow
import Derived.BigQuiet
namespace Go.Proofs.Ytjhgibdebcapfaa
open Go.RowKit
set_option linter.unusedSimpArgs false
set_option linter.unusedVariables false

set_option maxHeartbeats 8000000 in
set_option maxRecDepth 100000 in
theorem refsame_eq (ao bo : Option Addr) (ac bc : Nat) (l : List Tk) (w : World) (ra : TRow w ao l) (rb : TRow w bo l) (hl : l.length ≤ 100000) :
    Calls Try.prog 7 #[.slice ao l.length ac, .slice bo l.length bc] w fun e w' => e = .returned (.bool true) ∧ Below w.heap.size w w' := by
  have RA := Lib.hid ra
  have RB := Lib.hid rb
  have hne : ((l.length : Int) != (l.length : Int)) = false := by rw [bne_self_eq_false]
  clear ra rb
  go_enter Try.func7, Try.ntmps7
  go_wp2_with fail
  clear hne
  go_loopw [13] (fun v wr => ∃ k : Nat, k ≤ l.length ∧ v = .int .i64 k ∧ Hid (Below w.heap.size w wr)) (fun v _ => l.length - (intOf v).toNat)
  case atStart => exact ⟨0, Nat.zero_le _, rfl, Lib.hid (Below.refl _ _)⟩
  case round =>
    obtain ⟨k, hk, rfl, BR⟩ := hrel
    by_cases hlt : k < l.length
    · obtain ⟨b, off, rfl, hb, hc⟩ := (RA.out.below BR.out).cells (by omega)
      obtain ⟨b2, off2, rfl, hb2, hc2⟩ := (RB.out.below BR.out).cells (by omega)
      obtain ⟨x0, x1, x2⟩ := hc k hlt
      obtain ⟨y0, y1, y2⟩ := hc2 k hlt
      obtain ⟨t, ht⟩ : ∃ t, l[k] = t := ⟨_, rfl⟩
      rw [ht] at x0 x1 x2 y0 y1 y2
      obtain ⟨kd, tx, ps⟩ := t
      simp only at x0 x1 x2 y0 y1 y2
      clear hc hc2 ht
      have e1 : (kd == kd) = true := beq_self_eq_true kd
      have e2 : (tx.toList == tx.toList) = true := beq_self_eq_true _
      have BD := fun n => Lib.hid (show Below wr.heap.size wr (wr.drewN n) from ⟨rfl, rfl, rfl, Nat.le_refl _, fun _ _ => rfl⟩)
      go_wp2_with fail
      go_quiet (fail)
      have B2 := Lib.hid (BR.out.trans ((BD nq).out.mono BR.out.size))
      go_wp2_with fail
      go_roundw
      case rel => exact ⟨k + 1, by omega, by go_num, B2⟩
      case measure => simp [intOf]; omega
    · obtain rfl : k = l.length := by omega
      go_wp2_with fail
      go_ret
      exact ⟨rfl, BR.out⟩
end Go.Proofs.Ytjhgibdebcapfaa
