/- alive. -/
import Derived.Test.YtbdhmelebedpiaaGreatDoorSemText
namespace Go.Proofs.YtbdhmelebedpiaaGreatDoor
open Go.RowKit
set_option linter.unusedSimpArgs false
set_option linter.unusedVariables false

/-- What the listed variables must hold. -/
structure Vars (w : World) : Prop where
  max : MaxAt w
  errs : Errs w
  pow : PowAt w
theorem Vars.below {w w' : World} (h : Vars w) (hb : Below w.heap.size w w') : Vars w' := ⟨h.max.below hb, h.errs.below hb, h.pow.below hb⟩
def aliveS : ByteArray := ⟨#[49, 46, 51, 46, 48, 45, 114, 99, 46, 49, 43, 98]⟩
def aliveV : Vr := ⟨1, 3, 0, [⟨#[114, 99]⟩, ⟨#[49]⟩], [⟨#[98]⟩]⟩
theorem alive_parts : numsOf aliveS = [⟨#[49]⟩, ⟨#[51]⟩, ⟨#[48]⟩] ∧ preOf aliveS = [⟨#[114, 99]⟩, ⟨#[49]⟩] ∧ buildOf aliveS = [⟨#[98]⟩] := by decide +kernel
theorem alive_nums : numRes ⟨#[49]⟩ = (1, true) ∧ numRes ⟨#[51]⟩ = (3, true) ∧ numRes ⟨#[48]⟩ = (0, true) := by decide +kernel
theorem alive_e : parseE aliveS = 0 := by
  unfold parseE okSplit
  rw [alive_parts.1, alive_parts.2.1, alive_parts.2.2]
  decide +kernel
theorem alive_v : parseV aliveS = aliveV := by
  unfold parseV
  rw [alive_parts.1, alive_parts.2.1, alive_parts.2.2]
  have h := alive_nums
  show (⟨(numRes ⟨#[49]⟩).1, (numRes ⟨#[51]⟩).1, (numRes ⟨#[48]⟩).1, _, _⟩ : Vr) = _
  rw [h.1, h.2.1, h.2.2]
  rfl
theorem alive_r : rightB aliveV = true := by decide +kernel
theorem alive_t : textS ⟨1, 3, 0, [], []⟩ = ⟨#[49, 46, 51, 46, 48]⟩ := by decide +kernel
theorem rel_verC (w : World) (a b c : Int) (ha : 0 ≤ a ∧ a ≤ 9223372036854775807) (hb : 0 ≤ b ∧ b ≤ 9223372036854775807) (hc : 0 ≤ c ∧ c ≤ 9223372036854775807) : VerC w none none ⟨a, b, c, [], []⟩ :=
  ⟨.inl rfl, .inl rfl, by simp, by simp, by simp, by simp, ⟨by simp; omega, by simp; omega, by simp; omega⟩⟩
set_option maxHeartbeats 16000000 in
set_option maxRecDepth 100000 in
theorem alive_any (w : World) (hV : Vars w) :
    Calls Tryz.prog 11 #[] w fun e w' => e = .returned (.bool true) ∧ Below w.heap.size w w' := by
  have HP := parseV_any aliveS w (by decide) hV.max hV.errs
  rw [alive_e, alive_v] at HP
  have HPP := Lib.hid HP
  have HV := Lib.hid hV
  unfold aliveS at HPP
  clear HP hV
  go_enter Tryz.func11, Tryz.ntmps11
  go_wp2_with fail
  refine HPP.out.mono ?_
  rintro e w1 ⟨b1, ⟨-, po, pc, bo, bc, rfl, hc, -, -⟩ | ⟨h, -⟩⟩
  · have B1 := Lib.hid b1
    have HC := Lib.hid hc
    clear b1 hc HPP
    have hv : verV aliveV po pc bo bc = .agg #[.int .i64 1, .int .i64 3, .int .i64 0, .slice po 2 pc, .slice bo 1 bc] := rfl
    rw [hv]
    clear hv
    obtain ⟨w2, hw2⟩ : ∃ w2, w1.alloc (.cells #[.int .i64 1, .int .i64 3, .int .i64 0, .slice po 2 pc, .slice bo 1 bc] 24) = w2 := ⟨_, rfl⟩
    obtain ⟨k2, q2, z2⟩ := box_new hw2
    obtain ⟨c0, c1, c2, c3, c4⟩ := cell5 k2
    have B2 := Lib.hid (B1.out.trans (q2.mono B1.out.size))
    have HN := Lib.hid (next_1a aliveV po bo pc bc w2 (HC.out.below q2) (HV.out.errs.below B2.out) alive_r rfl rfl)
    have hn : nextRes (nextV aliveV 1) = .tuple #[.agg #[.int .i64 1, .int .i64 3, .int .i64 0, .slice none 0 0, .slice none 0 0], .int .i64 0] := rfl
    have hv : verV aliveV po pc bo bc = .agg #[.int .i64 1, .int .i64 3, .int .i64 0, .slice po 2 pc, .slice bo 1 bc] := rfl
    have HN2 := HN.out
    rw [hn, hv] at HN2
    have HN3 := Lib.hid HN2
    clear HN HN2 hn hv k2 q2 z2 HC B1
    go_wp2_with fail
    refine HN3.out.mono ?_
    rintro e w3 ⟨rfl, b3⟩
    have B3 := Lib.hid (B2.out.trans (b3.mono B2.out.size))
    clear b3 hw2 c0 c1 c2 c3 c4 HN3 B2
    have B4 := Lib.hid (show Below w.heap.size w (w3.alloc (.cells #[.int .i64 1, .int .i64 3, .int .i64 0, .slice none 0 0, .slice none 0 0] 24)) from B3.out.alloc B3.out.size _)
    have HT := text_any ⟨1, 3, 0, [], []⟩ none none 0 0 (w3.alloc (.cells #[.int .i64 1, .int .i64 3, .int .i64 0, .slice none 0 0, .slice none 0 0] 24)) (rel_verC _ _ _ _ (by decide) (by decide) (by decide)) (HV.out.errs.below B4.out) (HV.out.pow.below B4.out) rfl (Nat.le_refl _) (Nat.le_refl _)
    rw [alive_t] at HT
    have hv : verV ⟨1, 3, 0, [], []⟩ none 0 none 0 = .agg #[.int .i64 1, .int .i64 3, .int .i64 0, .slice none 0 0, .slice none 0 0] := rfl
    rw [hv] at HT
    have HT2 := Lib.hid HT
    clear HT hv B3
    go_wp2_with fail
    refine HT2.out.mono ?_
    rintro e w5 ⟨rfl, b5⟩
    have B5 := Lib.hid (B4.out.trans (b5.mono B4.out.size))
    clear b5
    go_wp2_with fail
    go_ret
    exact ⟨ret_bool (by first | rfl | decide), B5.out⟩
  · exact absurd rfl h
end Go.Proofs.YtbdhmelebedpiaaGreatDoor
