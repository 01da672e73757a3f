/- The reference's Same, of nodes that are the same. -/
import Derived.Test.YtfcoelnibpinmaaDoorAstRefLike
import Derived.Test.YtfcoelnibpinmaaDoorAstRightW
namespace Go.Proofs.YtfcoelnibpinmaaDoor
open Go.RowKit

set_option maxHeartbeats 8000000 in
set_option maxRecDepth 100000 in
theorem refsame_any (ao bo : Option Addr) (ca cb : Nat) (ms : List Nd) (w : World) (h1 : NRow w ao ms) (h2 : NRow w bo ms) (k1 : ∀ n ∈ ms, n.kids.length ≤ 2000) (l1 : ms.length ≤ 100000) (l0 : 0 < ms.length) :
    Calls Tryd.prog 16 #[.slice ao ms.length ca, .slice bo ms.length cb] w fun e w' => e = .returned (.bool true) ∧ Below w.heap.size w w' := by
  obtain ⟨b, off, rfl, hb, hc⟩ := h1.nodes l0
  obtain ⟨d, df, rfl, hd, hdc⟩ := h2.nodes l0
  have HL := Lib.hid (fun (wx : World) (hx : Below w.heap.size w wx) => reflike_any (some ⟨b, off, none⟩) (some ⟨d, df, none⟩) ca cb ms ms wx (h1.below hx) (h2.below hx) k1 k1 l1)
  have Hc := Lib.hid hc
  have Hd := Lib.hid hdc
  obtain ⟨L, hL⟩ : ∃ L, ms.length = L := ⟨_, rfl⟩
  have HLn := Lib.hid hL
  rw [hL] at l1 HL ⊢
  clear h1 h2 k1 hc hdc hL l0
  go_enter Tryd.func16, Tryd.ntmps16
  go_wp2_with fail
  go_loopw [8] (fun p wr => ∃ q : Nat, q ≤ L ∧ p = .int .i64 q ∧ Hid (Below w.heap.size w wr)) (fun p _ => L - (intOf p).toNat)
  case atStart => exact ⟨0, Nat.zero_le _, rfl, Lib.hid (Below.refl _ _)⟩
  case round =>
    obtain ⟨q, hq, rfl, HB⟩ := hrel
    by_cases hqL : q < L
    · have c1 := (Hc.out q (by rw [HLn.out]; exact hqL)).2.2.2
      have c2 := (Hd.out q (by rw [HLn.out]; exact hqL)).2.2.2
      generalize (ms[q]'(by rw [HLn.out]; exact hqL)).place = pl at c1 c2
      have e1 : wr.cell? ⟨b, off + q * 4 + 3, none⟩ = some (.int .i64 pl) := by rw [HB.out.cell (p := ⟨b, off + q * 4 + 3, none⟩) hb]; exact c1
      have e2 : wr.cell? ⟨d, df + q * 4 + 3, none⟩ = some (.int .i64 pl) := by rw [HB.out.cell (p := ⟨d, df + q * 4 + 3, none⟩) hd]; exact c2
      have g1 : decide (q < L) = true := by simpa using hqL
      have g2 : (0 : Int) ≤ (q : Int) := by omega
      have g3 : (q : Int) < (L : Int) := by omega
      clear c1 c2
      go_wp2_with fail
      go_quiet (fail)
      have B2 := fun n => Lib.hid (show Below w.heap.size w (wr.drewN n) from ⟨HB.out.os, HB.out.tape, HB.out.output, HB.out.size, HB.out.block⟩)
      go_wp2_with fail
      go_roundw
      case rel => exact ⟨q + 1, by omega, by go_num, B2 _⟩
      case measure => simp [intOf]; omega
    · obtain rfl : q = L := by omega
      have HL2 := Lib.hid (HL.out wr HB.out)
      go_wp2_with fail
      refine HL2.out.mono ?_
      rintro e w2 ⟨rfl, b2⟩
      rw [likeB_refl]
      go_wp2_with fail
      go_ret
      exact ⟨rfl, HB.out.trans (b2.mono HB.out.size)⟩
end Go.Proofs.YtfcoelnibpinmaaDoor
