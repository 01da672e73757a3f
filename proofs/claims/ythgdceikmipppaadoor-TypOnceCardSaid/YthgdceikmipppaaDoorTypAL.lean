/- alive. -/
import Derived.Test.YthgdceikmipppaaDoorTypTX
import Derived.Test.YthgdceikmipppaaDoorTypTL
import Derived.Test.YthgdceikmipppaaDoorTypPS
namespace Go.Proofs.YthgdceikmipppaaDoor
open Go.RowKit
set_option linter.unusedSimpArgs false
set_option linter.unusedVariables false

def t0 : Ty := ⟨2, ⟨#[]⟩, 0, [], [2]⟩
def l0 : List Ty := basics ++ [t0]
theorem ok_t0 : TyOk t0 where
  nl := by decide
  wl := by decide
  kl := by decide
  ws := fun s hs => absurd hs (by simp [t0])
  nums := by decide
  ks := fun k hk => by
    simp [t0] at hk
    subst hk
    decide
theorem right_basics : rightT basics = true := by decide +kernel
theorem right_l0 : rightT l0 = true := by decide +kernel
theorem add_l0 : paddT basics t0 = (l0, 22, 0) := by decide +kernel
theorem need_l0 : ∀ j, j ≤ 22 → needD (fun j => l0.getD j noT) 22 23 j = true → j = 2 ∨ j = 22 := by decide +kernel
theorem out_l0 : outF (fun j => l0.getD j noT) 22 = (⟨#[91, 93, 105, 110, 116]⟩, 0) := by decide +kernel
theorem len_l0 : l0.length = 23 := rfl
theorem text_l0 (j : Nat) (hj : j < l0.length) (h : j ≤ 22) (hn : needD (fun j => l0.getD j noT) 22 23 j = true) : TextC l0[j] := by
  rcases need_l0 j h hn with rfl | rfl
  · exact text_zero ⟨#[105, 110, 116]⟩ 0 [] [] rfl
  · exact text_slice ⟨#[]⟩ 0 [] [2] rfl
set_option maxHeartbeats 4000000 in
set_option maxRecDepth 100000 in
theorem alive_any (w : World) (hE : Env w) :
    Calls Tryd.prog 7 #[] w fun e w' => e = .returned (.bool true) ∧ Below w.heap.size w w' := by
  have HS := Lib.hid (pstart_any w hE.basics)
  have HE := Lib.hid hE
  clear hE
  go_enter Tryd.func7, Tryd.ntmps7
  go_wp2_with fail
  refine HS.out.mono ?_
  rintro e w1 ⟨⟨ao, cap, rfl, ha, hc⟩, b1⟩
  have B1 := Lib.hid b1
  obtain ⟨w2, h2⟩ : ∃ w2, w1.alloc (.cells #[.int .i64 2] 3) = w2 := ⟨_, rfl⟩
  obtain ⟨k2, q2, z2⟩ := box_new h2
  have B2 := Lib.hid (b1.trans (q2.mono b1.size))
  have HT : TyC w2 none (some ⟨w1.heap.size, 0, none⟩) t0 := ⟨.inl rfl, .inr ⟨w1.heap.size, 0, rfl, k2.lt, fun i hi => by
    have hi : i < 1 := hi
    obtain rfl : i = 0 := by omega
    exact k2.cell 0⟩, ok_t0⟩
  have HAD0 := padd_any basics ao cap t0 none (some ⟨w1.heap.size, 0, none⟩) 0 1 w2 (ha.below q2) (by decide) (by rw [basics_len]; exact hc) (HE.out.below B2.out) HT (by decide) (by decide)
  rw [add_l0, basics_len] at HAD0
  have HAD : Calls Tryd.prog 14 #[.slice ao 22 cap, .agg #[.int .i64 2, .string ⟨#[]⟩, .int .i64 0, .slice none 0 0, .slice (some ⟨w1.heap.size, 0, none⟩) 1 1]] w2 (PAddR w2 (l0, 22, 0)) := HAD0
  have HAD := Lib.hid HAD
  clear ha hc b1 k2 q2 z2 HT HAD0
  go_wp2_with fail
  refine HAD.out.mono ?_
  rintro e w3 ⟨ao3, cap3, rfl, ha3, hc3, b3⟩
  have B3 := Lib.hid (B2.out.trans (b3.mono B2.out.size))
  have HTX0 := text_in l0 ao3 cap3 22 w3 ha3 right_l0 hc3 (HE.out.below B3.out) (by decide) (fun j hj h hn => text_l0 j hj h hn)
  have HTX : Calls Tryd.prog 18 #[.slice ao3 23 cap3, .int .i64 22] w3 (TextR (fun j => l0.getD j noT) 22 w3) := HTX0
  have HTX := Lib.hid HTX
  clear ha3 hc3 b3 h2 HTX0
  rw [show (l0, (22 : Int), (0 : Int)).1.length = 23 from rfl]
  go_wp2_with fail
  refine HTX.out.mono ?_
  unfold TextR
  rw [out_l0]
  rintro e w4 ⟨rfl, b4⟩
  have B4 := Lib.hid (B3.out.trans (b4.mono B3.out.size))
  clear b4
  go_wp2_with fail
  go_ret
  exact ⟨by first | rfl | (simp; done), B4.out⟩
end Go.Proofs.YthgdceikmipppaaDoor
