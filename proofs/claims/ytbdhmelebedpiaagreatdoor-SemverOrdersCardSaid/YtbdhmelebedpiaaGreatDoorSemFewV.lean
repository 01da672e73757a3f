/- few of a version. -/
import Derived.Test.YtbdhmelebedpiaaGreatDoorSemFew
import Derived.Test.YtbdhmelebedpiaaGreatDoorRegG
import Derived.Test.YtbdhmelebedpiaaGreatDoorBlock
namespace Go.Proofs.YtbdhmelebedpiaaGreatDoor
open Go.RowKit
set_option linter.unusedSimpArgs false

/-- A version that came in. -/
structure VerIn (w : World) (po bo : Option Addr) (pc bc : Nat) (V : Vr) : Prop where
  pre : SRow w po V.pre
  build : SRow w bo V.build
  pc1 : V.pre.length ≤ pc
  pc2 : pc ≤ 9223372036854775807
  bc1 : V.build.length ≤ bc
  bc2 : bc ≤ 9223372036854775807
  ps : ∀ s ∈ V.pre, s.size ≤ 9223372036854775807
  bs : ∀ s ∈ V.build, s.size ≤ 9223372036854775807
  nums : (-9223372036854775808 ≤ V.ma ∧ V.ma ≤ 9223372036854775807) ∧ (-9223372036854775808 ≤ V.mi ∧ V.mi ≤ 9223372036854775807) ∧ -9223372036854775808 ≤ V.pa ∧ V.pa ≤ 9223372036854775807
theorem VerIn.below {w w' : World} {po bo : Option Addr} {pc bc : Nat} {V : Vr} (h : VerIn w po bo pc bc V) (hb : Below w.heap.size w w') : VerIn w' po bo pc bc V :=
  { h with pre := h.pre.below hb, build := h.build.below hb }
/-- What few gives: some version in memory, short, of the same numbers. -/
def FewV (w : World) (V : Vr) (e : Ending) (w' : World) : Prop := ∃ po pc bo bc U, e = .returned (verV U po pc bo bc) ∧ VerC w' po bo U ∧ (U.ma = V.ma ∧ U.mi = V.mi ∧ U.pa = V.pa) ∧ Below w.heap.size w w' ∧ U.pre.length ≤ pc ∧ U.build.length ≤ bc
set_option maxHeartbeats 8000000 in
set_option maxRecDepth 100000 in
theorem few_any (V : Vr) (po bo : Option Addr) (pc bc : Nat) (w : World) (hv : VerIn w po bo pc bc V) :
    Calls Tryz.prog 4 #[verV V po pc bo bc] w (FewV w V) := by
  unfold verV
  have HV := Lib.hid hv
  clear hv
  obtain ⟨wa, ha⟩ : ∃ wa, w.alloc (.cells #[.int .i64 V.ma, .int .i64 V.mi, .int .i64 V.pa, .slice po V.pre.length pc, .slice bo V.build.length bc] 24) = wa := ⟨_, rfl⟩
  obtain ⟨wb, hb⟩ : ∃ wb, wa.alloc (.cells #[.int .i64 0, .int .i64 0, .int .i64 0, .slice none 0 0, .slice none 0 0] 24) = wb := ⟨_, rfl⟩
  obtain ⟨q1, hz1, -, -, -, -, -⟩ := box5 ha
  obtain ⟨q2, hz2, -, -, -, -, -⟩ := box5 hb
  have k1 : BlockAt wb w.heap.size #[.int .i64 V.ma, .int .i64 V.mi, .int .i64 V.pa, .slice po V.pre.length pc, .slice bo V.build.length bc] 24 := BlockAt.below (by rw [← ha]; exact BlockAt.new _ _ _) q2
  have k2 : BlockAt wb wa.heap.size #[.int .i64 0, .int .i64 0, .int .i64 0, .slice none 0 0, .slice none 0 0] 24 := by rw [← hb]; exact BlockAt.new _ _ _
  have K1 := Lib.hid k1
  have K2 := Lib.hid k2
  have BW := Lib.hid (q1.trans (q2.mono q1.size))
  have HZ := Lib.hid (And.intro hz1 hz2)
  clear k1 k2 q1 q2 hz1 hz2
  go_enter Tryz.func4, Tryz.ntmps4
  go_wp2_with fail
  clear ha hb
  have c3 := K1.out.cell 3
  have c4 := K1.out.cell 4
  have F1 := Lib.hid (few1_any po pc V.pre wb.drew ((HV.out.pre.below BW.out).below (Below.refl _ _).drew) HV.out.pc1 HV.out.pc2 HV.out.ps)
  refine GoG.start [(9, ⟨w.heap.size, 3, none⟩, .slice po V.pre.length pc), (11, ⟨w.heap.size, 4, none⟩, .slice bo V.build.length bc)] (by kernel_rfl) ?_ ?_
  · exact Keeps.cons (by first | assumption | simp [*]) (Keeps.cons (by first | assumption | simp [*]) (Keeps.nil))
  refine GoG.take (i := 0) (v := ?_) [] rfl (by kernel_rfl) (by kernel_rfl) (by kernel_rfl) (by kernel_rfl) (by kernel_rfl) (by kernel_rfl) (fun _ _ _ h => h) (yields_free (by rfl) (fun w => ?_)) ?_
  rotate_left
  · go_simp; try (with_reducible rfl)
  try simp only [Act.put, List.setIfInBounds_toArray, List.set_cons_zero, List.set_cons_succ]
  refine GoG.take (i := 1) (v := ?_) [] rfl (by kernel_rfl) (by kernel_rfl) (by kernel_rfl) (by kernel_rfl) (by kernel_rfl) (by kernel_rfl) (fun _ _ _ h => h) (yields_free (by rfl) (fun w => ?_)) ?_
  rotate_left
  · go_simp; try (with_reducible rfl)
  try simp only [Act.put, List.setIfInBounds_toArray, List.set_cons_zero, List.set_cons_succ]
  refine GoG.take (i := 2) (v := ?_) [3, 7, 9, 8, 10, 11] rfl (by kernel_rfl) (by kernel_rfl) (by kernel_rfl) (by kernel_rfl) (by kernel_rfl) (by kernel_rfl) (fun _ _ _ h => h) (yields_load 9 ⟨w.heap.size, 3, none⟩ (.slice po V.pre.length pc) (by simp) (by decide) (by rfl) (fun w hw => ?_)) ?_
  rotate_left
  · go_simp; try (with_reducible rfl)
  try simp only [Act.put, List.setIfInBounds_toArray, List.set_cons_zero, List.set_cons_succ]
  refine GoG.take (i := 4) (v := ?_) [] rfl (by kernel_rfl) (by kernel_rfl) (by kernel_rfl) (by kernel_rfl) (by kernel_rfl) (by kernel_rfl) (fun _ _ _ h => h) (yields_free (by rfl) (fun w => ?_)) ?_
  rotate_left
  · go_simp; try (with_reducible rfl)
  try simp only [Act.put, List.setIfInBounds_toArray, List.set_cons_zero, List.set_cons_succ]
  refine GoG.take (i := 5) (v := ?_) [] rfl (by kernel_rfl) (by kernel_rfl) (by kernel_rfl) (by kernel_rfl) (by kernel_rfl) (by kernel_rfl) (fun _ _ _ h => h) (yields_free (by rfl) (fun w => ?_)) ?_
  rotate_left
  · go_simp; try (with_reducible rfl)
  try simp only [Act.put, List.setIfInBounds_toArray, List.set_cons_zero, List.set_cons_succ]
  refine GoG.take (i := 6) (v := ?_) [7, 8, 9, 10, 11] rfl (by kernel_rfl) (by kernel_rfl) (by kernel_rfl) (by kernel_rfl) (by kernel_rfl) (by kernel_rfl) (fun _ _ _ h => h) (yields_load 11 ⟨w.heap.size, 4, none⟩ (.slice bo V.build.length bc) (by simp) (by decide) (by rfl) (fun w hw => ?_)) ?_
  rotate_left
  · go_simp; try (with_reducible rfl)
  try simp only [Act.put, List.setIfInBounds_toArray, List.set_cons_zero, List.set_cons_succ]
  clear c3 c4
  refine GoG.one (i := 3) rfl (by kernel_rfl) (fun K hK => ?_)
  go_simp
  refine F1.out.mono ?_
  rintro e w1 ⟨ao1, cap1, ss1, rfl, r1, l1, z1, b1, p1⟩
  have b1' : Below wb.heap.size wb w1 := Below.trans ((Below.refl _ _).drew) (b1.mono (Nat.le_refl _))
  have K3 := Lib.hid (K1.out.below b1')
  have K4 := Lib.hid (K2.out.below b1')
  have BW1 := Lib.hid (BW.out.trans (b1'.mono BW.out.size))
  have BS1 := Lib.hid b1'.size
  have R1 := Lib.hid r1
  have L1 := Lib.hid l1
  have P1 := Lib.hid p1
  clear p1
  have Z1 := Lib.hid z1
  have F2 := Lib.hid (few1_any bo bc V.build w1 ((HV.out.build.below BW1.out)) HV.out.bc1 HV.out.bc2 HV.out.bs)
  have c3 := K3.out.cell 3
  have c4 := K3.out.cell 4
  refine hK.out _ _ (Keeps.cons (by first | assumption | simp [*]) (Keeps.cons (by first | assumption | simp [*]) Keeps.nil)) ?_
  clear hK K c3 c4 r1 l1 z1 b1 b1' F1
  refine GoG.take (i := 8) (v := ?_) [] rfl (by kernel_rfl) (by kernel_rfl) (by kernel_rfl) (by kernel_rfl) (by kernel_rfl) (by kernel_rfl) (fun _ _ _ h => h) (yields_free (by rfl) (fun w => ?_)) ?_
  rotate_left
  · go_simp; try (with_reducible rfl)
  try simp only [Act.put, List.setIfInBounds_toArray, List.set_cons_zero, List.set_cons_succ]
  refine GoG.one (i := 7) rfl (by kernel_rfl) (fun K hK => ?_)
  go_simp
  refine F2.out.mono ?_
  rintro e w2 ⟨ao2, cap2, ss2, rfl, r2, l2, z2, b2, p2⟩
  have K5 := Lib.hid (K3.out.below b2)
  have K6 := Lib.hid (K4.out.below b2)
  have BW2 := Lib.hid (BW1.out.trans (b2.mono BW1.out.size))
  have R2 := Lib.hid r2
  have R1' := Lib.hid (R1.out.below b2)
  have L2 := Lib.hid l2
  have P2 := Lib.hid p2
  clear p2
  have Z2 := Lib.hid z2
  have c3 := K5.out.cell 3
  have c4 := K5.out.cell 4
  refine hK.out _ _ (Keeps.cons (by first | assumption | simp [*]) (Keeps.cons (by first | assumption | simp [*]) Keeps.nil)) ?_
  clear hK K r2 l2 z2 b2 F2 R1
  have fr := fun k => K5.out.free k
  refine GoG.one (i := 9) rfl (by kernel_rfl) (fun K hK => ?_)
  go_simp
  refine hK.out _ _ (Keeps.up (by rfl) (Keeps.cons ?_ Keeps.nil)) ?_
  · exact ((K5.out.set 3 _).cell 4)
  clear hK K c3 c4 fr
  have K7 := Lib.hid (K5.out.set 3 (.slice ao1 ss1.length cap1))
  have K8 := Lib.hid (K6.out.other (c := w.heap.size) (by have := HZ.out; omega) 3 (.slice ao1 ss1.length cap1))
  refine GoG.take (i := 10) (v := ?_) [] rfl (by kernel_rfl) (by kernel_rfl) (by kernel_rfl) (by kernel_rfl) (by kernel_rfl) (by kernel_rfl) (fun _ _ _ h => h) (yields_free (by rfl) (fun w => ?_)) ?_
  rotate_left
  · go_simp; try (with_reducible rfl)
  try simp only [Act.put, List.setIfInBounds_toArray, List.set_cons_zero, List.set_cons_succ]
  have fr := K7.out.free 4
  have c4 := K7.out.cell 4
  refine GoG.one (i := 11) rfl (by kernel_rfl) (fun K hK => ?_)
  go_simp
  refine hK.out _ _ (Keeps.up (by rfl) (Keeps.up (by rfl) Keeps.nil)) ?_
  clear hK K c4 fr
  refine GoG.done (by kernel_rfl) ?_ _
  have K9 := K7.out.set 4 (.slice ao2 ss2.length cap2)
  have K10 := K8.out.other (c := w.heap.size) (by have := HZ.out; omega) 4 (.slice ao2 ss2.length cap2)
  have hz := HZ.out
  have hs1 := BS1.out
  have R3 := Lib.hid ((R1'.out.set (c := w.heap.size) (k := 3) (by simp; omega) (.slice ao1 ss1.length cap1)).set (c := w.heap.size) (k := 4) (by simp; omega) (.slice ao2 ss2.length cap2))
  have R4 := Lib.hid ((R2.out.set (c := w.heap.size) (k := 3) (by omega) (.slice ao1 ss1.length cap1)).set (c := w.heap.size) (k := 4) (by omega) (.slice ao2 ss2.length cap2))
  have BW3 := Lib.hid (show Below w.heap.size w ((w2.setCell ⟨w.heap.size, 3, none⟩ (.slice ao1 ss1.length cap1)).setCell ⟨w.heap.size, 4, none⟩ (.slice ao2 ss2.length cap2)) from (BW2.out.setCell (by simp) _).setCell (by simp) _)
  have HB1 := Lib.hid hs1
  have HNu := Lib.hid HV.out.nums
  clear hz hs1 R1' R2 BW2 BW1 BS1 K7 K8 K5 K6 K1 K2 K3 K4
  generalize (w2.setCell ⟨w.heap.size, 3, none⟩ (.slice ao1 ss1.length cap1)).setCell ⟨w.heap.size, 4, none⟩ (.slice ao2 ss2.length cap2) = w3 at *
  simp only [List.setIfInBounds_toArray, List.set_cons_zero, List.set_cons_succ] at K9 K10
  have g0 := K9.cell 0
  have g1 := K9.cell 1
  have g2 := K9.cell 2
  have g3 := K9.cell 3
  have g4 := K9.cell 4
  simp at g0 g1 g2 g3 g4
  have G := Lib.hid K9
  have f0 := K10.free 0
  have f1 := K10.free 1
  have f2 := K10.free 2
  have f3 := K10.free 3
  have f4 := K10.free 4
  have e0 := K10.cell 0
  have e1 := K10.cell 1
  have e2 := K10.cell 2
  have e3 := K10.cell 3
  have e4 := K10.cell 4
  simp at e0 e1 e2 e3 e4
  have HK := Lib.hid K10
  clear K9 K10
  go_wp2_with fail
  refine bodyPost_ret (v := .agg #[.int .i64 V.ma, .int .i64 V.mi, .int .i64 V.pa, .slice ao1 ss1.length cap1, .slice ao2 ss2.length cap2]) (by simp [results, Tryz.results4, go_sem, e0, e1, e2, e3, e4]) rfl ?_
  have hz := HZ.out
  have hs1 := HB1.out
  have h1 : wa.heap.size < wb.drew.heap.size := by simp; omega
  have h2 : wa.heap.size < w1.heap.size := by omega
  have B5 := ((((BW3.out.setCell (p := ⟨wa.heap.size, 0, none⟩) (by simp; omega) (.int .i64 V.ma)).setCell (p := ⟨wa.heap.size, 1, none⟩) (by simp; omega) (.int .i64 V.mi)).setCell (p := ⟨wa.heap.size, 2, none⟩) (by simp; omega) (.int .i64 V.pa)).setCell (p := ⟨wa.heap.size, 3, none⟩) (by simp; omega) (.slice ao1 ss1.length cap1)).setCell (p := ⟨wa.heap.size, 4, none⟩) (by simp; omega) (.slice ao2 ss2.length cap2)
  refine ⟨ao1, cap1, ao2, cap2, ⟨V.ma, V.mi, V.pa, ss1, ss2⟩, rfl, ⟨(((((R3.out.set h1 _).set h1 _).set h1 _).set h1 _).set h1 _).row, (((((R4.out.set h2 _).set h2 _).set h2 _).set h2 _).set h2 _).row, fun s hs => ?_, fun s hs => ?_, ?_, ?_, HNu.out⟩, ⟨rfl, rfl, rfl⟩, B5, P1.out, P2.out⟩
  · have := Z1.out s hs; omega
  · have := Z2.out s hs; omega
  · have := L1.out; simp; omega
  · have := L2.out; simp; omega
end Go.Proofs.YtbdhmelebedpiaaGreatDoor
