/- The law SemverChain: its walk. -/
import Derived.Test.YtbdhmelebedpiaaDoorSemLaws
namespace Go.Proofs.YtbdhmelebedpiaaDoor
open Go.RowKit
set_option linter.unusedSimpArgs false
set_option linter.unusedVariables false

set_option maxHeartbeats 64000000 in
set_option maxRecDepth 100000 in
theorem chain_walk (V0 : Vr) (po0 bo0 : Option Addr) (pc0 bc0 : Nat) (V1 : Vr) (po1 bo1 : Option Addr) (pc1 bc1 : Nat) (V2 : Vr) (po2 bo2 : Option Addr) (pc2 bc2 : Nat) (w : World) (h0 : VerIn w po0 bo0 pc0 bc0 V0) (h1 : VerIn w po1 bo1 pc1 bc1 V1) (h2 : VerIn w po2 bo2 pc2 bc2 V2) (hV : Vars w) :
    Calls Tryd.prog 7 #[verV V0 po0 pc0 bo0 bc0, verV V1 po1 pc1 bo1 bc1, verV V2 po2 pc2 bo2 bc2] w fun e w' => e = .returned (.bool true) ∧ Below w.heap.size w w' := by
  have HG := Lib.hid hV
  clear hV
  unfold verV
  have H0 := Lib.hid h0
  have H1 := Lib.hid h1
  have H2 := Lib.hid h2
  obtain ⟨wa, hw0⟩ : ∃ x, w.alloc (.cells #[.int .i64 V0.ma, .int .i64 V0.mi, .int .i64 V0.pa, .slice po0 V0.pre.length pc0, .slice bo0 V0.build.length bc0] 24) = x := ⟨_, rfl⟩
  obtain ⟨k0, q0, z0⟩ := box_new hw0
  obtain ⟨wb, hw1⟩ : ∃ x, wa.alloc (.cells #[.int .i64 V1.ma, .int .i64 V1.mi, .int .i64 V1.pa, .slice po1 V1.pre.length pc1, .slice bo1 V1.build.length bc1] 24) = x := ⟨_, rfl⟩
  obtain ⟨k1, q1, z1⟩ := box_new hw1
  obtain ⟨wc, hw2⟩ : ∃ x, wb.alloc (.cells #[.int .i64 V2.ma, .int .i64 V2.mi, .int .i64 V2.pa, .slice po2 V2.pre.length pc2, .slice bo2 V2.build.length bc2] 24) = x := ⟨_, rfl⟩
  obtain ⟨k2, q2, z2⟩ := box_new hw2
  have K0 := Lib.hid ((k0.below q1).below q2)
  have K1 := Lib.hid (k1.below q2)
  have K2 := Lib.hid k2
  have BW := Lib.hid ((q0.trans (q1.mono q0.size)).trans (q2.mono (q0.trans (q1.mono q0.size)).size))
  have HZ := Lib.hid (show wa.heap.size = w.heap.size + 1 ∧ wb.heap.size = wa.heap.size + 1 ∧ wc.heap.size = wb.heap.size + 1 ∧ True from ⟨z0, z1, z2, trivial⟩)
  clear h0 k0 q0 z0 h1 k1 q1 z1 h2 k2 q2 z2
  go_enter Tryd.func7, Tryd.ntmps7
  go_wp2_with fail
  clear hw0 hw1 hw2
  obtain ⟨e0_0, e0_1, e0_2, e0_3, e0_4⟩ := cell5 K0.out
  obtain ⟨e1_0, e1_1, e1_2, e1_3, e1_4⟩ := cell5 K1.out
  obtain ⟨e2_0, e2_1, e2_2, e2_3, e2_4⟩ := cell5 K2.out
  refine GoG.start [(6, ⟨w.heap.size, 0, none⟩, .int .i64 V0.ma), (6, ⟨w.heap.size, 1, none⟩, .int .i64 V0.mi), (6, ⟨w.heap.size, 2, none⟩, .int .i64 V0.pa), (6, ⟨w.heap.size, 3, none⟩, .slice po0 V0.pre.length pc0), (6, ⟨w.heap.size, 4, none⟩, .slice bo0 V0.build.length bc0), (7, ⟨wa.heap.size, 0, none⟩, .int .i64 V1.ma), (7, ⟨wa.heap.size, 1, none⟩, .int .i64 V1.mi), (7, ⟨wa.heap.size, 2, none⟩, .int .i64 V1.pa), (7, ⟨wa.heap.size, 3, none⟩, .slice po1 V1.pre.length pc1), (7, ⟨wa.heap.size, 4, none⟩, .slice bo1 V1.build.length bc1), (8, ⟨wb.heap.size, 0, none⟩, .int .i64 V2.ma), (8, ⟨wb.heap.size, 1, none⟩, .int .i64 V2.mi), (8, ⟨wb.heap.size, 2, none⟩, .int .i64 V2.pa), (8, ⟨wb.heap.size, 3, none⟩, .slice po2 V2.pre.length pc2), (8, ⟨wb.heap.size, 4, none⟩, .slice bo2 V2.build.length bc2)] (by kernel_rfl) ?_ ?_
  · exact (Keeps.cons (by first | assumption | simp [*]) (Keeps.cons (by first | assumption | simp [*]) (Keeps.cons (by first | assumption | simp [*]) (Keeps.cons (by first | assumption | simp [*]) (Keeps.cons (by first | assumption | simp [*]) (Keeps.cons (by first | assumption | simp [*]) (Keeps.cons (by first | assumption | simp [*]) (Keeps.cons (by first | assumption | simp [*]) (Keeps.cons (by first | assumption | simp [*]) (Keeps.cons (by first | assumption | simp [*]) (Keeps.cons (by first | assumption | simp [*]) (Keeps.cons (by first | assumption | simp [*]) (Keeps.cons (by first | assumption | simp [*]) (Keeps.cons (by first | assumption | simp [*]) (Keeps.cons (by first | assumption | simp [*]) (Keeps.nil))))))))))))))))
  refine GoG.take (i := 0) (v := ?_) [1, 3, 5, 6, 7, 8] rfl (by kernel_rfl) (by kernel_rfl) (by kernel_rfl) (by kernel_rfl) (by kernel_rfl) (by kernel_rfl) (fun _ _ _ h => h) (.inl ⟨by rfl, fun wz hS => ?_⟩) ?_
  rotate_left
  · have y0 := hS (6, ⟨w.heap.size, 0, none⟩, .int .i64 V0.ma) (by simp) (by simp)
    have y1 := hS (6, ⟨w.heap.size, 1, none⟩, .int .i64 V0.mi) (by simp) (by simp)
    have y2 := hS (6, ⟨w.heap.size, 2, none⟩, .int .i64 V0.pa) (by simp) (by simp)
    have y3 := hS (6, ⟨w.heap.size, 3, none⟩, .slice po0 V0.pre.length pc0) (by simp) (by simp)
    have y4 := hS (6, ⟨w.heap.size, 4, none⟩, .slice bo0 V0.build.length bc0) (by simp) (by simp)
    clear hS
    simp only at y0 y1 y2 y3 y4
    go_simp; try (with_reducible rfl)
  try simp only [Act.put, List.setIfInBounds_toArray, List.set_cons_zero, List.set_cons_succ]
  refine GoG.take (i := 2) (v := ?_) [3, 5, 6, 7, 8] rfl (by kernel_rfl) (by kernel_rfl) (by kernel_rfl) (by kernel_rfl) (by kernel_rfl) (by kernel_rfl) (fun _ _ _ h => h) (.inl ⟨by rfl, fun wz hS => ?_⟩) ?_
  rotate_left
  · have y0 := hS (7, ⟨wa.heap.size, 0, none⟩, .int .i64 V1.ma) (by simp) (by simp)
    have y1 := hS (7, ⟨wa.heap.size, 1, none⟩, .int .i64 V1.mi) (by simp) (by simp)
    have y2 := hS (7, ⟨wa.heap.size, 2, none⟩, .int .i64 V1.pa) (by simp) (by simp)
    have y3 := hS (7, ⟨wa.heap.size, 3, none⟩, .slice po1 V1.pre.length pc1) (by simp) (by simp)
    have y4 := hS (7, ⟨wa.heap.size, 4, none⟩, .slice bo1 V1.build.length bc1) (by simp) (by simp)
    clear hS
    simp only at y0 y1 y2 y3 y4
    go_simp; try (with_reducible rfl)
  try simp only [Act.put, List.setIfInBounds_toArray, List.set_cons_zero, List.set_cons_succ]
  refine GoG.take (i := 4) (v := ?_) [5, 6, 7, 8] rfl (by kernel_rfl) (by kernel_rfl) (by kernel_rfl) (by kernel_rfl) (by kernel_rfl) (by kernel_rfl) (fun _ _ _ h => h) (.inl ⟨by rfl, fun wz hS => ?_⟩) ?_
  rotate_left
  · have y0 := hS (8, ⟨wb.heap.size, 0, none⟩, .int .i64 V2.ma) (by simp) (by simp)
    have y1 := hS (8, ⟨wb.heap.size, 1, none⟩, .int .i64 V2.mi) (by simp) (by simp)
    have y2 := hS (8, ⟨wb.heap.size, 2, none⟩, .int .i64 V2.pa) (by simp) (by simp)
    have y3 := hS (8, ⟨wb.heap.size, 3, none⟩, .slice po2 V2.pre.length pc2) (by simp) (by simp)
    have y4 := hS (8, ⟨wb.heap.size, 4, none⟩, .slice bo2 V2.build.length bc2) (by simp) (by simp)
    clear hS
    simp only at y0 y1 y2 y3 y4
    go_simp; try (with_reducible rfl)
  try simp only [Act.put, List.setIfInBounds_toArray, List.set_cons_zero, List.set_cons_succ]
  have BD := Lib.hid (show Below w.heap.size w wc.drew from BW.out.drew)
  have KD0 := Lib.hid (show BlockAt wc.drew w.heap.size _ _ from K0.out.below ((Below.refl _ _).drew))
  have KD1 := Lib.hid (show BlockAt wc.drew wa.heap.size _ _ from K1.out.below ((Below.refl _ _).drew))
  have KD2 := Lib.hid (show BlockAt wc.drew wb.heap.size _ _ from K2.out.below ((Below.refl _ _).drew))
  clear e0_0 e0_1 e0_2 e0_3 e0_4 e1_0 e1_1 e1_2 e1_3 e1_4 e2_0 e2_1 e2_2 e2_3 e2_4
  clear K0 K1 K2
  have ZD := Lib.hid (show wc.heap.size ≤ wc.drew.heap.size from Nat.le_refl _)
  have F := Lib.hid (few_base V0 po0 bo0 pc0 bc0 wc.drew (H0.out.below BD.out))
  unfold verV at F
  obtain ⟨e0_0, e0_1, e0_2, e0_3, e0_4⟩ := cell5 KD0.out
  obtain ⟨e1_0, e1_1, e1_2, e1_3, e1_4⟩ := cell5 KD1.out
  obtain ⟨e2_0, e2_1, e2_2, e2_3, e2_4⟩ := cell5 KD2.out
  refine GoG.one (i := 1) rfl (by kernel_rfl) (fun K hK => ?_)
  go_simp
  refine F.out.mono ?_
  rintro e u0 ⟨xp0, xc0, xb0, xd0, U0, rfl, hv, hn, bb, cp, cb, rn1, rn2⟩
  unfold verV
  have B0 := Lib.hid (BD.out.trans (bb.mono BD.out.size))
  have Z0 := Lib.hid (Nat.le_trans ZD.out bb.size)
  have ZR0 := ZD
  have HV0 := Lib.hid hv
  have HN0 := Lib.hid hn
  have HC0 := Lib.hid (And.intro cp cb)
  clear e0_0 e0_1 e0_2 e0_3 e0_4 e1_0 e1_1 e1_2 e1_3 e1_4 e2_0 e2_1 e2_2 e2_3 e2_4
  have M0_0 := Lib.hid (KD0.out.below bb)
  have M0_1 := Lib.hid (KD1.out.below bb)
  have M0_2 := Lib.hid (KD2.out.below bb)
  have RP0 := Lib.hid rn1
  have RB0 := Lib.hid rn2
  clear bb hv hn cp cb rn1 rn2 F KD0 KD1 KD2 BD
  obtain ⟨e0_0, e0_1, e0_2, e0_3, e0_4⟩ := cell5 M0_0.out
  obtain ⟨e1_0, e1_1, e1_2, e1_3, e1_4⟩ := cell5 M0_1.out
  obtain ⟨e2_0, e2_1, e2_2, e2_3, e2_4⟩ := cell5 M0_2.out
  refine hK.out _ _ (Keeps.cons (by first | assumption | simp [*]) (Keeps.cons (by first | assumption | simp [*]) (Keeps.cons (by first | assumption | simp [*]) (Keeps.cons (by first | assumption | simp [*]) (Keeps.cons (by first | assumption | simp [*]) (Keeps.cons (by first | assumption | simp [*]) (Keeps.cons (by first | assumption | simp [*]) (Keeps.cons (by first | assumption | simp [*]) (Keeps.cons (by first | assumption | simp [*]) (Keeps.cons (by first | assumption | simp [*]) (Keeps.cons (by first | assumption | simp [*]) (Keeps.cons (by first | assumption | simp [*]) (Keeps.cons (by first | assumption | simp [*]) (Keeps.cons (by first | assumption | simp [*]) (Keeps.cons (by first | assumption | simp [*]) (Keeps.nil)))))))))))))))) ?_
  clear hK K
  clear e0_0 e0_1 e0_2 e0_3 e0_4 e1_0 e1_1 e1_2 e1_3 e1_4 e2_0 e2_1 e2_2 e2_3 e2_4
  have F := Lib.hid (few_base V1 po1 bo1 pc1 bc1 u0 (H1.out.below B0.out))
  unfold verV at F
  obtain ⟨e0_0, e0_1, e0_2, e0_3, e0_4⟩ := cell5 M0_0.out
  obtain ⟨e1_0, e1_1, e1_2, e1_3, e1_4⟩ := cell5 M0_1.out
  obtain ⟨e2_0, e2_1, e2_2, e2_3, e2_4⟩ := cell5 M0_2.out
  refine GoG.one (i := 3) rfl (by kernel_rfl) (fun K hK => ?_)
  go_simp
  refine F.out.mono ?_
  rintro e u1 ⟨xp1, xc1, xb1, xd1, U1, rfl, hv, hn, bb, cp, cb, rn1, rn2⟩
  unfold verV
  have B1 := Lib.hid (B0.out.trans (bb.mono B0.out.size))
  have Z1 := Lib.hid (Nat.le_trans Z0.out bb.size)
  have ZR1 := Z0
  have HV1 := Lib.hid hv
  have HN1 := Lib.hid hn
  have HC1 := Lib.hid (And.intro cp cb)
  clear e0_0 e0_1 e0_2 e0_3 e0_4 e1_0 e1_1 e1_2 e1_3 e1_4 e2_0 e2_1 e2_2 e2_3 e2_4
  have M1_0 := Lib.hid (M0_0.out.below bb)
  have M1_1 := Lib.hid (M0_1.out.below bb)
  have M1_2 := Lib.hid (M0_2.out.below bb)
  have RP0u := Lib.hid (RP0.out.below bb)
  clear RP0
  have RB0u := Lib.hid (RB0.out.below bb)
  clear RB0
  have RP1 := Lib.hid rn1
  have RB1 := Lib.hid rn2
  clear bb hv hn cp cb rn1 rn2 F M0_0 M0_1 M0_2 B0
  obtain ⟨e0_0, e0_1, e0_2, e0_3, e0_4⟩ := cell5 M1_0.out
  obtain ⟨e1_0, e1_1, e1_2, e1_3, e1_4⟩ := cell5 M1_1.out
  obtain ⟨e2_0, e2_1, e2_2, e2_3, e2_4⟩ := cell5 M1_2.out
  refine hK.out _ _ (Keeps.cons (by first | assumption | simp [*]) (Keeps.cons (by first | assumption | simp [*]) (Keeps.cons (by first | assumption | simp [*]) (Keeps.cons (by first | assumption | simp [*]) (Keeps.cons (by first | assumption | simp [*]) (Keeps.cons (by first | assumption | simp [*]) (Keeps.cons (by first | assumption | simp [*]) (Keeps.cons (by first | assumption | simp [*]) (Keeps.cons (by first | assumption | simp [*]) (Keeps.cons (by first | assumption | simp [*]) (Keeps.cons (by first | assumption | simp [*]) (Keeps.cons (by first | assumption | simp [*]) (Keeps.cons (by first | assumption | simp [*]) (Keeps.cons (by first | assumption | simp [*]) (Keeps.cons (by first | assumption | simp [*]) (Keeps.nil)))))))))))))))) ?_
  clear hK K
  clear e0_0 e0_1 e0_2 e0_3 e0_4 e1_0 e1_1 e1_2 e1_3 e1_4 e2_0 e2_1 e2_2 e2_3 e2_4
  have F := Lib.hid (few_base V2 po2 bo2 pc2 bc2 u1 (H2.out.below B1.out))
  unfold verV at F
  obtain ⟨e0_0, e0_1, e0_2, e0_3, e0_4⟩ := cell5 M1_0.out
  obtain ⟨e1_0, e1_1, e1_2, e1_3, e1_4⟩ := cell5 M1_1.out
  obtain ⟨e2_0, e2_1, e2_2, e2_3, e2_4⟩ := cell5 M1_2.out
  refine GoG.one (i := 5) rfl (by kernel_rfl) (fun K hK => ?_)
  go_simp
  refine F.out.mono ?_
  rintro e u2 ⟨xp2, xc2, xb2, xd2, U2, rfl, hv, hn, bb, cp, cb, rn1, rn2⟩
  unfold verV
  have B2 := Lib.hid (B1.out.trans (bb.mono B1.out.size))
  have Z2 := Lib.hid (Nat.le_trans Z1.out bb.size)
  have ZR2 := Z1
  have HV2 := Lib.hid hv
  have HN2 := Lib.hid hn
  have HC2 := Lib.hid (And.intro cp cb)
  clear e0_0 e0_1 e0_2 e0_3 e0_4 e1_0 e1_1 e1_2 e1_3 e1_4 e2_0 e2_1 e2_2 e2_3 e2_4
  have M2_0 := Lib.hid (M1_0.out.below bb)
  have M2_1 := Lib.hid (M1_1.out.below bb)
  have M2_2 := Lib.hid (M1_2.out.below bb)
  have RP0uu := Lib.hid (RP0u.out.below bb)
  clear RP0u
  have RB0uu := Lib.hid (RB0u.out.below bb)
  clear RB0u
  have RP1u := Lib.hid (RP1.out.below bb)
  clear RP1
  have RB1u := Lib.hid (RB1.out.below bb)
  clear RB1
  have RP2 := Lib.hid rn1
  have RB2 := Lib.hid rn2
  clear bb hv hn cp cb rn1 rn2 F M1_0 M1_1 M1_2 B1
  obtain ⟨e0_0, e0_1, e0_2, e0_3, e0_4⟩ := cell5 M2_0.out
  obtain ⟨e1_0, e1_1, e1_2, e1_3, e1_4⟩ := cell5 M2_1.out
  obtain ⟨e2_0, e2_1, e2_2, e2_3, e2_4⟩ := cell5 M2_2.out
  refine hK.out _ _ (Keeps.cons (by first | assumption | simp [*]) (Keeps.cons (by first | assumption | simp [*]) (Keeps.cons (by first | assumption | simp [*]) (Keeps.cons (by first | assumption | simp [*]) (Keeps.cons (by first | assumption | simp [*]) (Keeps.cons (by first | assumption | simp [*]) (Keeps.cons (by first | assumption | simp [*]) (Keeps.cons (by first | assumption | simp [*]) (Keeps.cons (by first | assumption | simp [*]) (Keeps.cons (by first | assumption | simp [*]) (Keeps.cons (by first | assumption | simp [*]) (Keeps.cons (by first | assumption | simp [*]) (Keeps.cons (by first | assumption | simp [*]) (Keeps.cons (by first | assumption | simp [*]) (Keeps.cons (by first | assumption | simp [*]) (Keeps.nil)))))))))))))))) ?_
  clear hK K
  clear e0_0 e0_1 e0_2 e0_3 e0_4 e1_0 e1_1 e1_2 e1_3 e1_4 e2_0 e2_1 e2_2 e2_3 e2_4
  obtain ⟨s0, hs0⟩ : ∃ s, (((((u2.setCell ⟨w.heap.size, 0, none⟩ (.int .i64 U0.ma)).setCell ⟨w.heap.size, 1, none⟩ (.int .i64 U0.mi)).setCell ⟨w.heap.size, 2, none⟩ (.int .i64 U0.pa)).setCell ⟨w.heap.size, 3, none⟩ (.slice xp0 U0.pre.length xc0)).setCell ⟨w.heap.size, 4, none⟩ (.slice xb0 U0.build.length xd0)) = s := ⟨_, rfl⟩
  obtain ⟨g1, g2, g3, g4, g5⟩ := set5_facts hs0
  have fr0 := M2_0.out.free 0
  have fr1 := M2_0.out.free 1
  have fr2 := M2_0.out.free 2
  have fr3 := M2_0.out.free 3
  have fr4 := M2_0.out.free 4
  obtain ⟨e0_0, e0_1, e0_2, e0_3, e0_4⟩ := cell5 M2_0.out
  obtain ⟨e1_0, e1_1, e1_2, e1_3, e1_4⟩ := cell5 M2_1.out
  obtain ⟨e2_0, e2_1, e2_2, e2_3, e2_4⟩ := cell5 M2_2.out
  have N0_0 := Lib.hid (set5_at g1 M2_0.out)
  have N0_1 := Lib.hid (g2 _ _ _ M2_1.out (by have := HZ.out; omega))
  have N0_2 := Lib.hid (g2 _ _ _ M2_2.out (by have := HZ.out; omega))
  have Q0 := Lib.hid (g4 _ _ B2.out (by have := HZ.out; omega))
  have RP0uus := Lib.hid (g3 _ _ _ RP0uu.out (by have := HZ.out; have := ZR0.out; omega))
  clear RP0uu
  have RB0uus := Lib.hid (g3 _ _ _ RB0uu.out (by have := HZ.out; have := ZR0.out; omega))
  clear RB0uu
  have RP1us := Lib.hid (g3 _ _ _ RP1u.out (by have := HZ.out; have := ZR1.out; omega))
  clear RP1u
  have RB1us := Lib.hid (g3 _ _ _ RB1u.out (by have := HZ.out; have := ZR1.out; omega))
  clear RB1u
  have RP2s := Lib.hid (g3 _ _ _ RP2.out (by have := HZ.out; have := ZR2.out; omega))
  clear RP2
  have RB2s := Lib.hid (g3 _ _ _ RB2.out (by have := HZ.out; have := ZR2.out; omega))
  clear RB2
  clear g1 g2 g3 g4 g5 B2 M2_0 M2_1 M2_2
  refine GoG.one (i := 6) rfl (by kernel_rfl) (fun K hK => ?_)
  go_simp
  clear e0_0 e0_1 e0_2 e0_3 e0_4 e1_0 e1_1 e1_2 e1_3 e1_4 e2_0 e2_1 e2_2 e2_3 e2_4
  clear fr0 fr1 fr2 fr3 fr4
  obtain ⟨e0_0, e0_1, e0_2, e0_3, e0_4⟩ := cell5 N0_0.out
  obtain ⟨e1_0, e1_1, e1_2, e1_3, e1_4⟩ := cell5 N0_1.out
  obtain ⟨e2_0, e2_1, e2_2, e2_3, e2_4⟩ := cell5 N0_2.out
  refine hK.out _ _ (Keeps.up (by rfl) (Keeps.up (by rfl) (Keeps.up (by rfl) (Keeps.up (by rfl) (Keeps.up (by rfl) (Keeps.cons (by first | assumption | simp [*]) (Keeps.cons (by first | assumption | simp [*]) (Keeps.cons (by first | assumption | simp [*]) (Keeps.cons (by first | assumption | simp [*]) (Keeps.cons (by first | assumption | simp [*]) (Keeps.cons (by first | assumption | simp [*]) (Keeps.cons (by first | assumption | simp [*]) (Keeps.cons (by first | assumption | simp [*]) (Keeps.cons (by first | assumption | simp [*]) (Keeps.cons (by first | assumption | simp [*]) (Keeps.nil)))))))))))))))) ?_
  clear hK K hs0
  clear e0_0 e0_1 e0_2 e0_3 e0_4 e1_0 e1_1 e1_2 e1_3 e1_4 e2_0 e2_1 e2_2 e2_3 e2_4
  obtain ⟨s1, hs1⟩ : ∃ s, (((((s0.setCell ⟨wa.heap.size, 0, none⟩ (.int .i64 U1.ma)).setCell ⟨wa.heap.size, 1, none⟩ (.int .i64 U1.mi)).setCell ⟨wa.heap.size, 2, none⟩ (.int .i64 U1.pa)).setCell ⟨wa.heap.size, 3, none⟩ (.slice xp1 U1.pre.length xc1)).setCell ⟨wa.heap.size, 4, none⟩ (.slice xb1 U1.build.length xd1)) = s := ⟨_, rfl⟩
  obtain ⟨g1, g2, g3, g4, g5⟩ := set5_facts hs1
  have fr0 := N0_1.out.free 0
  have fr1 := N0_1.out.free 1
  have fr2 := N0_1.out.free 2
  have fr3 := N0_1.out.free 3
  have fr4 := N0_1.out.free 4
  obtain ⟨e0_0, e0_1, e0_2, e0_3, e0_4⟩ := cell5 N0_0.out
  obtain ⟨e1_0, e1_1, e1_2, e1_3, e1_4⟩ := cell5 N0_1.out
  obtain ⟨e2_0, e2_1, e2_2, e2_3, e2_4⟩ := cell5 N0_2.out
  have N1_0 := Lib.hid (g2 _ _ _ N0_0.out (by have := HZ.out; omega))
  have N1_1 := Lib.hid (set5_at g1 N0_1.out)
  have N1_2 := Lib.hid (g2 _ _ _ N0_2.out (by have := HZ.out; omega))
  have Q1 := Lib.hid (g4 _ _ Q0.out (by have := HZ.out; omega))
  have RP0uuss := Lib.hid (g3 _ _ _ RP0uus.out (by have := HZ.out; have := ZR0.out; omega))
  clear RP0uus
  have RB0uuss := Lib.hid (g3 _ _ _ RB0uus.out (by have := HZ.out; have := ZR0.out; omega))
  clear RB0uus
  have RP1uss := Lib.hid (g3 _ _ _ RP1us.out (by have := HZ.out; have := ZR1.out; omega))
  clear RP1us
  have RB1uss := Lib.hid (g3 _ _ _ RB1us.out (by have := HZ.out; have := ZR1.out; omega))
  clear RB1us
  have RP2ss := Lib.hid (g3 _ _ _ RP2s.out (by have := HZ.out; have := ZR2.out; omega))
  clear RP2s
  have RB2ss := Lib.hid (g3 _ _ _ RB2s.out (by have := HZ.out; have := ZR2.out; omega))
  clear RB2s
  clear g1 g2 g3 g4 g5 Q0 N0_0 N0_1 N0_2
  refine GoG.one (i := 7) rfl (by kernel_rfl) (fun K hK => ?_)
  go_simp
  clear e0_0 e0_1 e0_2 e0_3 e0_4 e1_0 e1_1 e1_2 e1_3 e1_4 e2_0 e2_1 e2_2 e2_3 e2_4
  clear fr0 fr1 fr2 fr3 fr4
  obtain ⟨e0_0, e0_1, e0_2, e0_3, e0_4⟩ := cell5 N1_0.out
  obtain ⟨e1_0, e1_1, e1_2, e1_3, e1_4⟩ := cell5 N1_1.out
  obtain ⟨e2_0, e2_1, e2_2, e2_3, e2_4⟩ := cell5 N1_2.out
  refine hK.out _ _ (Keeps.up (by rfl) (Keeps.up (by rfl) (Keeps.up (by rfl) (Keeps.up (by rfl) (Keeps.up (by rfl) (Keeps.up (by rfl) (Keeps.up (by rfl) (Keeps.up (by rfl) (Keeps.up (by rfl) (Keeps.up (by rfl) (Keeps.cons (by first | assumption | simp [*]) (Keeps.cons (by first | assumption | simp [*]) (Keeps.cons (by first | assumption | simp [*]) (Keeps.cons (by first | assumption | simp [*]) (Keeps.cons (by first | assumption | simp [*]) (Keeps.nil)))))))))))))))) ?_
  clear hK K hs1
  clear e0_0 e0_1 e0_2 e0_3 e0_4 e1_0 e1_1 e1_2 e1_3 e1_4 e2_0 e2_1 e2_2 e2_3 e2_4
  obtain ⟨s2, hs2⟩ : ∃ s, (((((s1.setCell ⟨wb.heap.size, 0, none⟩ (.int .i64 U2.ma)).setCell ⟨wb.heap.size, 1, none⟩ (.int .i64 U2.mi)).setCell ⟨wb.heap.size, 2, none⟩ (.int .i64 U2.pa)).setCell ⟨wb.heap.size, 3, none⟩ (.slice xp2 U2.pre.length xc2)).setCell ⟨wb.heap.size, 4, none⟩ (.slice xb2 U2.build.length xd2)) = s := ⟨_, rfl⟩
  obtain ⟨g1, g2, g3, g4, g5⟩ := set5_facts hs2
  have fr0 := N1_2.out.free 0
  have fr1 := N1_2.out.free 1
  have fr2 := N1_2.out.free 2
  have fr3 := N1_2.out.free 3
  have fr4 := N1_2.out.free 4
  obtain ⟨e0_0, e0_1, e0_2, e0_3, e0_4⟩ := cell5 N1_0.out
  obtain ⟨e1_0, e1_1, e1_2, e1_3, e1_4⟩ := cell5 N1_1.out
  obtain ⟨e2_0, e2_1, e2_2, e2_3, e2_4⟩ := cell5 N1_2.out
  have N2_0 := Lib.hid (g2 _ _ _ N1_0.out (by have := HZ.out; omega))
  have N2_1 := Lib.hid (g2 _ _ _ N1_1.out (by have := HZ.out; omega))
  have N2_2 := Lib.hid (set5_at g1 N1_2.out)
  have Q2 := Lib.hid (g4 _ _ Q1.out (by have := HZ.out; omega))
  have RP0uusss := Lib.hid (g3 _ _ _ RP0uuss.out (by have := HZ.out; have := ZR0.out; omega))
  clear RP0uuss
  have RB0uusss := Lib.hid (g3 _ _ _ RB0uuss.out (by have := HZ.out; have := ZR0.out; omega))
  clear RB0uuss
  have RP1usss := Lib.hid (g3 _ _ _ RP1uss.out (by have := HZ.out; have := ZR1.out; omega))
  clear RP1uss
  have RB1usss := Lib.hid (g3 _ _ _ RB1uss.out (by have := HZ.out; have := ZR1.out; omega))
  clear RB1uss
  have RP2sss := Lib.hid (g3 _ _ _ RP2ss.out (by have := HZ.out; have := ZR2.out; omega))
  clear RP2ss
  have RB2sss := Lib.hid (g3 _ _ _ RB2ss.out (by have := HZ.out; have := ZR2.out; omega))
  clear RB2ss
  clear g1 g2 g3 g4 g5 Q1 N1_0 N1_1 N1_2
  refine GoG.one (i := 8) rfl (by kernel_rfl) (fun K hK => ?_)
  go_simp
  clear e0_0 e0_1 e0_2 e0_3 e0_4 e1_0 e1_1 e1_2 e1_3 e1_4 e2_0 e2_1 e2_2 e2_3 e2_4
  clear fr0 fr1 fr2 fr3 fr4
  obtain ⟨e0_0, e0_1, e0_2, e0_3, e0_4⟩ := cell5 N2_0.out
  obtain ⟨e1_0, e1_1, e1_2, e1_3, e1_4⟩ := cell5 N2_1.out
  obtain ⟨e2_0, e2_1, e2_2, e2_3, e2_4⟩ := cell5 N2_2.out
  refine hK.out _ _ (Keeps.up (by rfl) (Keeps.up (by rfl) (Keeps.up (by rfl) (Keeps.up (by rfl) (Keeps.up (by rfl) (Keeps.up (by rfl) (Keeps.up (by rfl) (Keeps.up (by rfl) (Keeps.up (by rfl) (Keeps.up (by rfl) (Keeps.up (by rfl) (Keeps.up (by rfl) (Keeps.up (by rfl) (Keeps.up (by rfl) (Keeps.up (by rfl) (Keeps.nil)))))))))))))))) ?_
  clear hK K hs2
  clear e0_0 e0_1 e0_2 e0_3 e0_4 e1_0 e1_1 e1_2 e1_3 e1_4 e2_0 e2_1 e2_2 e2_3 e2_4
  refine GoG.done (by kernel_rfl) ?_ _
  have C0 := Lib.hid (show VerC s2 xp0 xb0 U0 from { HV0.out with pre := RP0uusss.out.row, build := RB0uusss.out.row })
  clear HV0 RP0uusss RB0uusss
  have C1 := Lib.hid (show VerC s2 xp1 xb1 U1 from { HV1.out with pre := RP1usss.out.row, build := RB1usss.out.row })
  clear HV1 RP1usss RB1usss
  have C2 := Lib.hid (show VerC s2 xp2 xb2 U2 from { HV2.out with pre := RP2sss.out.row, build := RB2sss.out.row })
  clear HV2 RP2sss RB2sss
  have T0 := Lib.hid N2_0.out
  have T1 := Lib.hid N2_1.out
  have T2 := Lib.hid N2_2.out
  have BS := Lib.hid Q2.out
  clear Q2 N2_0 N2_1 N2_2
  have R0 : Hid (rightB U0 = rightB U0) := Lib.hid rfl
  have R1 : Hid (rightB U1 = rightB U1) := Lib.hid rfl
  have R2 : Hid (rightB U2 = rightB U2) := Lib.hid rfl
  have X1 := cmpV_ord.turn U0 U1
  have X2 := cmpV_ord.chain U0 U1 U2
  have q0 := cmpV_range U0 U1
  have q1 := cmpV_range U1 U2
  have q2 := cmpV_range U0 U2
  clear R0 R1 R2
  cases r0 : rightB U0 <;> have R0 := Lib.hid r0 <;> clear r0 <;> cases r1 : rightB U1 <;> have R1 := Lib.hid r1 <;> clear r1 <;> cases r2 : rightB U2 <;> have R2 := Lib.hid r2 <;> clear r2
  · clear X1 X2 q0 q1 q2
    have BB0 := Lib.hid (Below.refl s2.heap.size s2)
    have M00 := cmp_any U0 U1 xp0 xb0 xp1 xb1 xc0 xd0 xc1 xd1 s2 (C0.out.below BB0.out) (C1.out.below BB0.out) (HG.out.errs.below BS.out) false false R0.out R1.out
    unfold verV at M00
    try simp only [Bool.and_self, Bool.and_true, Bool.true_and, Bool.and_false, Bool.false_and, Bool.false_eq_true, if_true, if_false] at M00
    have M0 := Lib.hid M00
    clear M00
    obtain ⟨e0_0, e0_1, e0_2, e0_3, e0_4⟩ := cell5 T0.out
    obtain ⟨e1_0, e1_1, e1_2, e1_3, e1_4⟩ := cell5 T1.out
    obtain ⟨e2_0, e2_1, e2_2, e2_3, e2_4⟩ := cell5 T2.out
    go_wp2_with fail
    refine M0.out.mono ?_
    rintro e y0 ⟨rfl, bb⟩
    have BY0 := Lib.hid (BS.out.trans (bb.mono BS.out.size))
    have BZ0 := Lib.hid (BB0.out.trans (bb.mono BB0.out.size))
    have TY0_0 := Lib.hid (T0.out.below bb)
    have TY0_1 := Lib.hid (T1.out.below bb)
    have TY0_2 := Lib.hid (T2.out.below bb)
    clear e0_0 e0_1 e0_2 e0_3 e0_4 e1_0 e1_1 e1_2 e1_3 e1_4 e2_0 e2_1 e2_2 e2_3 e2_4
    clear bb M0 BS T0 T1 T2
    have M10 := cmp_any U1 U0 xp1 xb1 xp0 xb0 xc1 xd1 xc0 xd0 y0 (C1.out.below BZ0.out) (C0.out.below BZ0.out) (HG.out.errs.below BY0.out) false false R1.out R0.out
    unfold verV at M10
    try simp only [Bool.and_self, Bool.and_true, Bool.true_and, Bool.and_false, Bool.false_and, Bool.false_eq_true, if_true, if_false] at M10
    have M1 := Lib.hid M10
    clear M10
    obtain ⟨e0_0, e0_1, e0_2, e0_3, e0_4⟩ := cell5 TY0_0.out
    obtain ⟨e1_0, e1_1, e1_2, e1_3, e1_4⟩ := cell5 TY0_1.out
    obtain ⟨e2_0, e2_1, e2_2, e2_3, e2_4⟩ := cell5 TY0_2.out
    go_wp2_with fail
    refine M1.out.mono ?_
    rintro e y1 ⟨rfl, bb⟩
    have BY1 := Lib.hid (BY0.out.trans (bb.mono BY0.out.size))
    have BZ1 := Lib.hid (BZ0.out.trans (bb.mono BZ0.out.size))
    have TY1_0 := Lib.hid (TY0_0.out.below bb)
    have TY1_1 := Lib.hid (TY0_1.out.below bb)
    have TY1_2 := Lib.hid (TY0_2.out.below bb)
    clear e0_0 e0_1 e0_2 e0_3 e0_4 e1_0 e1_1 e1_2 e1_3 e1_4 e2_0 e2_1 e2_2 e2_3 e2_4
    clear bb M1 BY0 TY0_0 TY0_1 TY0_2
    have M20 := cmp_any U1 U2 xp1 xb1 xp2 xb2 xc1 xd1 xc2 xd2 y1 (C1.out.below BZ1.out) (C2.out.below BZ1.out) (HG.out.errs.below BY1.out) false false R1.out R2.out
    unfold verV at M20
    try simp only [Bool.and_self, Bool.and_true, Bool.true_and, Bool.and_false, Bool.false_and, Bool.false_eq_true, if_true, if_false] at M20
    have M2 := Lib.hid M20
    clear M20
    obtain ⟨e0_0, e0_1, e0_2, e0_3, e0_4⟩ := cell5 TY1_0.out
    obtain ⟨e1_0, e1_1, e1_2, e1_3, e1_4⟩ := cell5 TY1_1.out
    obtain ⟨e2_0, e2_1, e2_2, e2_3, e2_4⟩ := cell5 TY1_2.out
    go_wp2_with fail
    refine M2.out.mono ?_
    rintro e y2 ⟨rfl, bb⟩
    have BY2 := Lib.hid (BY1.out.trans (bb.mono BY1.out.size))
    have BZ2 := Lib.hid (BZ1.out.trans (bb.mono BZ1.out.size))
    have TY2_0 := Lib.hid (TY1_0.out.below bb)
    have TY2_1 := Lib.hid (TY1_1.out.below bb)
    have TY2_2 := Lib.hid (TY1_2.out.below bb)
    clear e0_0 e0_1 e0_2 e0_3 e0_4 e1_0 e1_1 e1_2 e1_3 e1_4 e2_0 e2_1 e2_2 e2_3 e2_4
    clear bb M2 BY1 TY1_0 TY1_1 TY1_2
    have M30 := cmp_any U0 U2 xp0 xb0 xp2 xb2 xc0 xd0 xc2 xd2 y2 (C0.out.below BZ2.out) (C2.out.below BZ2.out) (HG.out.errs.below BY2.out) false false R0.out R2.out
    unfold verV at M30
    try simp only [Bool.and_self, Bool.and_true, Bool.true_and, Bool.and_false, Bool.false_and, Bool.false_eq_true, if_true, if_false] at M30
    have M3 := Lib.hid M30
    clear M30
    obtain ⟨e0_0, e0_1, e0_2, e0_3, e0_4⟩ := cell5 TY2_0.out
    obtain ⟨e1_0, e1_1, e1_2, e1_3, e1_4⟩ := cell5 TY2_1.out
    obtain ⟨e2_0, e2_1, e2_2, e2_3, e2_4⟩ := cell5 TY2_2.out
    go_wp2_with fail
    refine M3.out.mono ?_
    rintro e y3 ⟨rfl, bb⟩
    have BY3 := Lib.hid (BY2.out.trans (bb.mono BY2.out.size))
    have BZ3 := Lib.hid (BZ2.out.trans (bb.mono BZ2.out.size))
    have TY3_0 := Lib.hid (TY2_0.out.below bb)
    have TY3_1 := Lib.hid (TY2_1.out.below bb)
    have TY3_2 := Lib.hid (TY2_2.out.below bb)
    clear e0_0 e0_1 e0_2 e0_3 e0_4 e1_0 e1_1 e1_2 e1_3 e1_4 e2_0 e2_1 e2_2 e2_3 e2_4
    clear bb M3 BY2 TY2_0 TY2_1 TY2_2
    have HL := Lib.hid (alive_any y3 (HG.out.below BY3.out))
    go_wp2_with fail
    refine HL.out.mono ?_
    rintro e y9 ⟨rfl, bb⟩
    have BF := Lib.hid (BY3.out.trans (bb.mono BY3.out.size))
    clear bb
    go_wp2_with fail
    go_ret
    exact ⟨ret_bool (by first | rfl | decide), BF.out⟩
  · clear X1 X2 q0 q1 q2
    have BB0 := Lib.hid (Below.refl s2.heap.size s2)
    have M00 := cmp_any U0 U1 xp0 xb0 xp1 xb1 xc0 xd0 xc1 xd1 s2 (C0.out.below BB0.out) (C1.out.below BB0.out) (HG.out.errs.below BS.out) false false R0.out R1.out
    unfold verV at M00
    try simp only [Bool.and_self, Bool.and_true, Bool.true_and, Bool.and_false, Bool.false_and, Bool.false_eq_true, if_true, if_false] at M00
    have M0 := Lib.hid M00
    clear M00
    obtain ⟨e0_0, e0_1, e0_2, e0_3, e0_4⟩ := cell5 T0.out
    obtain ⟨e1_0, e1_1, e1_2, e1_3, e1_4⟩ := cell5 T1.out
    obtain ⟨e2_0, e2_1, e2_2, e2_3, e2_4⟩ := cell5 T2.out
    go_wp2_with fail
    refine M0.out.mono ?_
    rintro e y0 ⟨rfl, bb⟩
    have BY0 := Lib.hid (BS.out.trans (bb.mono BS.out.size))
    have BZ0 := Lib.hid (BB0.out.trans (bb.mono BB0.out.size))
    have TY0_0 := Lib.hid (T0.out.below bb)
    have TY0_1 := Lib.hid (T1.out.below bb)
    have TY0_2 := Lib.hid (T2.out.below bb)
    clear e0_0 e0_1 e0_2 e0_3 e0_4 e1_0 e1_1 e1_2 e1_3 e1_4 e2_0 e2_1 e2_2 e2_3 e2_4
    clear bb M0 BS T0 T1 T2
    have M10 := cmp_any U1 U0 xp1 xb1 xp0 xb0 xc1 xd1 xc0 xd0 y0 (C1.out.below BZ0.out) (C0.out.below BZ0.out) (HG.out.errs.below BY0.out) false false R1.out R0.out
    unfold verV at M10
    try simp only [Bool.and_self, Bool.and_true, Bool.true_and, Bool.and_false, Bool.false_and, Bool.false_eq_true, if_true, if_false] at M10
    have M1 := Lib.hid M10
    clear M10
    obtain ⟨e0_0, e0_1, e0_2, e0_3, e0_4⟩ := cell5 TY0_0.out
    obtain ⟨e1_0, e1_1, e1_2, e1_3, e1_4⟩ := cell5 TY0_1.out
    obtain ⟨e2_0, e2_1, e2_2, e2_3, e2_4⟩ := cell5 TY0_2.out
    go_wp2_with fail
    refine M1.out.mono ?_
    rintro e y1 ⟨rfl, bb⟩
    have BY1 := Lib.hid (BY0.out.trans (bb.mono BY0.out.size))
    have BZ1 := Lib.hid (BZ0.out.trans (bb.mono BZ0.out.size))
    have TY1_0 := Lib.hid (TY0_0.out.below bb)
    have TY1_1 := Lib.hid (TY0_1.out.below bb)
    have TY1_2 := Lib.hid (TY0_2.out.below bb)
    clear e0_0 e0_1 e0_2 e0_3 e0_4 e1_0 e1_1 e1_2 e1_3 e1_4 e2_0 e2_1 e2_2 e2_3 e2_4
    clear bb M1 BY0 TY0_0 TY0_1 TY0_2
    have M20 := cmp_any U1 U2 xp1 xb1 xp2 xb2 xc1 xd1 xc2 xd2 y1 (C1.out.below BZ1.out) (C2.out.below BZ1.out) (HG.out.errs.below BY1.out) false true R1.out R2.out
    unfold verV at M20
    try simp only [Bool.and_self, Bool.and_true, Bool.true_and, Bool.and_false, Bool.false_and, Bool.false_eq_true, if_true, if_false] at M20
    have M2 := Lib.hid M20
    clear M20
    obtain ⟨e0_0, e0_1, e0_2, e0_3, e0_4⟩ := cell5 TY1_0.out
    obtain ⟨e1_0, e1_1, e1_2, e1_3, e1_4⟩ := cell5 TY1_1.out
    obtain ⟨e2_0, e2_1, e2_2, e2_3, e2_4⟩ := cell5 TY1_2.out
    go_wp2_with fail
    refine M2.out.mono ?_
    rintro e y2 ⟨rfl, bb⟩
    have BY2 := Lib.hid (BY1.out.trans (bb.mono BY1.out.size))
    have BZ2 := Lib.hid (BZ1.out.trans (bb.mono BZ1.out.size))
    have TY2_0 := Lib.hid (TY1_0.out.below bb)
    have TY2_1 := Lib.hid (TY1_1.out.below bb)
    have TY2_2 := Lib.hid (TY1_2.out.below bb)
    clear e0_0 e0_1 e0_2 e0_3 e0_4 e1_0 e1_1 e1_2 e1_3 e1_4 e2_0 e2_1 e2_2 e2_3 e2_4
    clear bb M2 BY1 TY1_0 TY1_1 TY1_2
    have M30 := cmp_any U0 U2 xp0 xb0 xp2 xb2 xc0 xd0 xc2 xd2 y2 (C0.out.below BZ2.out) (C2.out.below BZ2.out) (HG.out.errs.below BY2.out) false true R0.out R2.out
    unfold verV at M30
    try simp only [Bool.and_self, Bool.and_true, Bool.true_and, Bool.and_false, Bool.false_and, Bool.false_eq_true, if_true, if_false] at M30
    have M3 := Lib.hid M30
    clear M30
    obtain ⟨e0_0, e0_1, e0_2, e0_3, e0_4⟩ := cell5 TY2_0.out
    obtain ⟨e1_0, e1_1, e1_2, e1_3, e1_4⟩ := cell5 TY2_1.out
    obtain ⟨e2_0, e2_1, e2_2, e2_3, e2_4⟩ := cell5 TY2_2.out
    go_wp2_with fail
    refine M3.out.mono ?_
    rintro e y3 ⟨rfl, bb⟩
    have BY3 := Lib.hid (BY2.out.trans (bb.mono BY2.out.size))
    have BZ3 := Lib.hid (BZ2.out.trans (bb.mono BZ2.out.size))
    have TY3_0 := Lib.hid (TY2_0.out.below bb)
    have TY3_1 := Lib.hid (TY2_1.out.below bb)
    have TY3_2 := Lib.hid (TY2_2.out.below bb)
    clear e0_0 e0_1 e0_2 e0_3 e0_4 e1_0 e1_1 e1_2 e1_3 e1_4 e2_0 e2_1 e2_2 e2_3 e2_4
    clear bb M3 BY2 TY2_0 TY2_1 TY2_2
    have HL := Lib.hid (alive_any y3 (HG.out.below BY3.out))
    go_wp2_with fail
    refine HL.out.mono ?_
    rintro e y9 ⟨rfl, bb⟩
    have BF := Lib.hid (BY3.out.trans (bb.mono BY3.out.size))
    clear bb
    go_wp2_with fail
    go_ret
    exact ⟨ret_bool (by first | rfl | decide), BF.out⟩
  · clear X1 X2 q0 q1 q2
    have BB0 := Lib.hid (Below.refl s2.heap.size s2)
    have M00 := cmp_any U0 U1 xp0 xb0 xp1 xb1 xc0 xd0 xc1 xd1 s2 (C0.out.below BB0.out) (C1.out.below BB0.out) (HG.out.errs.below BS.out) false true R0.out R1.out
    unfold verV at M00
    try simp only [Bool.and_self, Bool.and_true, Bool.true_and, Bool.and_false, Bool.false_and, Bool.false_eq_true, if_true, if_false] at M00
    have M0 := Lib.hid M00
    clear M00
    obtain ⟨e0_0, e0_1, e0_2, e0_3, e0_4⟩ := cell5 T0.out
    obtain ⟨e1_0, e1_1, e1_2, e1_3, e1_4⟩ := cell5 T1.out
    obtain ⟨e2_0, e2_1, e2_2, e2_3, e2_4⟩ := cell5 T2.out
    go_wp2_with fail
    refine M0.out.mono ?_
    rintro e y0 ⟨rfl, bb⟩
    have BY0 := Lib.hid (BS.out.trans (bb.mono BS.out.size))
    have BZ0 := Lib.hid (BB0.out.trans (bb.mono BB0.out.size))
    have TY0_0 := Lib.hid (T0.out.below bb)
    have TY0_1 := Lib.hid (T1.out.below bb)
    have TY0_2 := Lib.hid (T2.out.below bb)
    clear e0_0 e0_1 e0_2 e0_3 e0_4 e1_0 e1_1 e1_2 e1_3 e1_4 e2_0 e2_1 e2_2 e2_3 e2_4
    clear bb M0 BS T0 T1 T2
    have M10 := cmp_any U1 U0 xp1 xb1 xp0 xb0 xc1 xd1 xc0 xd0 y0 (C1.out.below BZ0.out) (C0.out.below BZ0.out) (HG.out.errs.below BY0.out) true false R1.out R0.out
    unfold verV at M10
    try simp only [Bool.and_self, Bool.and_true, Bool.true_and, Bool.and_false, Bool.false_and, Bool.false_eq_true, if_true, if_false] at M10
    have M1 := Lib.hid M10
    clear M10
    obtain ⟨e0_0, e0_1, e0_2, e0_3, e0_4⟩ := cell5 TY0_0.out
    obtain ⟨e1_0, e1_1, e1_2, e1_3, e1_4⟩ := cell5 TY0_1.out
    obtain ⟨e2_0, e2_1, e2_2, e2_3, e2_4⟩ := cell5 TY0_2.out
    go_wp2_with fail
    refine M1.out.mono ?_
    rintro e y1 ⟨rfl, bb⟩
    have BY1 := Lib.hid (BY0.out.trans (bb.mono BY0.out.size))
    have BZ1 := Lib.hid (BZ0.out.trans (bb.mono BZ0.out.size))
    have TY1_0 := Lib.hid (TY0_0.out.below bb)
    have TY1_1 := Lib.hid (TY0_1.out.below bb)
    have TY1_2 := Lib.hid (TY0_2.out.below bb)
    clear e0_0 e0_1 e0_2 e0_3 e0_4 e1_0 e1_1 e1_2 e1_3 e1_4 e2_0 e2_1 e2_2 e2_3 e2_4
    clear bb M1 BY0 TY0_0 TY0_1 TY0_2
    have M20 := cmp_any U1 U2 xp1 xb1 xp2 xb2 xc1 xd1 xc2 xd2 y1 (C1.out.below BZ1.out) (C2.out.below BZ1.out) (HG.out.errs.below BY1.out) true false R1.out R2.out
    unfold verV at M20
    try simp only [Bool.and_self, Bool.and_true, Bool.true_and, Bool.and_false, Bool.false_and, Bool.false_eq_true, if_true, if_false] at M20
    have M2 := Lib.hid M20
    clear M20
    obtain ⟨e0_0, e0_1, e0_2, e0_3, e0_4⟩ := cell5 TY1_0.out
    obtain ⟨e1_0, e1_1, e1_2, e1_3, e1_4⟩ := cell5 TY1_1.out
    obtain ⟨e2_0, e2_1, e2_2, e2_3, e2_4⟩ := cell5 TY1_2.out
    go_wp2_with fail
    refine M2.out.mono ?_
    rintro e y2 ⟨rfl, bb⟩
    have BY2 := Lib.hid (BY1.out.trans (bb.mono BY1.out.size))
    have BZ2 := Lib.hid (BZ1.out.trans (bb.mono BZ1.out.size))
    have TY2_0 := Lib.hid (TY1_0.out.below bb)
    have TY2_1 := Lib.hid (TY1_1.out.below bb)
    have TY2_2 := Lib.hid (TY1_2.out.below bb)
    clear e0_0 e0_1 e0_2 e0_3 e0_4 e1_0 e1_1 e1_2 e1_3 e1_4 e2_0 e2_1 e2_2 e2_3 e2_4
    clear bb M2 BY1 TY1_0 TY1_1 TY1_2
    have M30 := cmp_any U0 U2 xp0 xb0 xp2 xb2 xc0 xd0 xc2 xd2 y2 (C0.out.below BZ2.out) (C2.out.below BZ2.out) (HG.out.errs.below BY2.out) false false R0.out R2.out
    unfold verV at M30
    try simp only [Bool.and_self, Bool.and_true, Bool.true_and, Bool.and_false, Bool.false_and, Bool.false_eq_true, if_true, if_false] at M30
    have M3 := Lib.hid M30
    clear M30
    obtain ⟨e0_0, e0_1, e0_2, e0_3, e0_4⟩ := cell5 TY2_0.out
    obtain ⟨e1_0, e1_1, e1_2, e1_3, e1_4⟩ := cell5 TY2_1.out
    obtain ⟨e2_0, e2_1, e2_2, e2_3, e2_4⟩ := cell5 TY2_2.out
    go_wp2_with fail
    refine M3.out.mono ?_
    rintro e y3 ⟨rfl, bb⟩
    have BY3 := Lib.hid (BY2.out.trans (bb.mono BY2.out.size))
    have BZ3 := Lib.hid (BZ2.out.trans (bb.mono BZ2.out.size))
    have TY3_0 := Lib.hid (TY2_0.out.below bb)
    have TY3_1 := Lib.hid (TY2_1.out.below bb)
    have TY3_2 := Lib.hid (TY2_2.out.below bb)
    clear e0_0 e0_1 e0_2 e0_3 e0_4 e1_0 e1_1 e1_2 e1_3 e1_4 e2_0 e2_1 e2_2 e2_3 e2_4
    clear bb M3 BY2 TY2_0 TY2_1 TY2_2
    have HL := Lib.hid (alive_any y3 (HG.out.below BY3.out))
    go_wp2_with fail
    refine HL.out.mono ?_
    rintro e y9 ⟨rfl, bb⟩
    have BF := Lib.hid (BY3.out.trans (bb.mono BY3.out.size))
    clear bb
    go_wp2_with fail
    go_ret
    exact ⟨ret_bool (by first | rfl | decide), BF.out⟩
  · clear X1 X2 q0 q1 q2
    have BB0 := Lib.hid (Below.refl s2.heap.size s2)
    have M00 := cmp_any U0 U1 xp0 xb0 xp1 xb1 xc0 xd0 xc1 xd1 s2 (C0.out.below BB0.out) (C1.out.below BB0.out) (HG.out.errs.below BS.out) false true R0.out R1.out
    unfold verV at M00
    try simp only [Bool.and_self, Bool.and_true, Bool.true_and, Bool.and_false, Bool.false_and, Bool.false_eq_true, if_true, if_false] at M00
    have M0 := Lib.hid M00
    clear M00
    obtain ⟨e0_0, e0_1, e0_2, e0_3, e0_4⟩ := cell5 T0.out
    obtain ⟨e1_0, e1_1, e1_2, e1_3, e1_4⟩ := cell5 T1.out
    obtain ⟨e2_0, e2_1, e2_2, e2_3, e2_4⟩ := cell5 T2.out
    go_wp2_with fail
    refine M0.out.mono ?_
    rintro e y0 ⟨rfl, bb⟩
    have BY0 := Lib.hid (BS.out.trans (bb.mono BS.out.size))
    have BZ0 := Lib.hid (BB0.out.trans (bb.mono BB0.out.size))
    have TY0_0 := Lib.hid (T0.out.below bb)
    have TY0_1 := Lib.hid (T1.out.below bb)
    have TY0_2 := Lib.hid (T2.out.below bb)
    clear e0_0 e0_1 e0_2 e0_3 e0_4 e1_0 e1_1 e1_2 e1_3 e1_4 e2_0 e2_1 e2_2 e2_3 e2_4
    clear bb M0 BS T0 T1 T2
    have M10 := cmp_any U1 U0 xp1 xb1 xp0 xb0 xc1 xd1 xc0 xd0 y0 (C1.out.below BZ0.out) (C0.out.below BZ0.out) (HG.out.errs.below BY0.out) true false R1.out R0.out
    unfold verV at M10
    try simp only [Bool.and_self, Bool.and_true, Bool.true_and, Bool.and_false, Bool.false_and, Bool.false_eq_true, if_true, if_false] at M10
    have M1 := Lib.hid M10
    clear M10
    obtain ⟨e0_0, e0_1, e0_2, e0_3, e0_4⟩ := cell5 TY0_0.out
    obtain ⟨e1_0, e1_1, e1_2, e1_3, e1_4⟩ := cell5 TY0_1.out
    obtain ⟨e2_0, e2_1, e2_2, e2_3, e2_4⟩ := cell5 TY0_2.out
    go_wp2_with fail
    refine M1.out.mono ?_
    rintro e y1 ⟨rfl, bb⟩
    have BY1 := Lib.hid (BY0.out.trans (bb.mono BY0.out.size))
    have BZ1 := Lib.hid (BZ0.out.trans (bb.mono BZ0.out.size))
    have TY1_0 := Lib.hid (TY0_0.out.below bb)
    have TY1_1 := Lib.hid (TY0_1.out.below bb)
    have TY1_2 := Lib.hid (TY0_2.out.below bb)
    clear e0_0 e0_1 e0_2 e0_3 e0_4 e1_0 e1_1 e1_2 e1_3 e1_4 e2_0 e2_1 e2_2 e2_3 e2_4
    clear bb M1 BY0 TY0_0 TY0_1 TY0_2
    have M20 := cmp_any U1 U2 xp1 xb1 xp2 xb2 xc1 xd1 xc2 xd2 y1 (C1.out.below BZ1.out) (C2.out.below BZ1.out) (HG.out.errs.below BY1.out) true true R1.out R2.out
    unfold verV at M20
    try simp only [Bool.and_self, Bool.and_true, Bool.true_and, Bool.and_false, Bool.false_and, Bool.false_eq_true, if_true, if_false] at M20
    generalize cmpV U1 U2 = gv2 at M20
    have M2 := Lib.hid M20
    clear M20
    obtain ⟨e0_0, e0_1, e0_2, e0_3, e0_4⟩ := cell5 TY1_0.out
    obtain ⟨e1_0, e1_1, e1_2, e1_3, e1_4⟩ := cell5 TY1_1.out
    obtain ⟨e2_0, e2_1, e2_2, e2_3, e2_4⟩ := cell5 TY1_2.out
    go_wp2_with fail
    refine M2.out.mono ?_
    rintro e y2 ⟨rfl, bb⟩
    have BY2 := Lib.hid (BY1.out.trans (bb.mono BY1.out.size))
    have BZ2 := Lib.hid (BZ1.out.trans (bb.mono BZ1.out.size))
    have TY2_0 := Lib.hid (TY1_0.out.below bb)
    have TY2_1 := Lib.hid (TY1_1.out.below bb)
    have TY2_2 := Lib.hid (TY1_2.out.below bb)
    clear e0_0 e0_1 e0_2 e0_3 e0_4 e1_0 e1_1 e1_2 e1_3 e1_4 e2_0 e2_1 e2_2 e2_3 e2_4
    clear bb M2 BY1 TY1_0 TY1_1 TY1_2
    have M30 := cmp_any U0 U2 xp0 xb0 xp2 xb2 xc0 xd0 xc2 xd2 y2 (C0.out.below BZ2.out) (C2.out.below BZ2.out) (HG.out.errs.below BY2.out) false true R0.out R2.out
    unfold verV at M30
    try simp only [Bool.and_self, Bool.and_true, Bool.true_and, Bool.and_false, Bool.false_and, Bool.false_eq_true, if_true, if_false] at M30
    have M3 := Lib.hid M30
    clear M30
    obtain ⟨e0_0, e0_1, e0_2, e0_3, e0_4⟩ := cell5 TY2_0.out
    obtain ⟨e1_0, e1_1, e1_2, e1_3, e1_4⟩ := cell5 TY2_1.out
    obtain ⟨e2_0, e2_1, e2_2, e2_3, e2_4⟩ := cell5 TY2_2.out
    go_wp2_with fail
    refine M3.out.mono ?_
    rintro e y3 ⟨rfl, bb⟩
    have BY3 := Lib.hid (BY2.out.trans (bb.mono BY2.out.size))
    have BZ3 := Lib.hid (BZ2.out.trans (bb.mono BZ2.out.size))
    have TY3_0 := Lib.hid (TY2_0.out.below bb)
    have TY3_1 := Lib.hid (TY2_1.out.below bb)
    have TY3_2 := Lib.hid (TY2_2.out.below bb)
    clear e0_0 e0_1 e0_2 e0_3 e0_4 e1_0 e1_1 e1_2 e1_3 e1_4 e2_0 e2_1 e2_2 e2_3 e2_4
    clear bb M3 BY2 TY2_0 TY2_1 TY2_2
    have HL := Lib.hid (alive_any y3 (HG.out.below BY3.out))
    go_wp2_with fail
    refine HL.out.mono ?_
    rintro e y9 ⟨rfl, bb⟩
    have BF := Lib.hid (BY3.out.trans (bb.mono BY3.out.size))
    clear bb
    go_wp2_with fail
    go_ret
    exact ⟨ret_bool (by first | rfl | decide), BF.out⟩
  · clear X1 X2 q0 q1 q2
    have BB0 := Lib.hid (Below.refl s2.heap.size s2)
    have M00 := cmp_any U0 U1 xp0 xb0 xp1 xb1 xc0 xd0 xc1 xd1 s2 (C0.out.below BB0.out) (C1.out.below BB0.out) (HG.out.errs.below BS.out) true false R0.out R1.out
    unfold verV at M00
    try simp only [Bool.and_self, Bool.and_true, Bool.true_and, Bool.and_false, Bool.false_and, Bool.false_eq_true, if_true, if_false] at M00
    have M0 := Lib.hid M00
    clear M00
    obtain ⟨e0_0, e0_1, e0_2, e0_3, e0_4⟩ := cell5 T0.out
    obtain ⟨e1_0, e1_1, e1_2, e1_3, e1_4⟩ := cell5 T1.out
    obtain ⟨e2_0, e2_1, e2_2, e2_3, e2_4⟩ := cell5 T2.out
    go_wp2_with fail
    refine M0.out.mono ?_
    rintro e y0 ⟨rfl, bb⟩
    have BY0 := Lib.hid (BS.out.trans (bb.mono BS.out.size))
    have BZ0 := Lib.hid (BB0.out.trans (bb.mono BB0.out.size))
    have TY0_0 := Lib.hid (T0.out.below bb)
    have TY0_1 := Lib.hid (T1.out.below bb)
    have TY0_2 := Lib.hid (T2.out.below bb)
    clear e0_0 e0_1 e0_2 e0_3 e0_4 e1_0 e1_1 e1_2 e1_3 e1_4 e2_0 e2_1 e2_2 e2_3 e2_4
    clear bb M0 BS T0 T1 T2
    have M10 := cmp_any U1 U0 xp1 xb1 xp0 xb0 xc1 xd1 xc0 xd0 y0 (C1.out.below BZ0.out) (C0.out.below BZ0.out) (HG.out.errs.below BY0.out) false true R1.out R0.out
    unfold verV at M10
    try simp only [Bool.and_self, Bool.and_true, Bool.true_and, Bool.and_false, Bool.false_and, Bool.false_eq_true, if_true, if_false] at M10
    have M1 := Lib.hid M10
    clear M10
    obtain ⟨e0_0, e0_1, e0_2, e0_3, e0_4⟩ := cell5 TY0_0.out
    obtain ⟨e1_0, e1_1, e1_2, e1_3, e1_4⟩ := cell5 TY0_1.out
    obtain ⟨e2_0, e2_1, e2_2, e2_3, e2_4⟩ := cell5 TY0_2.out
    go_wp2_with fail
    refine M1.out.mono ?_
    rintro e y1 ⟨rfl, bb⟩
    have BY1 := Lib.hid (BY0.out.trans (bb.mono BY0.out.size))
    have BZ1 := Lib.hid (BZ0.out.trans (bb.mono BZ0.out.size))
    have TY1_0 := Lib.hid (TY0_0.out.below bb)
    have TY1_1 := Lib.hid (TY0_1.out.below bb)
    have TY1_2 := Lib.hid (TY0_2.out.below bb)
    clear e0_0 e0_1 e0_2 e0_3 e0_4 e1_0 e1_1 e1_2 e1_3 e1_4 e2_0 e2_1 e2_2 e2_3 e2_4
    clear bb M1 BY0 TY0_0 TY0_1 TY0_2
    have M20 := cmp_any U1 U2 xp1 xb1 xp2 xb2 xc1 xd1 xc2 xd2 y1 (C1.out.below BZ1.out) (C2.out.below BZ1.out) (HG.out.errs.below BY1.out) false false R1.out R2.out
    unfold verV at M20
    try simp only [Bool.and_self, Bool.and_true, Bool.true_and, Bool.and_false, Bool.false_and, Bool.false_eq_true, if_true, if_false] at M20
    have M2 := Lib.hid M20
    clear M20
    obtain ⟨e0_0, e0_1, e0_2, e0_3, e0_4⟩ := cell5 TY1_0.out
    obtain ⟨e1_0, e1_1, e1_2, e1_3, e1_4⟩ := cell5 TY1_1.out
    obtain ⟨e2_0, e2_1, e2_2, e2_3, e2_4⟩ := cell5 TY1_2.out
    go_wp2_with fail
    refine M2.out.mono ?_
    rintro e y2 ⟨rfl, bb⟩
    have BY2 := Lib.hid (BY1.out.trans (bb.mono BY1.out.size))
    have BZ2 := Lib.hid (BZ1.out.trans (bb.mono BZ1.out.size))
    have TY2_0 := Lib.hid (TY1_0.out.below bb)
    have TY2_1 := Lib.hid (TY1_1.out.below bb)
    have TY2_2 := Lib.hid (TY1_2.out.below bb)
    clear e0_0 e0_1 e0_2 e0_3 e0_4 e1_0 e1_1 e1_2 e1_3 e1_4 e2_0 e2_1 e2_2 e2_3 e2_4
    clear bb M2 BY1 TY1_0 TY1_1 TY1_2
    have M30 := cmp_any U0 U2 xp0 xb0 xp2 xb2 xc0 xd0 xc2 xd2 y2 (C0.out.below BZ2.out) (C2.out.below BZ2.out) (HG.out.errs.below BY2.out) true false R0.out R2.out
    unfold verV at M30
    try simp only [Bool.and_self, Bool.and_true, Bool.true_and, Bool.and_false, Bool.false_and, Bool.false_eq_true, if_true, if_false] at M30
    have M3 := Lib.hid M30
    clear M30
    obtain ⟨e0_0, e0_1, e0_2, e0_3, e0_4⟩ := cell5 TY2_0.out
    obtain ⟨e1_0, e1_1, e1_2, e1_3, e1_4⟩ := cell5 TY2_1.out
    obtain ⟨e2_0, e2_1, e2_2, e2_3, e2_4⟩ := cell5 TY2_2.out
    go_wp2_with fail
    refine M3.out.mono ?_
    rintro e y3 ⟨rfl, bb⟩
    have BY3 := Lib.hid (BY2.out.trans (bb.mono BY2.out.size))
    have BZ3 := Lib.hid (BZ2.out.trans (bb.mono BZ2.out.size))
    have TY3_0 := Lib.hid (TY2_0.out.below bb)
    have TY3_1 := Lib.hid (TY2_1.out.below bb)
    have TY3_2 := Lib.hid (TY2_2.out.below bb)
    clear e0_0 e0_1 e0_2 e0_3 e0_4 e1_0 e1_1 e1_2 e1_3 e1_4 e2_0 e2_1 e2_2 e2_3 e2_4
    clear bb M3 BY2 TY2_0 TY2_1 TY2_2
    have HL := Lib.hid (alive_any y3 (HG.out.below BY3.out))
    go_wp2_with fail
    refine HL.out.mono ?_
    rintro e y9 ⟨rfl, bb⟩
    have BF := Lib.hid (BY3.out.trans (bb.mono BY3.out.size))
    clear bb
    go_wp2_with fail
    go_ret
    exact ⟨ret_bool (by first | rfl | decide), BF.out⟩
  · clear X1 X2 q0 q1 q2
    have BB0 := Lib.hid (Below.refl s2.heap.size s2)
    have M00 := cmp_any U0 U1 xp0 xb0 xp1 xb1 xc0 xd0 xc1 xd1 s2 (C0.out.below BB0.out) (C1.out.below BB0.out) (HG.out.errs.below BS.out) true false R0.out R1.out
    unfold verV at M00
    try simp only [Bool.and_self, Bool.and_true, Bool.true_and, Bool.and_false, Bool.false_and, Bool.false_eq_true, if_true, if_false] at M00
    have M0 := Lib.hid M00
    clear M00
    obtain ⟨e0_0, e0_1, e0_2, e0_3, e0_4⟩ := cell5 T0.out
    obtain ⟨e1_0, e1_1, e1_2, e1_3, e1_4⟩ := cell5 T1.out
    obtain ⟨e2_0, e2_1, e2_2, e2_3, e2_4⟩ := cell5 T2.out
    go_wp2_with fail
    refine M0.out.mono ?_
    rintro e y0 ⟨rfl, bb⟩
    have BY0 := Lib.hid (BS.out.trans (bb.mono BS.out.size))
    have BZ0 := Lib.hid (BB0.out.trans (bb.mono BB0.out.size))
    have TY0_0 := Lib.hid (T0.out.below bb)
    have TY0_1 := Lib.hid (T1.out.below bb)
    have TY0_2 := Lib.hid (T2.out.below bb)
    clear e0_0 e0_1 e0_2 e0_3 e0_4 e1_0 e1_1 e1_2 e1_3 e1_4 e2_0 e2_1 e2_2 e2_3 e2_4
    clear bb M0 BS T0 T1 T2
    have M10 := cmp_any U1 U0 xp1 xb1 xp0 xb0 xc1 xd1 xc0 xd0 y0 (C1.out.below BZ0.out) (C0.out.below BZ0.out) (HG.out.errs.below BY0.out) false true R1.out R0.out
    unfold verV at M10
    try simp only [Bool.and_self, Bool.and_true, Bool.true_and, Bool.and_false, Bool.false_and, Bool.false_eq_true, if_true, if_false] at M10
    have M1 := Lib.hid M10
    clear M10
    obtain ⟨e0_0, e0_1, e0_2, e0_3, e0_4⟩ := cell5 TY0_0.out
    obtain ⟨e1_0, e1_1, e1_2, e1_3, e1_4⟩ := cell5 TY0_1.out
    obtain ⟨e2_0, e2_1, e2_2, e2_3, e2_4⟩ := cell5 TY0_2.out
    go_wp2_with fail
    refine M1.out.mono ?_
    rintro e y1 ⟨rfl, bb⟩
    have BY1 := Lib.hid (BY0.out.trans (bb.mono BY0.out.size))
    have BZ1 := Lib.hid (BZ0.out.trans (bb.mono BZ0.out.size))
    have TY1_0 := Lib.hid (TY0_0.out.below bb)
    have TY1_1 := Lib.hid (TY0_1.out.below bb)
    have TY1_2 := Lib.hid (TY0_2.out.below bb)
    clear e0_0 e0_1 e0_2 e0_3 e0_4 e1_0 e1_1 e1_2 e1_3 e1_4 e2_0 e2_1 e2_2 e2_3 e2_4
    clear bb M1 BY0 TY0_0 TY0_1 TY0_2
    have M20 := cmp_any U1 U2 xp1 xb1 xp2 xb2 xc1 xd1 xc2 xd2 y1 (C1.out.below BZ1.out) (C2.out.below BZ1.out) (HG.out.errs.below BY1.out) false true R1.out R2.out
    unfold verV at M20
    try simp only [Bool.and_self, Bool.and_true, Bool.true_and, Bool.and_false, Bool.false_and, Bool.false_eq_true, if_true, if_false] at M20
    have M2 := Lib.hid M20
    clear M20
    obtain ⟨e0_0, e0_1, e0_2, e0_3, e0_4⟩ := cell5 TY1_0.out
    obtain ⟨e1_0, e1_1, e1_2, e1_3, e1_4⟩ := cell5 TY1_1.out
    obtain ⟨e2_0, e2_1, e2_2, e2_3, e2_4⟩ := cell5 TY1_2.out
    go_wp2_with fail
    refine M2.out.mono ?_
    rintro e y2 ⟨rfl, bb⟩
    have BY2 := Lib.hid (BY1.out.trans (bb.mono BY1.out.size))
    have BZ2 := Lib.hid (BZ1.out.trans (bb.mono BZ1.out.size))
    have TY2_0 := Lib.hid (TY1_0.out.below bb)
    have TY2_1 := Lib.hid (TY1_1.out.below bb)
    have TY2_2 := Lib.hid (TY1_2.out.below bb)
    clear e0_0 e0_1 e0_2 e0_3 e0_4 e1_0 e1_1 e1_2 e1_3 e1_4 e2_0 e2_1 e2_2 e2_3 e2_4
    clear bb M2 BY1 TY1_0 TY1_1 TY1_2
    have M30 := cmp_any U0 U2 xp0 xb0 xp2 xb2 xc0 xd0 xc2 xd2 y2 (C0.out.below BZ2.out) (C2.out.below BZ2.out) (HG.out.errs.below BY2.out) true true R0.out R2.out
    unfold verV at M30
    try simp only [Bool.and_self, Bool.and_true, Bool.true_and, Bool.and_false, Bool.false_and, Bool.false_eq_true, if_true, if_false] at M30
    generalize cmpV U0 U2 = gv3 at M30
    have M3 := Lib.hid M30
    clear M30
    obtain ⟨e0_0, e0_1, e0_2, e0_3, e0_4⟩ := cell5 TY2_0.out
    obtain ⟨e1_0, e1_1, e1_2, e1_3, e1_4⟩ := cell5 TY2_1.out
    obtain ⟨e2_0, e2_1, e2_2, e2_3, e2_4⟩ := cell5 TY2_2.out
    go_wp2_with fail
    refine M3.out.mono ?_
    rintro e y3 ⟨rfl, bb⟩
    have BY3 := Lib.hid (BY2.out.trans (bb.mono BY2.out.size))
    have BZ3 := Lib.hid (BZ2.out.trans (bb.mono BZ2.out.size))
    have TY3_0 := Lib.hid (TY2_0.out.below bb)
    have TY3_1 := Lib.hid (TY2_1.out.below bb)
    have TY3_2 := Lib.hid (TY2_2.out.below bb)
    clear e0_0 e0_1 e0_2 e0_3 e0_4 e1_0 e1_1 e1_2 e1_3 e1_4 e2_0 e2_1 e2_2 e2_3 e2_4
    clear bb M3 BY2 TY2_0 TY2_1 TY2_2
    have HL := Lib.hid (alive_any y3 (HG.out.below BY3.out))
    go_wp2_with fail
    refine HL.out.mono ?_
    rintro e y9 ⟨rfl, bb⟩
    have BF := Lib.hid (BY3.out.trans (bb.mono BY3.out.size))
    clear bb
    go_wp2_with fail
    go_ret
    exact ⟨ret_bool (by first | rfl | decide), BF.out⟩
  · have hx : cmpV U0 U1 = -1 ∨ cmpV U0 U1 = 0 ∨ cmpV U0 U1 = 1 := by omega
    rcases hx with hx | hx | hx
    · have X0 := Lib.hid hx
      have X1 := Lib.hid (show cmpV U1 U0 = 1 by omega)
      clear hx X2 q0 q1 q2
      have BB0 := Lib.hid (Below.refl s2.heap.size s2)
      have M00 := cmp_any U0 U1 xp0 xb0 xp1 xb1 xc0 xd0 xc1 xd1 s2 (C0.out.below BB0.out) (C1.out.below BB0.out) (HG.out.errs.below BS.out) true true R0.out R1.out
      unfold verV at M00
      try simp only [Bool.and_self, Bool.and_true, Bool.true_and, Bool.and_false, Bool.false_and, Bool.false_eq_true, if_true, if_false] at M00
      rw [X0.out] at M00
      have M0 := Lib.hid M00
      clear M00
      obtain ⟨e0_0, e0_1, e0_2, e0_3, e0_4⟩ := cell5 T0.out
      obtain ⟨e1_0, e1_1, e1_2, e1_3, e1_4⟩ := cell5 T1.out
      obtain ⟨e2_0, e2_1, e2_2, e2_3, e2_4⟩ := cell5 T2.out
      go_wp2_with fail
      refine M0.out.mono ?_
      rintro e y0 ⟨rfl, bb⟩
      have BY0 := Lib.hid (BS.out.trans (bb.mono BS.out.size))
      have BZ0 := Lib.hid (BB0.out.trans (bb.mono BB0.out.size))
      have TY0_0 := Lib.hid (T0.out.below bb)
      have TY0_1 := Lib.hid (T1.out.below bb)
      have TY0_2 := Lib.hid (T2.out.below bb)
      clear e0_0 e0_1 e0_2 e0_3 e0_4 e1_0 e1_1 e1_2 e1_3 e1_4 e2_0 e2_1 e2_2 e2_3 e2_4
      clear bb M0 BS T0 T1 T2
      have M10 := cmp_any U1 U0 xp1 xb1 xp0 xb0 xc1 xd1 xc0 xd0 y0 (C1.out.below BZ0.out) (C0.out.below BZ0.out) (HG.out.errs.below BY0.out) true true R1.out R0.out
      unfold verV at M10
      try simp only [Bool.and_self, Bool.and_true, Bool.true_and, Bool.and_false, Bool.false_and, Bool.false_eq_true, if_true, if_false] at M10
      rw [X1.out] at M10
      have M1 := Lib.hid M10
      clear M10
      obtain ⟨e0_0, e0_1, e0_2, e0_3, e0_4⟩ := cell5 TY0_0.out
      obtain ⟨e1_0, e1_1, e1_2, e1_3, e1_4⟩ := cell5 TY0_1.out
      obtain ⟨e2_0, e2_1, e2_2, e2_3, e2_4⟩ := cell5 TY0_2.out
      go_wp2_with fail
      refine M1.out.mono ?_
      rintro e y1 ⟨rfl, bb⟩
      have BY1 := Lib.hid (BY0.out.trans (bb.mono BY0.out.size))
      have BZ1 := Lib.hid (BZ0.out.trans (bb.mono BZ0.out.size))
      have TY1_0 := Lib.hid (TY0_0.out.below bb)
      have TY1_1 := Lib.hid (TY0_1.out.below bb)
      have TY1_2 := Lib.hid (TY0_2.out.below bb)
      clear e0_0 e0_1 e0_2 e0_3 e0_4 e1_0 e1_1 e1_2 e1_3 e1_4 e2_0 e2_1 e2_2 e2_3 e2_4
      clear bb M1 BY0 TY0_0 TY0_1 TY0_2
      have M20 := cmp_any U1 U2 xp1 xb1 xp2 xb2 xc1 xd1 xc2 xd2 y1 (C1.out.below BZ1.out) (C2.out.below BZ1.out) (HG.out.errs.below BY1.out) true false R1.out R2.out
      unfold verV at M20
      try simp only [Bool.and_self, Bool.and_true, Bool.true_and, Bool.and_false, Bool.false_and, Bool.false_eq_true, if_true, if_false] at M20
      have M2 := Lib.hid M20
      clear M20
      obtain ⟨e0_0, e0_1, e0_2, e0_3, e0_4⟩ := cell5 TY1_0.out
      obtain ⟨e1_0, e1_1, e1_2, e1_3, e1_4⟩ := cell5 TY1_1.out
      obtain ⟨e2_0, e2_1, e2_2, e2_3, e2_4⟩ := cell5 TY1_2.out
      go_wp2_with fail
      refine M2.out.mono ?_
      rintro e y2 ⟨rfl, bb⟩
      have BY2 := Lib.hid (BY1.out.trans (bb.mono BY1.out.size))
      have BZ2 := Lib.hid (BZ1.out.trans (bb.mono BZ1.out.size))
      have TY2_0 := Lib.hid (TY1_0.out.below bb)
      have TY2_1 := Lib.hid (TY1_1.out.below bb)
      have TY2_2 := Lib.hid (TY1_2.out.below bb)
      clear e0_0 e0_1 e0_2 e0_3 e0_4 e1_0 e1_1 e1_2 e1_3 e1_4 e2_0 e2_1 e2_2 e2_3 e2_4
      clear bb M2 BY1 TY1_0 TY1_1 TY1_2
      have M30 := cmp_any U0 U2 xp0 xb0 xp2 xb2 xc0 xd0 xc2 xd2 y2 (C0.out.below BZ2.out) (C2.out.below BZ2.out) (HG.out.errs.below BY2.out) true false R0.out R2.out
      unfold verV at M30
      try simp only [Bool.and_self, Bool.and_true, Bool.true_and, Bool.and_false, Bool.false_and, Bool.false_eq_true, if_true, if_false] at M30
      have M3 := Lib.hid M30
      clear M30
      obtain ⟨e0_0, e0_1, e0_2, e0_3, e0_4⟩ := cell5 TY2_0.out
      obtain ⟨e1_0, e1_1, e1_2, e1_3, e1_4⟩ := cell5 TY2_1.out
      obtain ⟨e2_0, e2_1, e2_2, e2_3, e2_4⟩ := cell5 TY2_2.out
      go_wp2_with fail
      refine M3.out.mono ?_
      rintro e y3 ⟨rfl, bb⟩
      have BY3 := Lib.hid (BY2.out.trans (bb.mono BY2.out.size))
      have BZ3 := Lib.hid (BZ2.out.trans (bb.mono BZ2.out.size))
      have TY3_0 := Lib.hid (TY2_0.out.below bb)
      have TY3_1 := Lib.hid (TY2_1.out.below bb)
      have TY3_2 := Lib.hid (TY2_2.out.below bb)
      clear e0_0 e0_1 e0_2 e0_3 e0_4 e1_0 e1_1 e1_2 e1_3 e1_4 e2_0 e2_1 e2_2 e2_3 e2_4
      clear bb M3 BY2 TY2_0 TY2_1 TY2_2
      have HL := Lib.hid (alive_any y3 (HG.out.below BY3.out))
      go_wp2_with fail
      refine HL.out.mono ?_
      rintro e y9 ⟨rfl, bb⟩
      have BF := Lib.hid (BY3.out.trans (bb.mono BY3.out.size))
      clear bb
      go_wp2_with fail
      go_ret
      exact ⟨ret_bool (by first | rfl | decide), BF.out⟩
    · have X0 := Lib.hid hx
      have X1 := Lib.hid (show cmpV U1 U0 = 0 by omega)
      clear hx X2 q0 q1 q2
      have BB0 := Lib.hid (Below.refl s2.heap.size s2)
      have M00 := cmp_any U0 U1 xp0 xb0 xp1 xb1 xc0 xd0 xc1 xd1 s2 (C0.out.below BB0.out) (C1.out.below BB0.out) (HG.out.errs.below BS.out) true true R0.out R1.out
      unfold verV at M00
      try simp only [Bool.and_self, Bool.and_true, Bool.true_and, Bool.and_false, Bool.false_and, Bool.false_eq_true, if_true, if_false] at M00
      rw [X0.out] at M00
      have M0 := Lib.hid M00
      clear M00
      obtain ⟨e0_0, e0_1, e0_2, e0_3, e0_4⟩ := cell5 T0.out
      obtain ⟨e1_0, e1_1, e1_2, e1_3, e1_4⟩ := cell5 T1.out
      obtain ⟨e2_0, e2_1, e2_2, e2_3, e2_4⟩ := cell5 T2.out
      go_wp2_with fail
      refine M0.out.mono ?_
      rintro e y0 ⟨rfl, bb⟩
      have BY0 := Lib.hid (BS.out.trans (bb.mono BS.out.size))
      have BZ0 := Lib.hid (BB0.out.trans (bb.mono BB0.out.size))
      have TY0_0 := Lib.hid (T0.out.below bb)
      have TY0_1 := Lib.hid (T1.out.below bb)
      have TY0_2 := Lib.hid (T2.out.below bb)
      clear e0_0 e0_1 e0_2 e0_3 e0_4 e1_0 e1_1 e1_2 e1_3 e1_4 e2_0 e2_1 e2_2 e2_3 e2_4
      clear bb M0 BS T0 T1 T2
      have M10 := cmp_any U1 U0 xp1 xb1 xp0 xb0 xc1 xd1 xc0 xd0 y0 (C1.out.below BZ0.out) (C0.out.below BZ0.out) (HG.out.errs.below BY0.out) true true R1.out R0.out
      unfold verV at M10
      try simp only [Bool.and_self, Bool.and_true, Bool.true_and, Bool.and_false, Bool.false_and, Bool.false_eq_true, if_true, if_false] at M10
      rw [X1.out] at M10
      have M1 := Lib.hid M10
      clear M10
      obtain ⟨e0_0, e0_1, e0_2, e0_3, e0_4⟩ := cell5 TY0_0.out
      obtain ⟨e1_0, e1_1, e1_2, e1_3, e1_4⟩ := cell5 TY0_1.out
      obtain ⟨e2_0, e2_1, e2_2, e2_3, e2_4⟩ := cell5 TY0_2.out
      go_wp2_with fail
      refine M1.out.mono ?_
      rintro e y1 ⟨rfl, bb⟩
      have BY1 := Lib.hid (BY0.out.trans (bb.mono BY0.out.size))
      have BZ1 := Lib.hid (BZ0.out.trans (bb.mono BZ0.out.size))
      have TY1_0 := Lib.hid (TY0_0.out.below bb)
      have TY1_1 := Lib.hid (TY0_1.out.below bb)
      have TY1_2 := Lib.hid (TY0_2.out.below bb)
      clear e0_0 e0_1 e0_2 e0_3 e0_4 e1_0 e1_1 e1_2 e1_3 e1_4 e2_0 e2_1 e2_2 e2_3 e2_4
      clear bb M1 BY0 TY0_0 TY0_1 TY0_2
      have M20 := cmp_any U1 U2 xp1 xb1 xp2 xb2 xc1 xd1 xc2 xd2 y1 (C1.out.below BZ1.out) (C2.out.below BZ1.out) (HG.out.errs.below BY1.out) true false R1.out R2.out
      unfold verV at M20
      try simp only [Bool.and_self, Bool.and_true, Bool.true_and, Bool.and_false, Bool.false_and, Bool.false_eq_true, if_true, if_false] at M20
      have M2 := Lib.hid M20
      clear M20
      obtain ⟨e0_0, e0_1, e0_2, e0_3, e0_4⟩ := cell5 TY1_0.out
      obtain ⟨e1_0, e1_1, e1_2, e1_3, e1_4⟩ := cell5 TY1_1.out
      obtain ⟨e2_0, e2_1, e2_2, e2_3, e2_4⟩ := cell5 TY1_2.out
      go_wp2_with fail
      refine M2.out.mono ?_
      rintro e y2 ⟨rfl, bb⟩
      have BY2 := Lib.hid (BY1.out.trans (bb.mono BY1.out.size))
      have BZ2 := Lib.hid (BZ1.out.trans (bb.mono BZ1.out.size))
      have TY2_0 := Lib.hid (TY1_0.out.below bb)
      have TY2_1 := Lib.hid (TY1_1.out.below bb)
      have TY2_2 := Lib.hid (TY1_2.out.below bb)
      clear e0_0 e0_1 e0_2 e0_3 e0_4 e1_0 e1_1 e1_2 e1_3 e1_4 e2_0 e2_1 e2_2 e2_3 e2_4
      clear bb M2 BY1 TY1_0 TY1_1 TY1_2
      have M30 := cmp_any U0 U2 xp0 xb0 xp2 xb2 xc0 xd0 xc2 xd2 y2 (C0.out.below BZ2.out) (C2.out.below BZ2.out) (HG.out.errs.below BY2.out) true false R0.out R2.out
      unfold verV at M30
      try simp only [Bool.and_self, Bool.and_true, Bool.true_and, Bool.and_false, Bool.false_and, Bool.false_eq_true, if_true, if_false] at M30
      have M3 := Lib.hid M30
      clear M30
      obtain ⟨e0_0, e0_1, e0_2, e0_3, e0_4⟩ := cell5 TY2_0.out
      obtain ⟨e1_0, e1_1, e1_2, e1_3, e1_4⟩ := cell5 TY2_1.out
      obtain ⟨e2_0, e2_1, e2_2, e2_3, e2_4⟩ := cell5 TY2_2.out
      go_wp2_with fail
      refine M3.out.mono ?_
      rintro e y3 ⟨rfl, bb⟩
      have BY3 := Lib.hid (BY2.out.trans (bb.mono BY2.out.size))
      have BZ3 := Lib.hid (BZ2.out.trans (bb.mono BZ2.out.size))
      have TY3_0 := Lib.hid (TY2_0.out.below bb)
      have TY3_1 := Lib.hid (TY2_1.out.below bb)
      have TY3_2 := Lib.hid (TY2_2.out.below bb)
      clear e0_0 e0_1 e0_2 e0_3 e0_4 e1_0 e1_1 e1_2 e1_3 e1_4 e2_0 e2_1 e2_2 e2_3 e2_4
      clear bb M3 BY2 TY2_0 TY2_1 TY2_2
      have HL := Lib.hid (alive_any y3 (HG.out.below BY3.out))
      go_wp2_with fail
      refine HL.out.mono ?_
      rintro e y9 ⟨rfl, bb⟩
      have BF := Lib.hid (BY3.out.trans (bb.mono BY3.out.size))
      clear bb
      go_wp2_with fail
      go_ret
      exact ⟨ret_bool (by first | rfl | decide), BF.out⟩
    · have X0 := Lib.hid hx
      have X1 := Lib.hid (show cmpV U1 U0 = -1 by omega)
      clear hx X2 q0 q1 q2
      have BB0 := Lib.hid (Below.refl s2.heap.size s2)
      have M00 := cmp_any U0 U1 xp0 xb0 xp1 xb1 xc0 xd0 xc1 xd1 s2 (C0.out.below BB0.out) (C1.out.below BB0.out) (HG.out.errs.below BS.out) true true R0.out R1.out
      unfold verV at M00
      try simp only [Bool.and_self, Bool.and_true, Bool.true_and, Bool.and_false, Bool.false_and, Bool.false_eq_true, if_true, if_false] at M00
      rw [X0.out] at M00
      have M0 := Lib.hid M00
      clear M00
      obtain ⟨e0_0, e0_1, e0_2, e0_3, e0_4⟩ := cell5 T0.out
      obtain ⟨e1_0, e1_1, e1_2, e1_3, e1_4⟩ := cell5 T1.out
      obtain ⟨e2_0, e2_1, e2_2, e2_3, e2_4⟩ := cell5 T2.out
      go_wp2_with fail
      refine M0.out.mono ?_
      rintro e y0 ⟨rfl, bb⟩
      have BY0 := Lib.hid (BS.out.trans (bb.mono BS.out.size))
      have BZ0 := Lib.hid (BB0.out.trans (bb.mono BB0.out.size))
      have TY0_0 := Lib.hid (T0.out.below bb)
      have TY0_1 := Lib.hid (T1.out.below bb)
      have TY0_2 := Lib.hid (T2.out.below bb)
      clear e0_0 e0_1 e0_2 e0_3 e0_4 e1_0 e1_1 e1_2 e1_3 e1_4 e2_0 e2_1 e2_2 e2_3 e2_4
      clear bb M0 BS T0 T1 T2
      have M10 := cmp_any U1 U0 xp1 xb1 xp0 xb0 xc1 xd1 xc0 xd0 y0 (C1.out.below BZ0.out) (C0.out.below BZ0.out) (HG.out.errs.below BY0.out) true true R1.out R0.out
      unfold verV at M10
      try simp only [Bool.and_self, Bool.and_true, Bool.true_and, Bool.and_false, Bool.false_and, Bool.false_eq_true, if_true, if_false] at M10
      rw [X1.out] at M10
      have M1 := Lib.hid M10
      clear M10
      obtain ⟨e0_0, e0_1, e0_2, e0_3, e0_4⟩ := cell5 TY0_0.out
      obtain ⟨e1_0, e1_1, e1_2, e1_3, e1_4⟩ := cell5 TY0_1.out
      obtain ⟨e2_0, e2_1, e2_2, e2_3, e2_4⟩ := cell5 TY0_2.out
      go_wp2_with fail
      refine M1.out.mono ?_
      rintro e y1 ⟨rfl, bb⟩
      have BY1 := Lib.hid (BY0.out.trans (bb.mono BY0.out.size))
      have BZ1 := Lib.hid (BZ0.out.trans (bb.mono BZ0.out.size))
      have TY1_0 := Lib.hid (TY0_0.out.below bb)
      have TY1_1 := Lib.hid (TY0_1.out.below bb)
      have TY1_2 := Lib.hid (TY0_2.out.below bb)
      clear e0_0 e0_1 e0_2 e0_3 e0_4 e1_0 e1_1 e1_2 e1_3 e1_4 e2_0 e2_1 e2_2 e2_3 e2_4
      clear bb M1 BY0 TY0_0 TY0_1 TY0_2
      have M20 := cmp_any U1 U2 xp1 xb1 xp2 xb2 xc1 xd1 xc2 xd2 y1 (C1.out.below BZ1.out) (C2.out.below BZ1.out) (HG.out.errs.below BY1.out) true false R1.out R2.out
      unfold verV at M20
      try simp only [Bool.and_self, Bool.and_true, Bool.true_and, Bool.and_false, Bool.false_and, Bool.false_eq_true, if_true, if_false] at M20
      have M2 := Lib.hid M20
      clear M20
      obtain ⟨e0_0, e0_1, e0_2, e0_3, e0_4⟩ := cell5 TY1_0.out
      obtain ⟨e1_0, e1_1, e1_2, e1_3, e1_4⟩ := cell5 TY1_1.out
      obtain ⟨e2_0, e2_1, e2_2, e2_3, e2_4⟩ := cell5 TY1_2.out
      go_wp2_with fail
      refine M2.out.mono ?_
      rintro e y2 ⟨rfl, bb⟩
      have BY2 := Lib.hid (BY1.out.trans (bb.mono BY1.out.size))
      have BZ2 := Lib.hid (BZ1.out.trans (bb.mono BZ1.out.size))
      have TY2_0 := Lib.hid (TY1_0.out.below bb)
      have TY2_1 := Lib.hid (TY1_1.out.below bb)
      have TY2_2 := Lib.hid (TY1_2.out.below bb)
      clear e0_0 e0_1 e0_2 e0_3 e0_4 e1_0 e1_1 e1_2 e1_3 e1_4 e2_0 e2_1 e2_2 e2_3 e2_4
      clear bb M2 BY1 TY1_0 TY1_1 TY1_2
      have M30 := cmp_any U0 U2 xp0 xb0 xp2 xb2 xc0 xd0 xc2 xd2 y2 (C0.out.below BZ2.out) (C2.out.below BZ2.out) (HG.out.errs.below BY2.out) true false R0.out R2.out
      unfold verV at M30
      try simp only [Bool.and_self, Bool.and_true, Bool.true_and, Bool.and_false, Bool.false_and, Bool.false_eq_true, if_true, if_false] at M30
      have M3 := Lib.hid M30
      clear M30
      obtain ⟨e0_0, e0_1, e0_2, e0_3, e0_4⟩ := cell5 TY2_0.out
      obtain ⟨e1_0, e1_1, e1_2, e1_3, e1_4⟩ := cell5 TY2_1.out
      obtain ⟨e2_0, e2_1, e2_2, e2_3, e2_4⟩ := cell5 TY2_2.out
      go_wp2_with fail
      refine M3.out.mono ?_
      rintro e y3 ⟨rfl, bb⟩
      have BY3 := Lib.hid (BY2.out.trans (bb.mono BY2.out.size))
      have BZ3 := Lib.hid (BZ2.out.trans (bb.mono BZ2.out.size))
      have TY3_0 := Lib.hid (TY2_0.out.below bb)
      have TY3_1 := Lib.hid (TY2_1.out.below bb)
      have TY3_2 := Lib.hid (TY2_2.out.below bb)
      clear e0_0 e0_1 e0_2 e0_3 e0_4 e1_0 e1_1 e1_2 e1_3 e1_4 e2_0 e2_1 e2_2 e2_3 e2_4
      clear bb M3 BY2 TY2_0 TY2_1 TY2_2
      have HL := Lib.hid (alive_any y3 (HG.out.below BY3.out))
      go_wp2_with fail
      refine HL.out.mono ?_
      rintro e y9 ⟨rfl, bb⟩
      have BF := Lib.hid (BY3.out.trans (bb.mono BY3.out.size))
      clear bb
      go_wp2_with fail
      go_ret
      exact ⟨ret_bool (by first | rfl | decide), BF.out⟩
  · have hx : cmpV U0 U1 = -1 ∨ cmpV U0 U1 = 0 ∨ cmpV U0 U1 = 1 := by omega
    rcases hx with hx | hx | hx
    · have X0 := Lib.hid hx
      have X1 := Lib.hid (show cmpV U1 U0 = 1 by omega)
      have hz : cmpV U1 U2 = -1 ∨ cmpV U1 U2 = 0 ∨ cmpV U1 U2 = 1 := by omega
      rcases hz with hz | hz | hz
      · have X3 := Lib.hid (show cmpV U0 U2 = -1 by have := X2 (by omega) (by omega); omega)
        have X2 := Lib.hid hz
        clear hx hz q0 q1 q2
        have BB0 := Lib.hid (Below.refl s2.heap.size s2)
        have M00 := cmp_any U0 U1 xp0 xb0 xp1 xb1 xc0 xd0 xc1 xd1 s2 (C0.out.below BB0.out) (C1.out.below BB0.out) (HG.out.errs.below BS.out) true true R0.out R1.out
        unfold verV at M00
        try simp only [Bool.and_self, Bool.and_true, Bool.true_and, Bool.and_false, Bool.false_and, Bool.false_eq_true, if_true, if_false] at M00
        rw [X0.out] at M00
        have M0 := Lib.hid M00
        clear M00
        obtain ⟨e0_0, e0_1, e0_2, e0_3, e0_4⟩ := cell5 T0.out
        obtain ⟨e1_0, e1_1, e1_2, e1_3, e1_4⟩ := cell5 T1.out
        obtain ⟨e2_0, e2_1, e2_2, e2_3, e2_4⟩ := cell5 T2.out
        go_wp2_with fail
        refine M0.out.mono ?_
        rintro e y0 ⟨rfl, bb⟩
        have BY0 := Lib.hid (BS.out.trans (bb.mono BS.out.size))
        have BZ0 := Lib.hid (BB0.out.trans (bb.mono BB0.out.size))
        have TY0_0 := Lib.hid (T0.out.below bb)
        have TY0_1 := Lib.hid (T1.out.below bb)
        have TY0_2 := Lib.hid (T2.out.below bb)
        clear e0_0 e0_1 e0_2 e0_3 e0_4 e1_0 e1_1 e1_2 e1_3 e1_4 e2_0 e2_1 e2_2 e2_3 e2_4
        clear bb M0 BS T0 T1 T2
        have M10 := cmp_any U1 U0 xp1 xb1 xp0 xb0 xc1 xd1 xc0 xd0 y0 (C1.out.below BZ0.out) (C0.out.below BZ0.out) (HG.out.errs.below BY0.out) true true R1.out R0.out
        unfold verV at M10
        try simp only [Bool.and_self, Bool.and_true, Bool.true_and, Bool.and_false, Bool.false_and, Bool.false_eq_true, if_true, if_false] at M10
        rw [X1.out] at M10
        have M1 := Lib.hid M10
        clear M10
        obtain ⟨e0_0, e0_1, e0_2, e0_3, e0_4⟩ := cell5 TY0_0.out
        obtain ⟨e1_0, e1_1, e1_2, e1_3, e1_4⟩ := cell5 TY0_1.out
        obtain ⟨e2_0, e2_1, e2_2, e2_3, e2_4⟩ := cell5 TY0_2.out
        go_wp2_with fail
        refine M1.out.mono ?_
        rintro e y1 ⟨rfl, bb⟩
        have BY1 := Lib.hid (BY0.out.trans (bb.mono BY0.out.size))
        have BZ1 := Lib.hid (BZ0.out.trans (bb.mono BZ0.out.size))
        have TY1_0 := Lib.hid (TY0_0.out.below bb)
        have TY1_1 := Lib.hid (TY0_1.out.below bb)
        have TY1_2 := Lib.hid (TY0_2.out.below bb)
        clear e0_0 e0_1 e0_2 e0_3 e0_4 e1_0 e1_1 e1_2 e1_3 e1_4 e2_0 e2_1 e2_2 e2_3 e2_4
        clear bb M1 BY0 TY0_0 TY0_1 TY0_2
        have M20 := cmp_any U1 U2 xp1 xb1 xp2 xb2 xc1 xd1 xc2 xd2 y1 (C1.out.below BZ1.out) (C2.out.below BZ1.out) (HG.out.errs.below BY1.out) true true R1.out R2.out
        unfold verV at M20
        try simp only [Bool.and_self, Bool.and_true, Bool.true_and, Bool.and_false, Bool.false_and, Bool.false_eq_true, if_true, if_false] at M20
        rw [X2.out] at M20
        have M2 := Lib.hid M20
        clear M20
        obtain ⟨e0_0, e0_1, e0_2, e0_3, e0_4⟩ := cell5 TY1_0.out
        obtain ⟨e1_0, e1_1, e1_2, e1_3, e1_4⟩ := cell5 TY1_1.out
        obtain ⟨e2_0, e2_1, e2_2, e2_3, e2_4⟩ := cell5 TY1_2.out
        go_wp2_with fail
        refine M2.out.mono ?_
        rintro e y2 ⟨rfl, bb⟩
        have BY2 := Lib.hid (BY1.out.trans (bb.mono BY1.out.size))
        have BZ2 := Lib.hid (BZ1.out.trans (bb.mono BZ1.out.size))
        have TY2_0 := Lib.hid (TY1_0.out.below bb)
        have TY2_1 := Lib.hid (TY1_1.out.below bb)
        have TY2_2 := Lib.hid (TY1_2.out.below bb)
        clear e0_0 e0_1 e0_2 e0_3 e0_4 e1_0 e1_1 e1_2 e1_3 e1_4 e2_0 e2_1 e2_2 e2_3 e2_4
        clear bb M2 BY1 TY1_0 TY1_1 TY1_2
        have M30 := cmp_any U0 U2 xp0 xb0 xp2 xb2 xc0 xd0 xc2 xd2 y2 (C0.out.below BZ2.out) (C2.out.below BZ2.out) (HG.out.errs.below BY2.out) true true R0.out R2.out
        unfold verV at M30
        try simp only [Bool.and_self, Bool.and_true, Bool.true_and, Bool.and_false, Bool.false_and, Bool.false_eq_true, if_true, if_false] at M30
        rw [X3.out] at M30
        have M3 := Lib.hid M30
        clear M30
        obtain ⟨e0_0, e0_1, e0_2, e0_3, e0_4⟩ := cell5 TY2_0.out
        obtain ⟨e1_0, e1_1, e1_2, e1_3, e1_4⟩ := cell5 TY2_1.out
        obtain ⟨e2_0, e2_1, e2_2, e2_3, e2_4⟩ := cell5 TY2_2.out
        go_wp2_with fail
        refine M3.out.mono ?_
        rintro e y3 ⟨rfl, bb⟩
        have BY3 := Lib.hid (BY2.out.trans (bb.mono BY2.out.size))
        have BZ3 := Lib.hid (BZ2.out.trans (bb.mono BZ2.out.size))
        have TY3_0 := Lib.hid (TY2_0.out.below bb)
        have TY3_1 := Lib.hid (TY2_1.out.below bb)
        have TY3_2 := Lib.hid (TY2_2.out.below bb)
        clear e0_0 e0_1 e0_2 e0_3 e0_4 e1_0 e1_1 e1_2 e1_3 e1_4 e2_0 e2_1 e2_2 e2_3 e2_4
        clear bb M3 BY2 TY2_0 TY2_1 TY2_2
        have HL := Lib.hid (alive_any y3 (HG.out.below BY3.out))
        go_wp2_with fail
        refine HL.out.mono ?_
        rintro e y9 ⟨rfl, bb⟩
        have BF := Lib.hid (BY3.out.trans (bb.mono BY3.out.size))
        clear bb
        go_wp2_with fail
        go_ret
        exact ⟨ret_bool (by first | rfl | decide), BF.out⟩
      · have X3 := Lib.hid (show cmpV U0 U2 = -1 by have := X2 (by omega) (by omega); omega)
        have X2 := Lib.hid hz
        clear hx hz q0 q1 q2
        have BB0 := Lib.hid (Below.refl s2.heap.size s2)
        have M00 := cmp_any U0 U1 xp0 xb0 xp1 xb1 xc0 xd0 xc1 xd1 s2 (C0.out.below BB0.out) (C1.out.below BB0.out) (HG.out.errs.below BS.out) true true R0.out R1.out
        unfold verV at M00
        try simp only [Bool.and_self, Bool.and_true, Bool.true_and, Bool.and_false, Bool.false_and, Bool.false_eq_true, if_true, if_false] at M00
        rw [X0.out] at M00
        have M0 := Lib.hid M00
        clear M00
        obtain ⟨e0_0, e0_1, e0_2, e0_3, e0_4⟩ := cell5 T0.out
        obtain ⟨e1_0, e1_1, e1_2, e1_3, e1_4⟩ := cell5 T1.out
        obtain ⟨e2_0, e2_1, e2_2, e2_3, e2_4⟩ := cell5 T2.out
        go_wp2_with fail
        refine M0.out.mono ?_
        rintro e y0 ⟨rfl, bb⟩
        have BY0 := Lib.hid (BS.out.trans (bb.mono BS.out.size))
        have BZ0 := Lib.hid (BB0.out.trans (bb.mono BB0.out.size))
        have TY0_0 := Lib.hid (T0.out.below bb)
        have TY0_1 := Lib.hid (T1.out.below bb)
        have TY0_2 := Lib.hid (T2.out.below bb)
        clear e0_0 e0_1 e0_2 e0_3 e0_4 e1_0 e1_1 e1_2 e1_3 e1_4 e2_0 e2_1 e2_2 e2_3 e2_4
        clear bb M0 BS T0 T1 T2
        have M10 := cmp_any U1 U0 xp1 xb1 xp0 xb0 xc1 xd1 xc0 xd0 y0 (C1.out.below BZ0.out) (C0.out.below BZ0.out) (HG.out.errs.below BY0.out) true true R1.out R0.out
        unfold verV at M10
        try simp only [Bool.and_self, Bool.and_true, Bool.true_and, Bool.and_false, Bool.false_and, Bool.false_eq_true, if_true, if_false] at M10
        rw [X1.out] at M10
        have M1 := Lib.hid M10
        clear M10
        obtain ⟨e0_0, e0_1, e0_2, e0_3, e0_4⟩ := cell5 TY0_0.out
        obtain ⟨e1_0, e1_1, e1_2, e1_3, e1_4⟩ := cell5 TY0_1.out
        obtain ⟨e2_0, e2_1, e2_2, e2_3, e2_4⟩ := cell5 TY0_2.out
        go_wp2_with fail
        refine M1.out.mono ?_
        rintro e y1 ⟨rfl, bb⟩
        have BY1 := Lib.hid (BY0.out.trans (bb.mono BY0.out.size))
        have BZ1 := Lib.hid (BZ0.out.trans (bb.mono BZ0.out.size))
        have TY1_0 := Lib.hid (TY0_0.out.below bb)
        have TY1_1 := Lib.hid (TY0_1.out.below bb)
        have TY1_2 := Lib.hid (TY0_2.out.below bb)
        clear e0_0 e0_1 e0_2 e0_3 e0_4 e1_0 e1_1 e1_2 e1_3 e1_4 e2_0 e2_1 e2_2 e2_3 e2_4
        clear bb M1 BY0 TY0_0 TY0_1 TY0_2
        have M20 := cmp_any U1 U2 xp1 xb1 xp2 xb2 xc1 xd1 xc2 xd2 y1 (C1.out.below BZ1.out) (C2.out.below BZ1.out) (HG.out.errs.below BY1.out) true true R1.out R2.out
        unfold verV at M20
        try simp only [Bool.and_self, Bool.and_true, Bool.true_and, Bool.and_false, Bool.false_and, Bool.false_eq_true, if_true, if_false] at M20
        rw [X2.out] at M20
        have M2 := Lib.hid M20
        clear M20
        obtain ⟨e0_0, e0_1, e0_2, e0_3, e0_4⟩ := cell5 TY1_0.out
        obtain ⟨e1_0, e1_1, e1_2, e1_3, e1_4⟩ := cell5 TY1_1.out
        obtain ⟨e2_0, e2_1, e2_2, e2_3, e2_4⟩ := cell5 TY1_2.out
        go_wp2_with fail
        refine M2.out.mono ?_
        rintro e y2 ⟨rfl, bb⟩
        have BY2 := Lib.hid (BY1.out.trans (bb.mono BY1.out.size))
        have BZ2 := Lib.hid (BZ1.out.trans (bb.mono BZ1.out.size))
        have TY2_0 := Lib.hid (TY1_0.out.below bb)
        have TY2_1 := Lib.hid (TY1_1.out.below bb)
        have TY2_2 := Lib.hid (TY1_2.out.below bb)
        clear e0_0 e0_1 e0_2 e0_3 e0_4 e1_0 e1_1 e1_2 e1_3 e1_4 e2_0 e2_1 e2_2 e2_3 e2_4
        clear bb M2 BY1 TY1_0 TY1_1 TY1_2
        have M30 := cmp_any U0 U2 xp0 xb0 xp2 xb2 xc0 xd0 xc2 xd2 y2 (C0.out.below BZ2.out) (C2.out.below BZ2.out) (HG.out.errs.below BY2.out) true true R0.out R2.out
        unfold verV at M30
        try simp only [Bool.and_self, Bool.and_true, Bool.true_and, Bool.and_false, Bool.false_and, Bool.false_eq_true, if_true, if_false] at M30
        rw [X3.out] at M30
        have M3 := Lib.hid M30
        clear M30
        obtain ⟨e0_0, e0_1, e0_2, e0_3, e0_4⟩ := cell5 TY2_0.out
        obtain ⟨e1_0, e1_1, e1_2, e1_3, e1_4⟩ := cell5 TY2_1.out
        obtain ⟨e2_0, e2_1, e2_2, e2_3, e2_4⟩ := cell5 TY2_2.out
        go_wp2_with fail
        refine M3.out.mono ?_
        rintro e y3 ⟨rfl, bb⟩
        have BY3 := Lib.hid (BY2.out.trans (bb.mono BY2.out.size))
        have BZ3 := Lib.hid (BZ2.out.trans (bb.mono BZ2.out.size))
        have TY3_0 := Lib.hid (TY2_0.out.below bb)
        have TY3_1 := Lib.hid (TY2_1.out.below bb)
        have TY3_2 := Lib.hid (TY2_2.out.below bb)
        clear e0_0 e0_1 e0_2 e0_3 e0_4 e1_0 e1_1 e1_2 e1_3 e1_4 e2_0 e2_1 e2_2 e2_3 e2_4
        clear bb M3 BY2 TY2_0 TY2_1 TY2_2
        have HL := Lib.hid (alive_any y3 (HG.out.below BY3.out))
        go_wp2_with fail
        refine HL.out.mono ?_
        rintro e y9 ⟨rfl, bb⟩
        have BF := Lib.hid (BY3.out.trans (bb.mono BY3.out.size))
        clear bb
        go_wp2_with fail
        go_ret
        exact ⟨ret_bool (by first | rfl | decide), BF.out⟩
      · have X2 := Lib.hid hz
        clear hx hz q0 q1 q2
        have BB0 := Lib.hid (Below.refl s2.heap.size s2)
        have M00 := cmp_any U0 U1 xp0 xb0 xp1 xb1 xc0 xd0 xc1 xd1 s2 (C0.out.below BB0.out) (C1.out.below BB0.out) (HG.out.errs.below BS.out) true true R0.out R1.out
        unfold verV at M00
        try simp only [Bool.and_self, Bool.and_true, Bool.true_and, Bool.and_false, Bool.false_and, Bool.false_eq_true, if_true, if_false] at M00
        rw [X0.out] at M00
        have M0 := Lib.hid M00
        clear M00
        obtain ⟨e0_0, e0_1, e0_2, e0_3, e0_4⟩ := cell5 T0.out
        obtain ⟨e1_0, e1_1, e1_2, e1_3, e1_4⟩ := cell5 T1.out
        obtain ⟨e2_0, e2_1, e2_2, e2_3, e2_4⟩ := cell5 T2.out
        go_wp2_with fail
        refine M0.out.mono ?_
        rintro e y0 ⟨rfl, bb⟩
        have BY0 := Lib.hid (BS.out.trans (bb.mono BS.out.size))
        have BZ0 := Lib.hid (BB0.out.trans (bb.mono BB0.out.size))
        have TY0_0 := Lib.hid (T0.out.below bb)
        have TY0_1 := Lib.hid (T1.out.below bb)
        have TY0_2 := Lib.hid (T2.out.below bb)
        clear e0_0 e0_1 e0_2 e0_3 e0_4 e1_0 e1_1 e1_2 e1_3 e1_4 e2_0 e2_1 e2_2 e2_3 e2_4
        clear bb M0 BS T0 T1 T2
        have M10 := cmp_any U1 U0 xp1 xb1 xp0 xb0 xc1 xd1 xc0 xd0 y0 (C1.out.below BZ0.out) (C0.out.below BZ0.out) (HG.out.errs.below BY0.out) true true R1.out R0.out
        unfold verV at M10
        try simp only [Bool.and_self, Bool.and_true, Bool.true_and, Bool.and_false, Bool.false_and, Bool.false_eq_true, if_true, if_false] at M10
        rw [X1.out] at M10
        have M1 := Lib.hid M10
        clear M10
        obtain ⟨e0_0, e0_1, e0_2, e0_3, e0_4⟩ := cell5 TY0_0.out
        obtain ⟨e1_0, e1_1, e1_2, e1_3, e1_4⟩ := cell5 TY0_1.out
        obtain ⟨e2_0, e2_1, e2_2, e2_3, e2_4⟩ := cell5 TY0_2.out
        go_wp2_with fail
        refine M1.out.mono ?_
        rintro e y1 ⟨rfl, bb⟩
        have BY1 := Lib.hid (BY0.out.trans (bb.mono BY0.out.size))
        have BZ1 := Lib.hid (BZ0.out.trans (bb.mono BZ0.out.size))
        have TY1_0 := Lib.hid (TY0_0.out.below bb)
        have TY1_1 := Lib.hid (TY0_1.out.below bb)
        have TY1_2 := Lib.hid (TY0_2.out.below bb)
        clear e0_0 e0_1 e0_2 e0_3 e0_4 e1_0 e1_1 e1_2 e1_3 e1_4 e2_0 e2_1 e2_2 e2_3 e2_4
        clear bb M1 BY0 TY0_0 TY0_1 TY0_2
        have M20 := cmp_any U1 U2 xp1 xb1 xp2 xb2 xc1 xd1 xc2 xd2 y1 (C1.out.below BZ1.out) (C2.out.below BZ1.out) (HG.out.errs.below BY1.out) true true R1.out R2.out
        unfold verV at M20
        try simp only [Bool.and_self, Bool.and_true, Bool.true_and, Bool.and_false, Bool.false_and, Bool.false_eq_true, if_true, if_false] at M20
        rw [X2.out] at M20
        have M2 := Lib.hid M20
        clear M20
        obtain ⟨e0_0, e0_1, e0_2, e0_3, e0_4⟩ := cell5 TY1_0.out
        obtain ⟨e1_0, e1_1, e1_2, e1_3, e1_4⟩ := cell5 TY1_1.out
        obtain ⟨e2_0, e2_1, e2_2, e2_3, e2_4⟩ := cell5 TY1_2.out
        go_wp2_with fail
        refine M2.out.mono ?_
        rintro e y2 ⟨rfl, bb⟩
        have BY2 := Lib.hid (BY1.out.trans (bb.mono BY1.out.size))
        have BZ2 := Lib.hid (BZ1.out.trans (bb.mono BZ1.out.size))
        have TY2_0 := Lib.hid (TY1_0.out.below bb)
        have TY2_1 := Lib.hid (TY1_1.out.below bb)
        have TY2_2 := Lib.hid (TY1_2.out.below bb)
        clear e0_0 e0_1 e0_2 e0_3 e0_4 e1_0 e1_1 e1_2 e1_3 e1_4 e2_0 e2_1 e2_2 e2_3 e2_4
        clear bb M2 BY1 TY1_0 TY1_1 TY1_2
        have M30 := cmp_any U0 U2 xp0 xb0 xp2 xb2 xc0 xd0 xc2 xd2 y2 (C0.out.below BZ2.out) (C2.out.below BZ2.out) (HG.out.errs.below BY2.out) true true R0.out R2.out
        unfold verV at M30
        try simp only [Bool.and_self, Bool.and_true, Bool.true_and, Bool.and_false, Bool.false_and, Bool.false_eq_true, if_true, if_false] at M30
        generalize cmpV U0 U2 = gv3 at M30
        have M3 := Lib.hid M30
        clear M30
        obtain ⟨e0_0, e0_1, e0_2, e0_3, e0_4⟩ := cell5 TY2_0.out
        obtain ⟨e1_0, e1_1, e1_2, e1_3, e1_4⟩ := cell5 TY2_1.out
        obtain ⟨e2_0, e2_1, e2_2, e2_3, e2_4⟩ := cell5 TY2_2.out
        go_wp2_with fail
        refine M3.out.mono ?_
        rintro e y3 ⟨rfl, bb⟩
        have BY3 := Lib.hid (BY2.out.trans (bb.mono BY2.out.size))
        have BZ3 := Lib.hid (BZ2.out.trans (bb.mono BZ2.out.size))
        have TY3_0 := Lib.hid (TY2_0.out.below bb)
        have TY3_1 := Lib.hid (TY2_1.out.below bb)
        have TY3_2 := Lib.hid (TY2_2.out.below bb)
        clear e0_0 e0_1 e0_2 e0_3 e0_4 e1_0 e1_1 e1_2 e1_3 e1_4 e2_0 e2_1 e2_2 e2_3 e2_4
        clear bb M3 BY2 TY2_0 TY2_1 TY2_2
        have HL := Lib.hid (alive_any y3 (HG.out.below BY3.out))
        go_wp2_with fail
        refine HL.out.mono ?_
        rintro e y9 ⟨rfl, bb⟩
        have BF := Lib.hid (BY3.out.trans (bb.mono BY3.out.size))
        clear bb
        go_wp2_with fail
        go_ret
        exact ⟨ret_bool (by first | rfl | decide), BF.out⟩
    · have X0 := Lib.hid hx
      have X1 := Lib.hid (show cmpV U1 U0 = 0 by omega)
      have hz : cmpV U1 U2 = -1 ∨ cmpV U1 U2 = 0 ∨ cmpV U1 U2 = 1 := by omega
      rcases hz with hz | hz | hz
      · have X3 := Lib.hid (show cmpV U0 U2 = -1 by have := X2 (by omega) (by omega); omega)
        have X2 := Lib.hid hz
        clear hx hz q0 q1 q2
        have BB0 := Lib.hid (Below.refl s2.heap.size s2)
        have M00 := cmp_any U0 U1 xp0 xb0 xp1 xb1 xc0 xd0 xc1 xd1 s2 (C0.out.below BB0.out) (C1.out.below BB0.out) (HG.out.errs.below BS.out) true true R0.out R1.out
        unfold verV at M00
        try simp only [Bool.and_self, Bool.and_true, Bool.true_and, Bool.and_false, Bool.false_and, Bool.false_eq_true, if_true, if_false] at M00
        rw [X0.out] at M00
        have M0 := Lib.hid M00
        clear M00
        obtain ⟨e0_0, e0_1, e0_2, e0_3, e0_4⟩ := cell5 T0.out
        obtain ⟨e1_0, e1_1, e1_2, e1_3, e1_4⟩ := cell5 T1.out
        obtain ⟨e2_0, e2_1, e2_2, e2_3, e2_4⟩ := cell5 T2.out
        go_wp2_with fail
        refine M0.out.mono ?_
        rintro e y0 ⟨rfl, bb⟩
        have BY0 := Lib.hid (BS.out.trans (bb.mono BS.out.size))
        have BZ0 := Lib.hid (BB0.out.trans (bb.mono BB0.out.size))
        have TY0_0 := Lib.hid (T0.out.below bb)
        have TY0_1 := Lib.hid (T1.out.below bb)
        have TY0_2 := Lib.hid (T2.out.below bb)
        clear e0_0 e0_1 e0_2 e0_3 e0_4 e1_0 e1_1 e1_2 e1_3 e1_4 e2_0 e2_1 e2_2 e2_3 e2_4
        clear bb M0 BS T0 T1 T2
        have M10 := cmp_any U1 U0 xp1 xb1 xp0 xb0 xc1 xd1 xc0 xd0 y0 (C1.out.below BZ0.out) (C0.out.below BZ0.out) (HG.out.errs.below BY0.out) true true R1.out R0.out
        unfold verV at M10
        try simp only [Bool.and_self, Bool.and_true, Bool.true_and, Bool.and_false, Bool.false_and, Bool.false_eq_true, if_true, if_false] at M10
        rw [X1.out] at M10
        have M1 := Lib.hid M10
        clear M10
        obtain ⟨e0_0, e0_1, e0_2, e0_3, e0_4⟩ := cell5 TY0_0.out
        obtain ⟨e1_0, e1_1, e1_2, e1_3, e1_4⟩ := cell5 TY0_1.out
        obtain ⟨e2_0, e2_1, e2_2, e2_3, e2_4⟩ := cell5 TY0_2.out
        go_wp2_with fail
        refine M1.out.mono ?_
        rintro e y1 ⟨rfl, bb⟩
        have BY1 := Lib.hid (BY0.out.trans (bb.mono BY0.out.size))
        have BZ1 := Lib.hid (BZ0.out.trans (bb.mono BZ0.out.size))
        have TY1_0 := Lib.hid (TY0_0.out.below bb)
        have TY1_1 := Lib.hid (TY0_1.out.below bb)
        have TY1_2 := Lib.hid (TY0_2.out.below bb)
        clear e0_0 e0_1 e0_2 e0_3 e0_4 e1_0 e1_1 e1_2 e1_3 e1_4 e2_0 e2_1 e2_2 e2_3 e2_4
        clear bb M1 BY0 TY0_0 TY0_1 TY0_2
        have M20 := cmp_any U1 U2 xp1 xb1 xp2 xb2 xc1 xd1 xc2 xd2 y1 (C1.out.below BZ1.out) (C2.out.below BZ1.out) (HG.out.errs.below BY1.out) true true R1.out R2.out
        unfold verV at M20
        try simp only [Bool.and_self, Bool.and_true, Bool.true_and, Bool.and_false, Bool.false_and, Bool.false_eq_true, if_true, if_false] at M20
        rw [X2.out] at M20
        have M2 := Lib.hid M20
        clear M20
        obtain ⟨e0_0, e0_1, e0_2, e0_3, e0_4⟩ := cell5 TY1_0.out
        obtain ⟨e1_0, e1_1, e1_2, e1_3, e1_4⟩ := cell5 TY1_1.out
        obtain ⟨e2_0, e2_1, e2_2, e2_3, e2_4⟩ := cell5 TY1_2.out
        go_wp2_with fail
        refine M2.out.mono ?_
        rintro e y2 ⟨rfl, bb⟩
        have BY2 := Lib.hid (BY1.out.trans (bb.mono BY1.out.size))
        have BZ2 := Lib.hid (BZ1.out.trans (bb.mono BZ1.out.size))
        have TY2_0 := Lib.hid (TY1_0.out.below bb)
        have TY2_1 := Lib.hid (TY1_1.out.below bb)
        have TY2_2 := Lib.hid (TY1_2.out.below bb)
        clear e0_0 e0_1 e0_2 e0_3 e0_4 e1_0 e1_1 e1_2 e1_3 e1_4 e2_0 e2_1 e2_2 e2_3 e2_4
        clear bb M2 BY1 TY1_0 TY1_1 TY1_2
        have M30 := cmp_any U0 U2 xp0 xb0 xp2 xb2 xc0 xd0 xc2 xd2 y2 (C0.out.below BZ2.out) (C2.out.below BZ2.out) (HG.out.errs.below BY2.out) true true R0.out R2.out
        unfold verV at M30
        try simp only [Bool.and_self, Bool.and_true, Bool.true_and, Bool.and_false, Bool.false_and, Bool.false_eq_true, if_true, if_false] at M30
        rw [X3.out] at M30
        have M3 := Lib.hid M30
        clear M30
        obtain ⟨e0_0, e0_1, e0_2, e0_3, e0_4⟩ := cell5 TY2_0.out
        obtain ⟨e1_0, e1_1, e1_2, e1_3, e1_4⟩ := cell5 TY2_1.out
        obtain ⟨e2_0, e2_1, e2_2, e2_3, e2_4⟩ := cell5 TY2_2.out
        go_wp2_with fail
        refine M3.out.mono ?_
        rintro e y3 ⟨rfl, bb⟩
        have BY3 := Lib.hid (BY2.out.trans (bb.mono BY2.out.size))
        have BZ3 := Lib.hid (BZ2.out.trans (bb.mono BZ2.out.size))
        have TY3_0 := Lib.hid (TY2_0.out.below bb)
        have TY3_1 := Lib.hid (TY2_1.out.below bb)
        have TY3_2 := Lib.hid (TY2_2.out.below bb)
        clear e0_0 e0_1 e0_2 e0_3 e0_4 e1_0 e1_1 e1_2 e1_3 e1_4 e2_0 e2_1 e2_2 e2_3 e2_4
        clear bb M3 BY2 TY2_0 TY2_1 TY2_2
        have HL := Lib.hid (alive_any y3 (HG.out.below BY3.out))
        go_wp2_with fail
        refine HL.out.mono ?_
        rintro e y9 ⟨rfl, bb⟩
        have BF := Lib.hid (BY3.out.trans (bb.mono BY3.out.size))
        clear bb
        go_wp2_with fail
        go_ret
        exact ⟨ret_bool (by first | rfl | decide), BF.out⟩
      · have X3 := Lib.hid (show cmpV U0 U2 = 0 by have := X2 (by omega) (by omega); omega)
        have X2 := Lib.hid hz
        clear hx hz q0 q1 q2
        have BB0 := Lib.hid (Below.refl s2.heap.size s2)
        have M00 := cmp_any U0 U1 xp0 xb0 xp1 xb1 xc0 xd0 xc1 xd1 s2 (C0.out.below BB0.out) (C1.out.below BB0.out) (HG.out.errs.below BS.out) true true R0.out R1.out
        unfold verV at M00
        try simp only [Bool.and_self, Bool.and_true, Bool.true_and, Bool.and_false, Bool.false_and, Bool.false_eq_true, if_true, if_false] at M00
        rw [X0.out] at M00
        have M0 := Lib.hid M00
        clear M00
        obtain ⟨e0_0, e0_1, e0_2, e0_3, e0_4⟩ := cell5 T0.out
        obtain ⟨e1_0, e1_1, e1_2, e1_3, e1_4⟩ := cell5 T1.out
        obtain ⟨e2_0, e2_1, e2_2, e2_3, e2_4⟩ := cell5 T2.out
        go_wp2_with fail
        refine M0.out.mono ?_
        rintro e y0 ⟨rfl, bb⟩
        have BY0 := Lib.hid (BS.out.trans (bb.mono BS.out.size))
        have BZ0 := Lib.hid (BB0.out.trans (bb.mono BB0.out.size))
        have TY0_0 := Lib.hid (T0.out.below bb)
        have TY0_1 := Lib.hid (T1.out.below bb)
        have TY0_2 := Lib.hid (T2.out.below bb)
        clear e0_0 e0_1 e0_2 e0_3 e0_4 e1_0 e1_1 e1_2 e1_3 e1_4 e2_0 e2_1 e2_2 e2_3 e2_4
        clear bb M0 BS T0 T1 T2
        have M10 := cmp_any U1 U0 xp1 xb1 xp0 xb0 xc1 xd1 xc0 xd0 y0 (C1.out.below BZ0.out) (C0.out.below BZ0.out) (HG.out.errs.below BY0.out) true true R1.out R0.out
        unfold verV at M10
        try simp only [Bool.and_self, Bool.and_true, Bool.true_and, Bool.and_false, Bool.false_and, Bool.false_eq_true, if_true, if_false] at M10
        rw [X1.out] at M10
        have M1 := Lib.hid M10
        clear M10
        obtain ⟨e0_0, e0_1, e0_2, e0_3, e0_4⟩ := cell5 TY0_0.out
        obtain ⟨e1_0, e1_1, e1_2, e1_3, e1_4⟩ := cell5 TY0_1.out
        obtain ⟨e2_0, e2_1, e2_2, e2_3, e2_4⟩ := cell5 TY0_2.out
        go_wp2_with fail
        refine M1.out.mono ?_
        rintro e y1 ⟨rfl, bb⟩
        have BY1 := Lib.hid (BY0.out.trans (bb.mono BY0.out.size))
        have BZ1 := Lib.hid (BZ0.out.trans (bb.mono BZ0.out.size))
        have TY1_0 := Lib.hid (TY0_0.out.below bb)
        have TY1_1 := Lib.hid (TY0_1.out.below bb)
        have TY1_2 := Lib.hid (TY0_2.out.below bb)
        clear e0_0 e0_1 e0_2 e0_3 e0_4 e1_0 e1_1 e1_2 e1_3 e1_4 e2_0 e2_1 e2_2 e2_3 e2_4
        clear bb M1 BY0 TY0_0 TY0_1 TY0_2
        have M20 := cmp_any U1 U2 xp1 xb1 xp2 xb2 xc1 xd1 xc2 xd2 y1 (C1.out.below BZ1.out) (C2.out.below BZ1.out) (HG.out.errs.below BY1.out) true true R1.out R2.out
        unfold verV at M20
        try simp only [Bool.and_self, Bool.and_true, Bool.true_and, Bool.and_false, Bool.false_and, Bool.false_eq_true, if_true, if_false] at M20
        rw [X2.out] at M20
        have M2 := Lib.hid M20
        clear M20
        obtain ⟨e0_0, e0_1, e0_2, e0_3, e0_4⟩ := cell5 TY1_0.out
        obtain ⟨e1_0, e1_1, e1_2, e1_3, e1_4⟩ := cell5 TY1_1.out
        obtain ⟨e2_0, e2_1, e2_2, e2_3, e2_4⟩ := cell5 TY1_2.out
        go_wp2_with fail
        refine M2.out.mono ?_
        rintro e y2 ⟨rfl, bb⟩
        have BY2 := Lib.hid (BY1.out.trans (bb.mono BY1.out.size))
        have BZ2 := Lib.hid (BZ1.out.trans (bb.mono BZ1.out.size))
        have TY2_0 := Lib.hid (TY1_0.out.below bb)
        have TY2_1 := Lib.hid (TY1_1.out.below bb)
        have TY2_2 := Lib.hid (TY1_2.out.below bb)
        clear e0_0 e0_1 e0_2 e0_3 e0_4 e1_0 e1_1 e1_2 e1_3 e1_4 e2_0 e2_1 e2_2 e2_3 e2_4
        clear bb M2 BY1 TY1_0 TY1_1 TY1_2
        have M30 := cmp_any U0 U2 xp0 xb0 xp2 xb2 xc0 xd0 xc2 xd2 y2 (C0.out.below BZ2.out) (C2.out.below BZ2.out) (HG.out.errs.below BY2.out) true true R0.out R2.out
        unfold verV at M30
        try simp only [Bool.and_self, Bool.and_true, Bool.true_and, Bool.and_false, Bool.false_and, Bool.false_eq_true, if_true, if_false] at M30
        rw [X3.out] at M30
        have M3 := Lib.hid M30
        clear M30
        obtain ⟨e0_0, e0_1, e0_2, e0_3, e0_4⟩ := cell5 TY2_0.out
        obtain ⟨e1_0, e1_1, e1_2, e1_3, e1_4⟩ := cell5 TY2_1.out
        obtain ⟨e2_0, e2_1, e2_2, e2_3, e2_4⟩ := cell5 TY2_2.out
        go_wp2_with fail
        refine M3.out.mono ?_
        rintro e y3 ⟨rfl, bb⟩
        have BY3 := Lib.hid (BY2.out.trans (bb.mono BY2.out.size))
        have BZ3 := Lib.hid (BZ2.out.trans (bb.mono BZ2.out.size))
        have TY3_0 := Lib.hid (TY2_0.out.below bb)
        have TY3_1 := Lib.hid (TY2_1.out.below bb)
        have TY3_2 := Lib.hid (TY2_2.out.below bb)
        clear e0_0 e0_1 e0_2 e0_3 e0_4 e1_0 e1_1 e1_2 e1_3 e1_4 e2_0 e2_1 e2_2 e2_3 e2_4
        clear bb M3 BY2 TY2_0 TY2_1 TY2_2
        have HL := Lib.hid (alive_any y3 (HG.out.below BY3.out))
        go_wp2_with fail
        refine HL.out.mono ?_
        rintro e y9 ⟨rfl, bb⟩
        have BF := Lib.hid (BY3.out.trans (bb.mono BY3.out.size))
        clear bb
        go_wp2_with fail
        go_ret
        exact ⟨ret_bool (by first | rfl | decide), BF.out⟩
      · have X2 := Lib.hid hz
        clear hx hz q0 q1 q2
        have BB0 := Lib.hid (Below.refl s2.heap.size s2)
        have M00 := cmp_any U0 U1 xp0 xb0 xp1 xb1 xc0 xd0 xc1 xd1 s2 (C0.out.below BB0.out) (C1.out.below BB0.out) (HG.out.errs.below BS.out) true true R0.out R1.out
        unfold verV at M00
        try simp only [Bool.and_self, Bool.and_true, Bool.true_and, Bool.and_false, Bool.false_and, Bool.false_eq_true, if_true, if_false] at M00
        rw [X0.out] at M00
        have M0 := Lib.hid M00
        clear M00
        obtain ⟨e0_0, e0_1, e0_2, e0_3, e0_4⟩ := cell5 T0.out
        obtain ⟨e1_0, e1_1, e1_2, e1_3, e1_4⟩ := cell5 T1.out
        obtain ⟨e2_0, e2_1, e2_2, e2_3, e2_4⟩ := cell5 T2.out
        go_wp2_with fail
        refine M0.out.mono ?_
        rintro e y0 ⟨rfl, bb⟩
        have BY0 := Lib.hid (BS.out.trans (bb.mono BS.out.size))
        have BZ0 := Lib.hid (BB0.out.trans (bb.mono BB0.out.size))
        have TY0_0 := Lib.hid (T0.out.below bb)
        have TY0_1 := Lib.hid (T1.out.below bb)
        have TY0_2 := Lib.hid (T2.out.below bb)
        clear e0_0 e0_1 e0_2 e0_3 e0_4 e1_0 e1_1 e1_2 e1_3 e1_4 e2_0 e2_1 e2_2 e2_3 e2_4
        clear bb M0 BS T0 T1 T2
        have M10 := cmp_any U1 U0 xp1 xb1 xp0 xb0 xc1 xd1 xc0 xd0 y0 (C1.out.below BZ0.out) (C0.out.below BZ0.out) (HG.out.errs.below BY0.out) true true R1.out R0.out
        unfold verV at M10
        try simp only [Bool.and_self, Bool.and_true, Bool.true_and, Bool.and_false, Bool.false_and, Bool.false_eq_true, if_true, if_false] at M10
        rw [X1.out] at M10
        have M1 := Lib.hid M10
        clear M10
        obtain ⟨e0_0, e0_1, e0_2, e0_3, e0_4⟩ := cell5 TY0_0.out
        obtain ⟨e1_0, e1_1, e1_2, e1_3, e1_4⟩ := cell5 TY0_1.out
        obtain ⟨e2_0, e2_1, e2_2, e2_3, e2_4⟩ := cell5 TY0_2.out
        go_wp2_with fail
        refine M1.out.mono ?_
        rintro e y1 ⟨rfl, bb⟩
        have BY1 := Lib.hid (BY0.out.trans (bb.mono BY0.out.size))
        have BZ1 := Lib.hid (BZ0.out.trans (bb.mono BZ0.out.size))
        have TY1_0 := Lib.hid (TY0_0.out.below bb)
        have TY1_1 := Lib.hid (TY0_1.out.below bb)
        have TY1_2 := Lib.hid (TY0_2.out.below bb)
        clear e0_0 e0_1 e0_2 e0_3 e0_4 e1_0 e1_1 e1_2 e1_3 e1_4 e2_0 e2_1 e2_2 e2_3 e2_4
        clear bb M1 BY0 TY0_0 TY0_1 TY0_2
        have M20 := cmp_any U1 U2 xp1 xb1 xp2 xb2 xc1 xd1 xc2 xd2 y1 (C1.out.below BZ1.out) (C2.out.below BZ1.out) (HG.out.errs.below BY1.out) true true R1.out R2.out
        unfold verV at M20
        try simp only [Bool.and_self, Bool.and_true, Bool.true_and, Bool.and_false, Bool.false_and, Bool.false_eq_true, if_true, if_false] at M20
        rw [X2.out] at M20
        have M2 := Lib.hid M20
        clear M20
        obtain ⟨e0_0, e0_1, e0_2, e0_3, e0_4⟩ := cell5 TY1_0.out
        obtain ⟨e1_0, e1_1, e1_2, e1_3, e1_4⟩ := cell5 TY1_1.out
        obtain ⟨e2_0, e2_1, e2_2, e2_3, e2_4⟩ := cell5 TY1_2.out
        go_wp2_with fail
        refine M2.out.mono ?_
        rintro e y2 ⟨rfl, bb⟩
        have BY2 := Lib.hid (BY1.out.trans (bb.mono BY1.out.size))
        have BZ2 := Lib.hid (BZ1.out.trans (bb.mono BZ1.out.size))
        have TY2_0 := Lib.hid (TY1_0.out.below bb)
        have TY2_1 := Lib.hid (TY1_1.out.below bb)
        have TY2_2 := Lib.hid (TY1_2.out.below bb)
        clear e0_0 e0_1 e0_2 e0_3 e0_4 e1_0 e1_1 e1_2 e1_3 e1_4 e2_0 e2_1 e2_2 e2_3 e2_4
        clear bb M2 BY1 TY1_0 TY1_1 TY1_2
        have M30 := cmp_any U0 U2 xp0 xb0 xp2 xb2 xc0 xd0 xc2 xd2 y2 (C0.out.below BZ2.out) (C2.out.below BZ2.out) (HG.out.errs.below BY2.out) true true R0.out R2.out
        unfold verV at M30
        try simp only [Bool.and_self, Bool.and_true, Bool.true_and, Bool.and_false, Bool.false_and, Bool.false_eq_true, if_true, if_false] at M30
        generalize cmpV U0 U2 = gv3 at M30
        have M3 := Lib.hid M30
        clear M30
        obtain ⟨e0_0, e0_1, e0_2, e0_3, e0_4⟩ := cell5 TY2_0.out
        obtain ⟨e1_0, e1_1, e1_2, e1_3, e1_4⟩ := cell5 TY2_1.out
        obtain ⟨e2_0, e2_1, e2_2, e2_3, e2_4⟩ := cell5 TY2_2.out
        go_wp2_with fail
        refine M3.out.mono ?_
        rintro e y3 ⟨rfl, bb⟩
        have BY3 := Lib.hid (BY2.out.trans (bb.mono BY2.out.size))
        have BZ3 := Lib.hid (BZ2.out.trans (bb.mono BZ2.out.size))
        have TY3_0 := Lib.hid (TY2_0.out.below bb)
        have TY3_1 := Lib.hid (TY2_1.out.below bb)
        have TY3_2 := Lib.hid (TY2_2.out.below bb)
        clear e0_0 e0_1 e0_2 e0_3 e0_4 e1_0 e1_1 e1_2 e1_3 e1_4 e2_0 e2_1 e2_2 e2_3 e2_4
        clear bb M3 BY2 TY2_0 TY2_1 TY2_2
        have HL := Lib.hid (alive_any y3 (HG.out.below BY3.out))
        go_wp2_with fail
        refine HL.out.mono ?_
        rintro e y9 ⟨rfl, bb⟩
        have BF := Lib.hid (BY3.out.trans (bb.mono BY3.out.size))
        clear bb
        go_wp2_with fail
        go_ret
        exact ⟨ret_bool (by first | rfl | decide), BF.out⟩
    · have X0 := Lib.hid hx
      have X1 := Lib.hid (show cmpV U1 U0 = -1 by omega)
      clear hx X2 q0 q1 q2
      have BB0 := Lib.hid (Below.refl s2.heap.size s2)
      have M00 := cmp_any U0 U1 xp0 xb0 xp1 xb1 xc0 xd0 xc1 xd1 s2 (C0.out.below BB0.out) (C1.out.below BB0.out) (HG.out.errs.below BS.out) true true R0.out R1.out
      unfold verV at M00
      try simp only [Bool.and_self, Bool.and_true, Bool.true_and, Bool.and_false, Bool.false_and, Bool.false_eq_true, if_true, if_false] at M00
      rw [X0.out] at M00
      have M0 := Lib.hid M00
      clear M00
      obtain ⟨e0_0, e0_1, e0_2, e0_3, e0_4⟩ := cell5 T0.out
      obtain ⟨e1_0, e1_1, e1_2, e1_3, e1_4⟩ := cell5 T1.out
      obtain ⟨e2_0, e2_1, e2_2, e2_3, e2_4⟩ := cell5 T2.out
      go_wp2_with fail
      refine M0.out.mono ?_
      rintro e y0 ⟨rfl, bb⟩
      have BY0 := Lib.hid (BS.out.trans (bb.mono BS.out.size))
      have BZ0 := Lib.hid (BB0.out.trans (bb.mono BB0.out.size))
      have TY0_0 := Lib.hid (T0.out.below bb)
      have TY0_1 := Lib.hid (T1.out.below bb)
      have TY0_2 := Lib.hid (T2.out.below bb)
      clear e0_0 e0_1 e0_2 e0_3 e0_4 e1_0 e1_1 e1_2 e1_3 e1_4 e2_0 e2_1 e2_2 e2_3 e2_4
      clear bb M0 BS T0 T1 T2
      have M10 := cmp_any U1 U0 xp1 xb1 xp0 xb0 xc1 xd1 xc0 xd0 y0 (C1.out.below BZ0.out) (C0.out.below BZ0.out) (HG.out.errs.below BY0.out) true true R1.out R0.out
      unfold verV at M10
      try simp only [Bool.and_self, Bool.and_true, Bool.true_and, Bool.and_false, Bool.false_and, Bool.false_eq_true, if_true, if_false] at M10
      rw [X1.out] at M10
      have M1 := Lib.hid M10
      clear M10
      obtain ⟨e0_0, e0_1, e0_2, e0_3, e0_4⟩ := cell5 TY0_0.out
      obtain ⟨e1_0, e1_1, e1_2, e1_3, e1_4⟩ := cell5 TY0_1.out
      obtain ⟨e2_0, e2_1, e2_2, e2_3, e2_4⟩ := cell5 TY0_2.out
      go_wp2_with fail
      refine M1.out.mono ?_
      rintro e y1 ⟨rfl, bb⟩
      have BY1 := Lib.hid (BY0.out.trans (bb.mono BY0.out.size))
      have BZ1 := Lib.hid (BZ0.out.trans (bb.mono BZ0.out.size))
      have TY1_0 := Lib.hid (TY0_0.out.below bb)
      have TY1_1 := Lib.hid (TY0_1.out.below bb)
      have TY1_2 := Lib.hid (TY0_2.out.below bb)
      clear e0_0 e0_1 e0_2 e0_3 e0_4 e1_0 e1_1 e1_2 e1_3 e1_4 e2_0 e2_1 e2_2 e2_3 e2_4
      clear bb M1 BY0 TY0_0 TY0_1 TY0_2
      have M20 := cmp_any U1 U2 xp1 xb1 xp2 xb2 xc1 xd1 xc2 xd2 y1 (C1.out.below BZ1.out) (C2.out.below BZ1.out) (HG.out.errs.below BY1.out) true true R1.out R2.out
      unfold verV at M20
      try simp only [Bool.and_self, Bool.and_true, Bool.true_and, Bool.and_false, Bool.false_and, Bool.false_eq_true, if_true, if_false] at M20
      generalize cmpV U1 U2 = gv2 at M20
      have M2 := Lib.hid M20
      clear M20
      obtain ⟨e0_0, e0_1, e0_2, e0_3, e0_4⟩ := cell5 TY1_0.out
      obtain ⟨e1_0, e1_1, e1_2, e1_3, e1_4⟩ := cell5 TY1_1.out
      obtain ⟨e2_0, e2_1, e2_2, e2_3, e2_4⟩ := cell5 TY1_2.out
      go_wp2_with fail
      refine M2.out.mono ?_
      rintro e y2 ⟨rfl, bb⟩
      have BY2 := Lib.hid (BY1.out.trans (bb.mono BY1.out.size))
      have BZ2 := Lib.hid (BZ1.out.trans (bb.mono BZ1.out.size))
      have TY2_0 := Lib.hid (TY1_0.out.below bb)
      have TY2_1 := Lib.hid (TY1_1.out.below bb)
      have TY2_2 := Lib.hid (TY1_2.out.below bb)
      clear e0_0 e0_1 e0_2 e0_3 e0_4 e1_0 e1_1 e1_2 e1_3 e1_4 e2_0 e2_1 e2_2 e2_3 e2_4
      clear bb M2 BY1 TY1_0 TY1_1 TY1_2
      have M30 := cmp_any U0 U2 xp0 xb0 xp2 xb2 xc0 xd0 xc2 xd2 y2 (C0.out.below BZ2.out) (C2.out.below BZ2.out) (HG.out.errs.below BY2.out) true true R0.out R2.out
      unfold verV at M30
      try simp only [Bool.and_self, Bool.and_true, Bool.true_and, Bool.and_false, Bool.false_and, Bool.false_eq_true, if_true, if_false] at M30
      generalize cmpV U0 U2 = gv3 at M30
      have M3 := Lib.hid M30
      clear M30
      obtain ⟨e0_0, e0_1, e0_2, e0_3, e0_4⟩ := cell5 TY2_0.out
      obtain ⟨e1_0, e1_1, e1_2, e1_3, e1_4⟩ := cell5 TY2_1.out
      obtain ⟨e2_0, e2_1, e2_2, e2_3, e2_4⟩ := cell5 TY2_2.out
      go_wp2_with fail
      refine M3.out.mono ?_
      rintro e y3 ⟨rfl, bb⟩
      have BY3 := Lib.hid (BY2.out.trans (bb.mono BY2.out.size))
      have BZ3 := Lib.hid (BZ2.out.trans (bb.mono BZ2.out.size))
      have TY3_0 := Lib.hid (TY2_0.out.below bb)
      have TY3_1 := Lib.hid (TY2_1.out.below bb)
      have TY3_2 := Lib.hid (TY2_2.out.below bb)
      clear e0_0 e0_1 e0_2 e0_3 e0_4 e1_0 e1_1 e1_2 e1_3 e1_4 e2_0 e2_1 e2_2 e2_3 e2_4
      clear bb M3 BY2 TY2_0 TY2_1 TY2_2
      have HL := Lib.hid (alive_any y3 (HG.out.below BY3.out))
      go_wp2_with fail
      refine HL.out.mono ?_
      rintro e y9 ⟨rfl, bb⟩
      have BF := Lib.hid (BY3.out.trans (bb.mono BY3.out.size))
      clear bb
      go_wp2_with fail
      go_ret
      exact ⟨ret_bool (by first | rfl | decide), BF.out⟩
end Go.Proofs.YtbdhmelebedpiaaDoor
