/- The law SemverOrders: its walk. -/
import Derived.Test.YtbdhmelebedpiaaGreatDoorSemPLike
import Derived.Test.YtbdhmelebedpiaaGreatDoorSemRefText
namespace Go.Proofs.YtbdhmelebedpiaaGreatDoor
open Go.RowKit
set_option linter.unusedSimpArgs false
set_option linter.unusedVariables false

theorem right_okP {V : Vr} (h : rightB V = true) : ∀ s ∈ V.pre, okPre s = true := by
  unfold rightB at h
  simp only [Bool.and_eq_true] at h
  exact List.all_eq_true.1 h.1.2
theorem like_self (V : Vr) : likeVB V V = true := by unfold likeVB; simp
set_option maxHeartbeats 64000000 in
set_option maxRecDepth 100000 in
theorem orders_walk (V0 : Vr) (po0 bo0 : Option Addr) (pc0 bc0 : Nat) (V1 : Vr) (po1 bo1 : Option Addr) (pc1 bc1 : Nat) (w : World) (h0 : VerIn w po0 bo0 pc0 bc0 V0) (h1 : VerIn w po1 bo1 pc1 bc1 V1) (hV : Vars w) :
    Calls Tryz.prog 3 #[verV V0 po0 pc0 bo0 bc0, verV V1 po1 pc1 bo1 bc1] w fun e w' => e = .returned (.bool true) ∧ Below w.heap.size w w' := by
  have HG := Lib.hid hV
  clear hV
  unfold verV
  have H0 := Lib.hid h0
  have H1 := Lib.hid h1
  obtain ⟨wa, hw0⟩ : ∃ x, w.alloc (.cells #[.int .i64 V0.ma, .int .i64 V0.mi, .int .i64 V0.pa, .slice po0 V0.pre.length pc0, .slice bo0 V0.build.length bc0] 24) = x := ⟨_, rfl⟩
  obtain ⟨k0, q0, z0⟩ := box_new hw0
  obtain ⟨wb, hw1⟩ : ∃ x, wa.alloc (.cells #[.int .i64 V1.ma, .int .i64 V1.mi, .int .i64 V1.pa, .slice po1 V1.pre.length pc1, .slice bo1 V1.build.length bc1] 24) = x := ⟨_, rfl⟩
  obtain ⟨k1, q1, z1⟩ := box_new hw1
  have K0 := Lib.hid (k0.below q1)
  have K1 := Lib.hid k1
  have BW := Lib.hid (q0.trans (q1.mono q0.size))
  have HZ := Lib.hid (show wa.heap.size = w.heap.size + 1 ∧ wb.heap.size = wa.heap.size + 1 ∧ True from ⟨z0, z1, trivial⟩)
  clear h0 k0 q0 z0 h1 k1 q1 z1
  go_enter Tryz.func3, Tryz.ntmps3
  go_wp2_with fail
  clear hw0 hw1
  obtain ⟨e0_0, e0_1, e0_2, e0_3, e0_4⟩ := cell5 K0.out
  obtain ⟨e1_0, e1_1, e1_2, e1_3, e1_4⟩ := cell5 K1.out
  refine GoG.start [(4, ⟨w.heap.size, 0, none⟩, .int .i64 V0.ma), (4, ⟨w.heap.size, 1, none⟩, .int .i64 V0.mi), (4, ⟨w.heap.size, 2, none⟩, .int .i64 V0.pa), (4, ⟨w.heap.size, 3, none⟩, .slice po0 V0.pre.length pc0), (4, ⟨w.heap.size, 4, none⟩, .slice bo0 V0.build.length bc0), (5, ⟨wa.heap.size, 0, none⟩, .int .i64 V1.ma), (5, ⟨wa.heap.size, 1, none⟩, .int .i64 V1.mi), (5, ⟨wa.heap.size, 2, none⟩, .int .i64 V1.pa), (5, ⟨wa.heap.size, 3, none⟩, .slice po1 V1.pre.length pc1), (5, ⟨wa.heap.size, 4, none⟩, .slice bo1 V1.build.length bc1)] (by kernel_rfl) ?_ ?_
  · exact (Keeps.cons (by first | assumption | simp [*]) (Keeps.cons (by first | assumption | simp [*]) (Keeps.cons (by first | assumption | simp [*]) (Keeps.cons (by first | assumption | simp [*]) (Keeps.cons (by first | assumption | simp [*]) (Keeps.cons (by first | assumption | simp [*]) (Keeps.cons (by first | assumption | simp [*]) (Keeps.cons (by first | assumption | simp [*]) (Keeps.cons (by first | assumption | simp [*]) (Keeps.cons (by first | assumption | simp [*]) (Keeps.nil)))))))))))
  refine GoG.take (i := 0) (v := ?_) [1, 3, 4, 5] rfl (by kernel_rfl) (by kernel_rfl) (by kernel_rfl) (by kernel_rfl) (by kernel_rfl) (by kernel_rfl) (fun _ _ _ h => h) (.inl ⟨by rfl, fun wz hS => ?_⟩) ?_
  rotate_left
  · have y0 := hS (4, ⟨w.heap.size, 0, none⟩, .int .i64 V0.ma) (by simp) (by simp)
    have y1 := hS (4, ⟨w.heap.size, 1, none⟩, .int .i64 V0.mi) (by simp) (by simp)
    have y2 := hS (4, ⟨w.heap.size, 2, none⟩, .int .i64 V0.pa) (by simp) (by simp)
    have y3 := hS (4, ⟨w.heap.size, 3, none⟩, .slice po0 V0.pre.length pc0) (by simp) (by simp)
    have y4 := hS (4, ⟨w.heap.size, 4, none⟩, .slice bo0 V0.build.length bc0) (by simp) (by simp)
    clear hS
    simp only at y0 y1 y2 y3 y4
    go_simp; try (with_reducible rfl)
  try simp only [Act.put, List.setIfInBounds_toArray, List.set_cons_zero, List.set_cons_succ]
  refine GoG.take (i := 2) (v := ?_) [3, 4, 5] rfl (by kernel_rfl) (by kernel_rfl) (by kernel_rfl) (by kernel_rfl) (by kernel_rfl) (by kernel_rfl) (fun _ _ _ h => h) (.inl ⟨by rfl, fun wz hS => ?_⟩) ?_
  rotate_left
  · have y0 := hS (5, ⟨wa.heap.size, 0, none⟩, .int .i64 V1.ma) (by simp) (by simp)
    have y1 := hS (5, ⟨wa.heap.size, 1, none⟩, .int .i64 V1.mi) (by simp) (by simp)
    have y2 := hS (5, ⟨wa.heap.size, 2, none⟩, .int .i64 V1.pa) (by simp) (by simp)
    have y3 := hS (5, ⟨wa.heap.size, 3, none⟩, .slice po1 V1.pre.length pc1) (by simp) (by simp)
    have y4 := hS (5, ⟨wa.heap.size, 4, none⟩, .slice bo1 V1.build.length bc1) (by simp) (by simp)
    clear hS
    simp only at y0 y1 y2 y3 y4
    go_simp; try (with_reducible rfl)
  try simp only [Act.put, List.setIfInBounds_toArray, List.set_cons_zero, List.set_cons_succ]
  have BD := Lib.hid (show Below w.heap.size w wb.drew from BW.out.drew)
  have KD0 := Lib.hid (show BlockAt wb.drew w.heap.size _ _ from K0.out.below ((Below.refl _ _).drew))
  have KD1 := Lib.hid (show BlockAt wb.drew wa.heap.size _ _ from K1.out.below ((Below.refl _ _).drew))
  clear e0_0 e0_1 e0_2 e0_3 e0_4 e1_0 e1_1 e1_2 e1_3 e1_4
  clear K0 K1
  have ZD := Lib.hid (show wb.heap.size ≤ wb.drew.heap.size from Nat.le_refl _)
  have F := Lib.hid (few_base V0 po0 bo0 pc0 bc0 wb.drew (H0.out.below BD.out))
  unfold verV at F
  obtain ⟨e0_0, e0_1, e0_2, e0_3, e0_4⟩ := cell5 KD0.out
  obtain ⟨e1_0, e1_1, e1_2, e1_3, e1_4⟩ := cell5 KD1.out
  refine GoG.one (i := 1) rfl (by kernel_rfl) (fun K hK => ?_)
  go_simp
  refine F.out.mono ?_
  rintro e u0 ⟨xp0, xc0, xb0, xd0, U0, rfl, hv, hn, bb, cp, cb, rn1, rn2⟩
  unfold verV
  have B0 := Lib.hid (BD.out.trans (bb.mono BD.out.size))
  have Z0 := Lib.hid (Nat.le_trans ZD.out bb.size)
  have ZR0 := ZD
  have HV0 := Lib.hid hv
  have HN0 := Lib.hid hn
  have HC0 := Lib.hid (And.intro cp cb)
  clear e0_0 e0_1 e0_2 e0_3 e0_4 e1_0 e1_1 e1_2 e1_3 e1_4
  have M0_0 := Lib.hid (KD0.out.below bb)
  have M0_1 := Lib.hid (KD1.out.below bb)
  have RP0 := Lib.hid rn1
  have RB0 := Lib.hid rn2
  clear bb hv hn cp cb rn1 rn2 F KD0 KD1 BD
  obtain ⟨e0_0, e0_1, e0_2, e0_3, e0_4⟩ := cell5 M0_0.out
  obtain ⟨e1_0, e1_1, e1_2, e1_3, e1_4⟩ := cell5 M0_1.out
  refine hK.out _ _ (Keeps.cons (by first | assumption | simp [*]) (Keeps.cons (by first | assumption | simp [*]) (Keeps.cons (by first | assumption | simp [*]) (Keeps.cons (by first | assumption | simp [*]) (Keeps.cons (by first | assumption | simp [*]) (Keeps.cons (by first | assumption | simp [*]) (Keeps.cons (by first | assumption | simp [*]) (Keeps.cons (by first | assumption | simp [*]) (Keeps.cons (by first | assumption | simp [*]) (Keeps.cons (by first | assumption | simp [*]) (Keeps.nil))))))))))) ?_
  clear hK K
  clear e0_0 e0_1 e0_2 e0_3 e0_4 e1_0 e1_1 e1_2 e1_3 e1_4
  have F := Lib.hid (few_base V1 po1 bo1 pc1 bc1 u0 (H1.out.below B0.out))
  unfold verV at F
  obtain ⟨e0_0, e0_1, e0_2, e0_3, e0_4⟩ := cell5 M0_0.out
  obtain ⟨e1_0, e1_1, e1_2, e1_3, e1_4⟩ := cell5 M0_1.out
  refine GoG.one (i := 3) rfl (by kernel_rfl) (fun K hK => ?_)
  go_simp
  refine F.out.mono ?_
  rintro e u1 ⟨xp1, xc1, xb1, xd1, U1, rfl, hv, hn, bb, cp, cb, rn1, rn2⟩
  unfold verV
  have B1 := Lib.hid (B0.out.trans (bb.mono B0.out.size))
  have Z1 := Lib.hid (Nat.le_trans Z0.out bb.size)
  have ZR1 := Z0
  have HV1 := Lib.hid hv
  have HN1 := Lib.hid hn
  have HC1 := Lib.hid (And.intro cp cb)
  clear e0_0 e0_1 e0_2 e0_3 e0_4 e1_0 e1_1 e1_2 e1_3 e1_4
  have M1_0 := Lib.hid (M0_0.out.below bb)
  have M1_1 := Lib.hid (M0_1.out.below bb)
  have RP0u := Lib.hid (RP0.out.below bb)
  clear RP0
  have RB0u := Lib.hid (RB0.out.below bb)
  clear RB0
  have RP1 := Lib.hid rn1
  have RB1 := Lib.hid rn2
  clear bb hv hn cp cb rn1 rn2 F M0_0 M0_1 B0
  obtain ⟨e0_0, e0_1, e0_2, e0_3, e0_4⟩ := cell5 M1_0.out
  obtain ⟨e1_0, e1_1, e1_2, e1_3, e1_4⟩ := cell5 M1_1.out
  refine hK.out _ _ (Keeps.cons (by first | assumption | simp [*]) (Keeps.cons (by first | assumption | simp [*]) (Keeps.cons (by first | assumption | simp [*]) (Keeps.cons (by first | assumption | simp [*]) (Keeps.cons (by first | assumption | simp [*]) (Keeps.cons (by first | assumption | simp [*]) (Keeps.cons (by first | assumption | simp [*]) (Keeps.cons (by first | assumption | simp [*]) (Keeps.cons (by first | assumption | simp [*]) (Keeps.cons (by first | assumption | simp [*]) (Keeps.nil))))))))))) ?_
  clear hK K
  clear e0_0 e0_1 e0_2 e0_3 e0_4 e1_0 e1_1 e1_2 e1_3 e1_4
  obtain ⟨s0, hs0⟩ : ∃ s, (((((u1.setCell ⟨w.heap.size, 0, none⟩ (.int .i64 U0.ma)).setCell ⟨w.heap.size, 1, none⟩ (.int .i64 U0.mi)).setCell ⟨w.heap.size, 2, none⟩ (.int .i64 U0.pa)).setCell ⟨w.heap.size, 3, none⟩ (.slice xp0 U0.pre.length xc0)).setCell ⟨w.heap.size, 4, none⟩ (.slice xb0 U0.build.length xd0)) = s := ⟨_, rfl⟩
  obtain ⟨g1, g2, g3, g4, g5⟩ := set5_facts hs0
  have fr0 := M1_0.out.free 0
  have fr1 := M1_0.out.free 1
  have fr2 := M1_0.out.free 2
  have fr3 := M1_0.out.free 3
  have fr4 := M1_0.out.free 4
  obtain ⟨e0_0, e0_1, e0_2, e0_3, e0_4⟩ := cell5 M1_0.out
  obtain ⟨e1_0, e1_1, e1_2, e1_3, e1_4⟩ := cell5 M1_1.out
  have N0_0 := Lib.hid (set5_at g1 M1_0.out)
  have N0_1 := Lib.hid (g2 _ _ _ M1_1.out (by have := HZ.out; omega))
  have Q0 := Lib.hid (g4 _ _ B1.out (by have := HZ.out; omega))
  have RP0us := Lib.hid (g3 _ _ _ RP0u.out (by have := HZ.out; have := ZR0.out; omega))
  clear RP0u
  have RB0us := Lib.hid (g3 _ _ _ RB0u.out (by have := HZ.out; have := ZR0.out; omega))
  clear RB0u
  have RP1s := Lib.hid (g3 _ _ _ RP1.out (by have := HZ.out; have := ZR1.out; omega))
  clear RP1
  have RB1s := Lib.hid (g3 _ _ _ RB1.out (by have := HZ.out; have := ZR1.out; omega))
  clear RB1
  clear g1 g2 g3 g4 g5 B1 M1_0 M1_1
  refine GoG.one (i := 4) rfl (by kernel_rfl) (fun K hK => ?_)
  go_simp
  clear e0_0 e0_1 e0_2 e0_3 e0_4 e1_0 e1_1 e1_2 e1_3 e1_4
  clear fr0 fr1 fr2 fr3 fr4
  obtain ⟨e0_0, e0_1, e0_2, e0_3, e0_4⟩ := cell5 N0_0.out
  obtain ⟨e1_0, e1_1, e1_2, e1_3, e1_4⟩ := cell5 N0_1.out
  refine hK.out _ _ (Keeps.up (by rfl) (Keeps.up (by rfl) (Keeps.up (by rfl) (Keeps.up (by rfl) (Keeps.up (by rfl) (Keeps.cons (by first | assumption | simp [*]) (Keeps.cons (by first | assumption | simp [*]) (Keeps.cons (by first | assumption | simp [*]) (Keeps.cons (by first | assumption | simp [*]) (Keeps.cons (by first | assumption | simp [*]) (Keeps.nil))))))))))) ?_
  clear hK K hs0
  clear e0_0 e0_1 e0_2 e0_3 e0_4 e1_0 e1_1 e1_2 e1_3 e1_4
  obtain ⟨s1, hs1⟩ : ∃ s, (((((s0.setCell ⟨wa.heap.size, 0, none⟩ (.int .i64 U1.ma)).setCell ⟨wa.heap.size, 1, none⟩ (.int .i64 U1.mi)).setCell ⟨wa.heap.size, 2, none⟩ (.int .i64 U1.pa)).setCell ⟨wa.heap.size, 3, none⟩ (.slice xp1 U1.pre.length xc1)).setCell ⟨wa.heap.size, 4, none⟩ (.slice xb1 U1.build.length xd1)) = s := ⟨_, rfl⟩
  obtain ⟨g1, g2, g3, g4, g5⟩ := set5_facts hs1
  have fr0 := N0_1.out.free 0
  have fr1 := N0_1.out.free 1
  have fr2 := N0_1.out.free 2
  have fr3 := N0_1.out.free 3
  have fr4 := N0_1.out.free 4
  obtain ⟨e0_0, e0_1, e0_2, e0_3, e0_4⟩ := cell5 N0_0.out
  obtain ⟨e1_0, e1_1, e1_2, e1_3, e1_4⟩ := cell5 N0_1.out
  have N1_0 := Lib.hid (g2 _ _ _ N0_0.out (by have := HZ.out; omega))
  have N1_1 := Lib.hid (set5_at g1 N0_1.out)
  have Q1 := Lib.hid (g4 _ _ Q0.out (by have := HZ.out; omega))
  have RP0uss := Lib.hid (g3 _ _ _ RP0us.out (by have := HZ.out; have := ZR0.out; omega))
  clear RP0us
  have RB0uss := Lib.hid (g3 _ _ _ RB0us.out (by have := HZ.out; have := ZR0.out; omega))
  clear RB0us
  have RP1ss := Lib.hid (g3 _ _ _ RP1s.out (by have := HZ.out; have := ZR1.out; omega))
  clear RP1s
  have RB1ss := Lib.hid (g3 _ _ _ RB1s.out (by have := HZ.out; have := ZR1.out; omega))
  clear RB1s
  clear g1 g2 g3 g4 g5 Q0 N0_0 N0_1
  refine GoG.one (i := 5) rfl (by kernel_rfl) (fun K hK => ?_)
  go_simp
  clear e0_0 e0_1 e0_2 e0_3 e0_4 e1_0 e1_1 e1_2 e1_3 e1_4
  clear fr0 fr1 fr2 fr3 fr4
  obtain ⟨e0_0, e0_1, e0_2, e0_3, e0_4⟩ := cell5 N1_0.out
  obtain ⟨e1_0, e1_1, e1_2, e1_3, e1_4⟩ := cell5 N1_1.out
  refine hK.out _ _ (Keeps.up (by rfl) (Keeps.up (by rfl) (Keeps.up (by rfl) (Keeps.up (by rfl) (Keeps.up (by rfl) (Keeps.up (by rfl) (Keeps.up (by rfl) (Keeps.up (by rfl) (Keeps.up (by rfl) (Keeps.up (by rfl) (Keeps.nil))))))))))) ?_
  clear hK K hs1
  clear e0_0 e0_1 e0_2 e0_3 e0_4 e1_0 e1_1 e1_2 e1_3 e1_4
  refine GoG.done (by kernel_rfl) ?_ _
  have C0 := Lib.hid (show VerC s1 xp0 xb0 U0 from { HV0.out with pre := RP0uss.out.row, build := RB0uss.out.row })
  have GP0 := Lib.hid (show SRowN wb.heap.size s1 xp0 U0.pre from RP0uss.out.mono (by have := ZR0.out; omega))
  have GB0 := Lib.hid (show SRowN wb.heap.size s1 xb0 U0.build from RB0uss.out.mono (by have := ZR0.out; omega))
  clear HV0 RP0uss RB0uss
  have C1 := Lib.hid (show VerC s1 xp1 xb1 U1 from { HV1.out with pre := RP1ss.out.row, build := RB1ss.out.row })
  have GP1 := Lib.hid (show SRowN wb.heap.size s1 xp1 U1.pre from RP1ss.out.mono (by have := ZR1.out; omega))
  have GB1 := Lib.hid (show SRowN wb.heap.size s1 xb1 U1.build from RB1ss.out.mono (by have := ZR1.out; omega))
  clear HV1 RP1ss RB1ss
  have T0 := Lib.hid N1_0.out
  have T1 := Lib.hid N1_1.out
  have BS := Lib.hid Q1.out
  clear Q1 N1_0 N1_1
  obtain ⟨lv, hlv⟩ : ∃ x, likeVB U0 U1 = x := ⟨_, rfl⟩
  have hln : (lv != lv) = false := by rw [bne_self_eq_false]
  cases r0 : rightB U0 <;> have R0 := Lib.hid r0 <;> clear r0
  · have BB0 := Lib.hid (Below.refl s1.heap.size s1)
    have M0 := text_bad U0 xp0 xb0 xc0 xd0 s1 (C0.out.below BB0.out) (HG.out.errs.below BS.out) R0.out
    unfold verV at M0
    have M := Lib.hid M0
    clear M0
    obtain ⟨e0_0, e0_1, e0_2, e0_3, e0_4⟩ := cell5 T0.out
    obtain ⟨e1_0, e1_1, e1_2, e1_3, e1_4⟩ := cell5 T1.out
    go_wp2_with fail
    refine M.out.mono ?_
    rintro e y1 ⟨rfl, bb⟩
    have B1 := Lib.hid (BS.out.trans (bb.mono BS.out.size))
    have Z1 := Lib.hid (BB0.out.trans (bb.mono BB0.out.size))
    have T0_1 := Lib.hid (T0.out.below bb)
    have T1_1 := Lib.hid (T1.out.below bb)
    clear e0_0 e0_1 e0_2 e0_3 e0_4 e1_0 e1_1 e1_2 e1_3 e1_4
    clear bb M BS BB0 T0 T1
    have M0 := cmp_any U0 U1 xp0 xb0 xp1 xb1 xc0 xd0 xc1 xd1 y1 (C0.out.below Z1.out) (C1.out.below Z1.out) (HG.out.errs.below B1.out) false (rightB U1) R0.out rfl
    unfold verV at M0
    try simp only [Bool.and_self, Bool.and_true, Bool.true_and, Bool.and_false, Bool.false_and, Bool.false_eq_true, if_true, if_false] at M0
    have M := Lib.hid M0
    clear M0
    obtain ⟨e0_0, e0_1, e0_2, e0_3, e0_4⟩ := cell5 T0_1.out
    obtain ⟨e1_0, e1_1, e1_2, e1_3, e1_4⟩ := cell5 T1_1.out
    go_wp2_with fail
    refine M.out.mono ?_
    rintro e y2 ⟨rfl, bb⟩
    have B2 := Lib.hid (B1.out.trans (bb.mono B1.out.size))
    have Z2 := Lib.hid (Z1.out.trans (bb.mono Z1.out.size))
    have T0_2 := Lib.hid (T0_1.out.below bb)
    have T1_2 := Lib.hid (T1_1.out.below bb)
    clear e0_0 e0_1 e0_2 e0_3 e0_4 e1_0 e1_1 e1_2 e1_3 e1_4
    clear bb M B1 Z1 T0_1 T1_1
    obtain ⟨e0_0, e0_1, e0_2, e0_3, e0_4⟩ := cell5 T0_2.out
    obtain ⟨e1_0, e1_1, e1_2, e1_3, e1_4⟩ := cell5 T1_2.out
    go_wp2_with fail
    refine GoG.start [(23, ⟨w.heap.size, 0, none⟩, .int .i64 U0.ma), (23, ⟨w.heap.size, 1, none⟩, .int .i64 U0.mi), (23, ⟨w.heap.size, 2, none⟩, .int .i64 U0.pa), (23, ⟨w.heap.size, 3, none⟩, .slice xp0 U0.pre.length xc0), (23, ⟨w.heap.size, 4, none⟩, .slice xb0 U0.build.length xd0), (23, ⟨wa.heap.size, 0, none⟩, .int .i64 U1.ma), (23, ⟨wa.heap.size, 1, none⟩, .int .i64 U1.mi), (23, ⟨wa.heap.size, 2, none⟩, .int .i64 U1.pa), (23, ⟨wa.heap.size, 3, none⟩, .slice xp1 U1.pre.length xc1), (23, ⟨wa.heap.size, 4, none⟩, .slice xb1 U1.build.length xd1)] (by kernel_rfl) ?_ ?_
    · exact (Keeps.cons (by first | assumption | simp [*]) (Keeps.cons (by first | assumption | simp [*]) (Keeps.cons (by first | assumption | simp [*]) (Keeps.cons (by first | assumption | simp [*]) (Keeps.cons (by first | assumption | simp [*]) (Keeps.cons (by first | assumption | simp [*]) (Keeps.cons (by first | assumption | simp [*]) (Keeps.cons (by first | assumption | simp [*]) (Keeps.cons (by first | assumption | simp [*]) (Keeps.cons (by first | assumption | simp [*]) (Keeps.nil)))))))))))
    refine GoG.take (i := 0) (v := ?_) [1, 4, 5, 13, 14, 19, 20, 23] rfl (by kernel_rfl) (by kernel_rfl) (by kernel_rfl) (by kernel_rfl) (by kernel_rfl) (by kernel_rfl) (fun _ _ _ h => h) (.inl ⟨by rfl, fun wz hS => ?_⟩) ?_
    rotate_left
    · have y0 := hS (23, ⟨w.heap.size, 0, none⟩, .int .i64 U0.ma) (by simp) (by simp)
      have y1 := hS (23, ⟨w.heap.size, 1, none⟩, .int .i64 U0.mi) (by simp) (by simp)
      have y2 := hS (23, ⟨w.heap.size, 2, none⟩, .int .i64 U0.pa) (by simp) (by simp)
      have y3 := hS (23, ⟨w.heap.size, 3, none⟩, .slice xp0 U0.pre.length xc0) (by simp) (by simp)
      have y4 := hS (23, ⟨w.heap.size, 4, none⟩, .slice xb0 U0.build.length xd0) (by simp) (by simp)
      clear hS
      simp only at y0 y1 y2 y3 y4
      go_simp; try (with_reducible rfl)
    try simp only [Act.put, List.setIfInBounds_toArray, List.set_cons_zero, List.set_cons_succ]
    refine GoG.take (i := 2) (v := ?_) [3, 4, 5, 13, 14, 19, 20, 23] rfl (by kernel_rfl) (by kernel_rfl) (by kernel_rfl) (by kernel_rfl) (by kernel_rfl) (by kernel_rfl) (fun _ _ _ h => h) (.inl ⟨by rfl, fun wz hS => ?_⟩) ?_
    rotate_left
    · have y0 := hS (23, ⟨w.heap.size, 0, none⟩, .int .i64 U0.ma) (by simp) (by simp)
      have y1 := hS (23, ⟨w.heap.size, 1, none⟩, .int .i64 U0.mi) (by simp) (by simp)
      have y2 := hS (23, ⟨w.heap.size, 2, none⟩, .int .i64 U0.pa) (by simp) (by simp)
      have y3 := hS (23, ⟨w.heap.size, 3, none⟩, .slice xp0 U0.pre.length xc0) (by simp) (by simp)
      have y4 := hS (23, ⟨w.heap.size, 4, none⟩, .slice xb0 U0.build.length xd0) (by simp) (by simp)
      clear hS
      simp only at y0 y1 y2 y3 y4
      go_simp; try (with_reducible rfl)
    try simp only [Act.put, List.setIfInBounds_toArray, List.set_cons_zero, List.set_cons_succ]
    have BD := Lib.hid (B2.out.drew)
    have ZD := Lib.hid (Z2.out.drew)
    have TD0 := Lib.hid (T0_2.out.below ((Below.refl _ _).drew))
    have TD1 := Lib.hid (T1_2.out.below ((Below.refl _ _).drew))
    clear B2 Z2 T0_2 T1_2
    have M0 := right_any U0 xp0 xb0 xc0 xd0 y2.drew (C0.out.below ZD.out) (HG.out.errs.below BD.out)
    unfold verV at M0
    rw [R0.out] at M0
    have M := Lib.hid M0
    clear M0
    refine GoG.one (i := 1) rfl (by kernel_rfl) (fun K hK => ?_)
    go_simp
    refine M.out.mono ?_
    rintro e y3 ⟨rfl, bb⟩
    have B3 := Lib.hid (BD.out.trans (bb.mono BD.out.size))
    have Z3 := Lib.hid (ZD.out.trans (bb.mono ZD.out.size))
    have T0_3 := Lib.hid (TD0.out.below bb)
    have T1_3 := Lib.hid (TD1.out.below bb)
    clear e0_0 e0_1 e0_2 e0_3 e0_4 e1_0 e1_1 e1_2 e1_3 e1_4
    clear bb M BD ZD TD0 TD1
    obtain ⟨e0_0, e0_1, e0_2, e0_3, e0_4⟩ := cell5 T0_3.out
    obtain ⟨e1_0, e1_1, e1_2, e1_3, e1_4⟩ := cell5 T1_3.out
    refine hK.out _ _ (Keeps.cons (by first | assumption | simp [*]) (Keeps.cons (by first | assumption | simp [*]) (Keeps.cons (by first | assumption | simp [*]) (Keeps.cons (by first | assumption | simp [*]) (Keeps.cons (by first | assumption | simp [*]) (Keeps.cons (by first | assumption | simp [*]) (Keeps.cons (by first | assumption | simp [*]) (Keeps.cons (by first | assumption | simp [*]) (Keeps.cons (by first | assumption | simp [*]) (Keeps.cons (by first | assumption | simp [*]) (Keeps.nil))))))))))) ?_
    clear hK K
    have M0 := refright_any U0 xp0 xb0 xc0 xd0 y3 (C0.out.below Z3.out)
    unfold verV at M0
    rw [R0.out] at M0
    have M := Lib.hid M0
    clear M0
    refine GoG.one (i := 3) rfl (by kernel_rfl) (fun K hK => ?_)
    go_simp
    refine M.out.mono ?_
    rintro e y4 ⟨rfl, bb⟩
    have B4 := Lib.hid (B3.out.trans (bb.mono B3.out.size))
    have Z4 := Lib.hid (Z3.out.trans (bb.mono Z3.out.size))
    have T0_4 := Lib.hid (T0_3.out.below bb)
    have T1_4 := Lib.hid (T1_3.out.below bb)
    clear e0_0 e0_1 e0_2 e0_3 e0_4 e1_0 e1_1 e1_2 e1_3 e1_4
    clear bb M B3 Z3 T0_3 T1_3
    obtain ⟨e0_0, e0_1, e0_2, e0_3, e0_4⟩ := cell5 T0_4.out
    obtain ⟨e1_0, e1_1, e1_2, e1_3, e1_4⟩ := cell5 T1_4.out
    refine hK.out _ _ (Keeps.cons (by first | assumption | simp [*]) (Keeps.cons (by first | assumption | simp [*]) (Keeps.cons (by first | assumption | simp [*]) (Keeps.cons (by first | assumption | simp [*]) (Keeps.cons (by first | assumption | simp [*]) (Keeps.cons (by first | assumption | simp [*]) (Keeps.cons (by first | assumption | simp [*]) (Keeps.cons (by first | assumption | simp [*]) (Keeps.cons (by first | assumption | simp [*]) (Keeps.cons (by first | assumption | simp [*]) (Keeps.nil))))))))))) ?_
    clear hK K
    refine GoG.take (i := 4) (v := ?_) [] rfl (by kernel_rfl) (by kernel_rfl) (by kernel_rfl) (by kernel_rfl) (by kernel_rfl) (by kernel_rfl) (fun _ _ _ h => h) (yields_free (by rfl) (fun w => ?_)) ?_
    rotate_left
    · go_simp; try (with_reducible rfl)
    try simp only [Act.put, List.setIfInBounds_toArray, List.set_cons_zero, List.set_cons_succ]
    refine GoG.take (i := 5) (v := ?_) [] rfl (by kernel_rfl) (by kernel_rfl) (by kernel_rfl) (by kernel_rfl) (by kernel_rfl) (by kernel_rfl) (fun _ _ _ h => h) (yields_free (by rfl) (fun w => ?_)) ?_
    rotate_left
    · go_simp; try (with_reducible rfl)
    try simp only [Act.put, List.setIfInBounds_toArray, List.set_cons_zero, List.set_cons_succ]
    refine GoG.take (i := 6) (v := ?_) [8, 12, 13, 14, 19, 20, 23] rfl (by kernel_rfl) (by kernel_rfl) (by kernel_rfl) (by kernel_rfl) (by kernel_rfl) (by kernel_rfl) (fun _ _ _ h => h) (.inl ⟨by rfl, fun wz hS => ?_⟩) ?_
    rotate_left
    · have y0 := hS (23, ⟨w.heap.size, 0, none⟩, .int .i64 U0.ma) (by simp) (by simp)
      have y1 := hS (23, ⟨w.heap.size, 1, none⟩, .int .i64 U0.mi) (by simp) (by simp)
      have y2 := hS (23, ⟨w.heap.size, 2, none⟩, .int .i64 U0.pa) (by simp) (by simp)
      have y3 := hS (23, ⟨w.heap.size, 3, none⟩, .slice xp0 U0.pre.length xc0) (by simp) (by simp)
      have y4 := hS (23, ⟨w.heap.size, 4, none⟩, .slice xb0 U0.build.length xd0) (by simp) (by simp)
      clear hS
      simp only at y0 y1 y2 y3 y4
      go_simp; try (with_reducible rfl)
    try simp only [Act.put, List.setIfInBounds_toArray, List.set_cons_zero, List.set_cons_succ]
    refine GoG.take (i := 7) (v := ?_) [8, 12, 13, 14, 19, 20, 23] rfl (by kernel_rfl) (by kernel_rfl) (by kernel_rfl) (by kernel_rfl) (by kernel_rfl) (by kernel_rfl) (fun _ _ _ h => h) (.inl ⟨by rfl, fun wz hS => ?_⟩) ?_
    rotate_left
    · have y0 := hS (23, ⟨wa.heap.size, 0, none⟩, .int .i64 U1.ma) (by simp) (by simp)
      have y1 := hS (23, ⟨wa.heap.size, 1, none⟩, .int .i64 U1.mi) (by simp) (by simp)
      have y2 := hS (23, ⟨wa.heap.size, 2, none⟩, .int .i64 U1.pa) (by simp) (by simp)
      have y3 := hS (23, ⟨wa.heap.size, 3, none⟩, .slice xp1 U1.pre.length xc1) (by simp) (by simp)
      have y4 := hS (23, ⟨wa.heap.size, 4, none⟩, .slice xb1 U1.build.length xd1) (by simp) (by simp)
      clear hS
      simp only at y0 y1 y2 y3 y4
      go_simp; try (with_reducible rfl)
    try simp only [Act.put, List.setIfInBounds_toArray, List.set_cons_zero, List.set_cons_succ]
    refine GoG.take (i := 9) (v := ?_) [11, 12, 13, 14, 19, 20, 23] rfl (by kernel_rfl) (by kernel_rfl) (by kernel_rfl) (by kernel_rfl) (by kernel_rfl) (by kernel_rfl) (fun _ _ _ h => h) (.inl ⟨by rfl, fun wz hS => ?_⟩) ?_
    rotate_left
    · have y0 := hS (23, ⟨w.heap.size, 0, none⟩, .int .i64 U0.ma) (by simp) (by simp)
      have y1 := hS (23, ⟨w.heap.size, 1, none⟩, .int .i64 U0.mi) (by simp) (by simp)
      have y2 := hS (23, ⟨w.heap.size, 2, none⟩, .int .i64 U0.pa) (by simp) (by simp)
      have y3 := hS (23, ⟨w.heap.size, 3, none⟩, .slice xp0 U0.pre.length xc0) (by simp) (by simp)
      have y4 := hS (23, ⟨w.heap.size, 4, none⟩, .slice xb0 U0.build.length xd0) (by simp) (by simp)
      clear hS
      simp only at y0 y1 y2 y3 y4
      go_simp; try (with_reducible rfl)
    try simp only [Act.put, List.setIfInBounds_toArray, List.set_cons_zero, List.set_cons_succ]
    refine GoG.take (i := 10) (v := ?_) [11, 12, 13, 14, 19, 20, 23] rfl (by kernel_rfl) (by kernel_rfl) (by kernel_rfl) (by kernel_rfl) (by kernel_rfl) (by kernel_rfl) (fun _ _ _ h => h) (.inl ⟨by rfl, fun wz hS => ?_⟩) ?_
    rotate_left
    · have y0 := hS (23, ⟨wa.heap.size, 0, none⟩, .int .i64 U1.ma) (by simp) (by simp)
      have y1 := hS (23, ⟨wa.heap.size, 1, none⟩, .int .i64 U1.mi) (by simp) (by simp)
      have y2 := hS (23, ⟨wa.heap.size, 2, none⟩, .int .i64 U1.pa) (by simp) (by simp)
      have y3 := hS (23, ⟨wa.heap.size, 3, none⟩, .slice xp1 U1.pre.length xc1) (by simp) (by simp)
      have y4 := hS (23, ⟨wa.heap.size, 4, none⟩, .slice xb1 U1.build.length xd1) (by simp) (by simp)
      clear hS
      simp only at y0 y1 y2 y3 y4
      go_simp; try (with_reducible rfl)
    try simp only [Act.put, List.setIfInBounds_toArray, List.set_cons_zero, List.set_cons_succ]
    have M0 := plike_any U0 U1 xp0 xb0 xp1 xb1 xc0 xd0 xc1 xd1 y4 (C0.out.below Z4.out) (C1.out.below Z4.out)
    unfold verV at M0
    rw [hlv] at M0
    have M := Lib.hid M0
    clear M0
    refine GoG.one (i := 8) rfl (by kernel_rfl) (fun K hK => ?_)
    go_simp
    refine M.out.mono ?_
    rintro e y5 ⟨rfl, bb⟩
    have B5 := Lib.hid (B4.out.trans (bb.mono B4.out.size))
    have Z5 := Lib.hid (Z4.out.trans (bb.mono Z4.out.size))
    have T0_5 := Lib.hid (T0_4.out.below bb)
    have T1_5 := Lib.hid (T1_4.out.below bb)
    clear e0_0 e0_1 e0_2 e0_3 e0_4 e1_0 e1_1 e1_2 e1_3 e1_4
    clear bb M B4 Z4 T0_4 T1_4
    obtain ⟨e0_0, e0_1, e0_2, e0_3, e0_4⟩ := cell5 T0_5.out
    obtain ⟨e1_0, e1_1, e1_2, e1_3, e1_4⟩ := cell5 T1_5.out
    refine hK.out _ _ (Keeps.cons (by first | assumption | simp [*]) (Keeps.cons (by first | assumption | simp [*]) (Keeps.cons (by first | assumption | simp [*]) (Keeps.cons (by first | assumption | simp [*]) (Keeps.cons (by first | assumption | simp [*]) (Keeps.cons (by first | assumption | simp [*]) (Keeps.cons (by first | assumption | simp [*]) (Keeps.cons (by first | assumption | simp [*]) (Keeps.cons (by first | assumption | simp [*]) (Keeps.cons (by first | assumption | simp [*]) (Keeps.nil))))))))))) ?_
    clear hK K
    have M0 := reflike_any U0 U1 xp0 xb0 xp1 xb1 xc0 xd0 xc1 xd1 y5 (C0.out.below Z5.out) (C1.out.below Z5.out)
    unfold verV at M0
    rw [hlv] at M0
    have M := Lib.hid M0
    clear M0
    refine GoG.one (i := 11) rfl (by kernel_rfl) (fun K hK => ?_)
    go_simp
    refine M.out.mono ?_
    rintro e y6 ⟨rfl, bb⟩
    have B6 := Lib.hid (B5.out.trans (bb.mono B5.out.size))
    have Z6 := Lib.hid (Z5.out.trans (bb.mono Z5.out.size))
    have T0_6 := Lib.hid (T0_5.out.below bb)
    have T1_6 := Lib.hid (T1_5.out.below bb)
    clear e0_0 e0_1 e0_2 e0_3 e0_4 e1_0 e1_1 e1_2 e1_3 e1_4
    clear bb M B5 Z5 T0_5 T1_5
    obtain ⟨e0_0, e0_1, e0_2, e0_3, e0_4⟩ := cell5 T0_6.out
    obtain ⟨e1_0, e1_1, e1_2, e1_3, e1_4⟩ := cell5 T1_6.out
    refine hK.out _ _ (Keeps.cons (by first | assumption | simp [*]) (Keeps.cons (by first | assumption | simp [*]) (Keeps.cons (by first | assumption | simp [*]) (Keeps.cons (by first | assumption | simp [*]) (Keeps.cons (by first | assumption | simp [*]) (Keeps.cons (by first | assumption | simp [*]) (Keeps.cons (by first | assumption | simp [*]) (Keeps.cons (by first | assumption | simp [*]) (Keeps.cons (by first | assumption | simp [*]) (Keeps.cons (by first | assumption | simp [*]) (Keeps.nil))))))))))) ?_
    clear hK K
    refine GoG.take (i := 12) (v := ?_) [] rfl (by kernel_rfl) (by kernel_rfl) (by kernel_rfl) (by kernel_rfl) (by kernel_rfl) (by kernel_rfl) (fun _ _ _ h => h) (yields_free (by rfl) (fun w => ?_)) ?_
    rotate_left
    · go_simp; try (with_reducible rfl)
    try simp only [Act.put, List.setIfInBounds_toArray, List.set_cons_zero, List.set_cons_succ]
    refine GoG.take (i := 13) (v := ?_) [] rfl (by kernel_rfl) (by kernel_rfl) (by kernel_rfl) (by kernel_rfl) (by kernel_rfl) (by kernel_rfl) (fun _ _ _ h => h) (yields_free (by rfl) (fun w => ?_)) ?_
    rotate_left
    · go_simp; try (with_reducible rfl)
    try simp only [Act.put, List.setIfInBounds_toArray, List.set_cons_zero, List.set_cons_succ]
    refine GoG.take (i := 14) (v := ?_) [] rfl (by kernel_rfl) (by kernel_rfl) (by kernel_rfl) (by kernel_rfl) (by kernel_rfl) (by kernel_rfl) (fun _ _ _ h => h) (yields_free (by rfl) (fun w => ?_)) ?_
    rotate_left
    · go_simp; try (with_reducible rfl)
    try simp only [Act.put, List.setIfInBounds_toArray, List.set_cons_zero, List.set_cons_succ]
    refine GoG.take (i := 15) (v := ?_) [17, 18, 19, 20, 23] rfl (by kernel_rfl) (by kernel_rfl) (by kernel_rfl) (by kernel_rfl) (by kernel_rfl) (by kernel_rfl) (fun _ _ _ h => h) (.inl ⟨by rfl, fun wz hS => ?_⟩) ?_
    rotate_left
    · have y0 := hS (23, ⟨w.heap.size, 0, none⟩, .int .i64 U0.ma) (by simp) (by simp)
      have y1 := hS (23, ⟨w.heap.size, 1, none⟩, .int .i64 U0.mi) (by simp) (by simp)
      have y2 := hS (23, ⟨w.heap.size, 2, none⟩, .int .i64 U0.pa) (by simp) (by simp)
      have y3 := hS (23, ⟨w.heap.size, 3, none⟩, .slice xp0 U0.pre.length xc0) (by simp) (by simp)
      have y4 := hS (23, ⟨w.heap.size, 4, none⟩, .slice xb0 U0.build.length xd0) (by simp) (by simp)
      clear hS
      simp only at y0 y1 y2 y3 y4
      go_simp; try (with_reducible rfl)
    try simp only [Act.put, List.setIfInBounds_toArray, List.set_cons_zero, List.set_cons_succ]
    refine GoG.take (i := 16) (v := ?_) [17, 18, 19, 20, 23] rfl (by kernel_rfl) (by kernel_rfl) (by kernel_rfl) (by kernel_rfl) (by kernel_rfl) (by kernel_rfl) (fun _ _ _ h => h) (.inl ⟨by rfl, fun wz hS => ?_⟩) ?_
    rotate_left
    · have y0 := hS (23, ⟨w.heap.size, 0, none⟩, .int .i64 U0.ma) (by simp) (by simp)
      have y1 := hS (23, ⟨w.heap.size, 1, none⟩, .int .i64 U0.mi) (by simp) (by simp)
      have y2 := hS (23, ⟨w.heap.size, 2, none⟩, .int .i64 U0.pa) (by simp) (by simp)
      have y3 := hS (23, ⟨w.heap.size, 3, none⟩, .slice xp0 U0.pre.length xc0) (by simp) (by simp)
      have y4 := hS (23, ⟨w.heap.size, 4, none⟩, .slice xb0 U0.build.length xd0) (by simp) (by simp)
      clear hS
      simp only at y0 y1 y2 y3 y4
      go_simp; try (with_reducible rfl)
    try simp only [Act.put, List.setIfInBounds_toArray, List.set_cons_zero, List.set_cons_succ]
    have M0 := plike_any U0 U0 xp0 xb0 xp0 xb0 xc0 xd0 xc0 xd0 y6 (C0.out.below Z6.out) (C0.out.below Z6.out)
    unfold verV at M0
    rw [like_self] at M0
    have M := Lib.hid M0
    clear M0
    refine GoG.one (i := 17) rfl (by kernel_rfl) (fun K hK => ?_)
    go_simp
    refine M.out.mono ?_
    rintro e y7 ⟨rfl, bb⟩
    have B7 := Lib.hid (B6.out.trans (bb.mono B6.out.size))
    have Z7 := Lib.hid (Z6.out.trans (bb.mono Z6.out.size))
    have T0_7 := Lib.hid (T0_6.out.below bb)
    have T1_7 := Lib.hid (T1_6.out.below bb)
    clear e0_0 e0_1 e0_2 e0_3 e0_4 e1_0 e1_1 e1_2 e1_3 e1_4
    clear bb M B6 Z6 T0_6 T1_6
    obtain ⟨e0_0, e0_1, e0_2, e0_3, e0_4⟩ := cell5 T0_7.out
    obtain ⟨e1_0, e1_1, e1_2, e1_3, e1_4⟩ := cell5 T1_7.out
    refine hK.out _ _ (Keeps.cons (by first | assumption | simp [*]) (Keeps.cons (by first | assumption | simp [*]) (Keeps.cons (by first | assumption | simp [*]) (Keeps.cons (by first | assumption | simp [*]) (Keeps.cons (by first | assumption | simp [*]) (Keeps.cons (by first | assumption | simp [*]) (Keeps.cons (by first | assumption | simp [*]) (Keeps.cons (by first | assumption | simp [*]) (Keeps.cons (by first | assumption | simp [*]) (Keeps.cons (by first | assumption | simp [*]) (Keeps.nil))))))))))) ?_
    clear hK K
    refine GoG.take (i := 18) (v := ?_) [] rfl (by kernel_rfl) (by kernel_rfl) (by kernel_rfl) (by kernel_rfl) (by kernel_rfl) (by kernel_rfl) (fun _ _ _ h => h) (yields_free (by rfl) (fun w => ?_)) ?_
    rotate_left
    · go_simp; try (with_reducible rfl)
    try simp only [Act.put, List.setIfInBounds_toArray, List.set_cons_zero, List.set_cons_succ]
    refine GoG.take (i := 19) (v := ?_) [] rfl (by kernel_rfl) (by kernel_rfl) (by kernel_rfl) (by kernel_rfl) (by kernel_rfl) (by kernel_rfl) (fun _ _ _ h => h) (yields_free (by rfl) (fun w => ?_)) ?_
    rotate_left
    · go_simp; try (with_reducible rfl)
    try simp only [Act.put, List.setIfInBounds_toArray, List.set_cons_zero, List.set_cons_succ]
    refine GoG.take (i := 20) (v := ?_) [] rfl (by kernel_rfl) (by kernel_rfl) (by kernel_rfl) (by kernel_rfl) (by kernel_rfl) (by kernel_rfl) (fun _ _ _ h => h) (yields_free (by rfl) (fun w => ?_)) ?_
    rotate_left
    · go_simp; try (with_reducible rfl)
    try simp only [Act.put, List.setIfInBounds_toArray, List.set_cons_zero, List.set_cons_succ]
    have M0 := alive_any y7 (HG.out.below B7.out)
    have M := Lib.hid M0
    clear M0
    refine GoG.one (i := 21) rfl (by kernel_rfl) (fun K hK => ?_)
    go_simp
    refine M.out.mono ?_
    rintro e y8 ⟨rfl, bb⟩
    have B8 := Lib.hid (B7.out.trans (bb.mono B7.out.size))
    have Z8 := Lib.hid (Z7.out.trans (bb.mono Z7.out.size))
    have T0_8 := Lib.hid (T0_7.out.below bb)
    have T1_8 := Lib.hid (T1_7.out.below bb)
    clear e0_0 e0_1 e0_2 e0_3 e0_4 e1_0 e1_1 e1_2 e1_3 e1_4
    clear bb M B7 Z7 T0_7 T1_7
    obtain ⟨e0_0, e0_1, e0_2, e0_3, e0_4⟩ := cell5 T0_8.out
    obtain ⟨e1_0, e1_1, e1_2, e1_3, e1_4⟩ := cell5 T1_8.out
    refine hK.out _ _ (Keeps.cons (by first | assumption | simp [*]) (Keeps.cons (by first | assumption | simp [*]) (Keeps.cons (by first | assumption | simp [*]) (Keeps.cons (by first | assumption | simp [*]) (Keeps.cons (by first | assumption | simp [*]) (Keeps.cons (by first | assumption | simp [*]) (Keeps.cons (by first | assumption | simp [*]) (Keeps.cons (by first | assumption | simp [*]) (Keeps.cons (by first | assumption | simp [*]) (Keeps.cons (by first | assumption | simp [*]) (Keeps.nil))))))))))) ?_
    clear hK K
    refine GoG.take (i := 22) (v := ?_) [] rfl (by kernel_rfl) (by kernel_rfl) (by kernel_rfl) (by kernel_rfl) (by kernel_rfl) (by kernel_rfl) (fun _ _ _ h => h) (yields_free (by rfl) (fun w => ?_)) ?_
    rotate_left
    · go_simp; try (with_reducible rfl)
    try simp only [Act.put, List.setIfInBounds_toArray, List.set_cons_zero, List.set_cons_succ]
    refine GoG.one (i := 23) rfl (by kernel_rfl) (fun K hK => ?_)
    go_simp
    refine hK.out _ _ (Keeps.up (by rfl) (Keeps.up (by rfl) (Keeps.up (by rfl) (Keeps.up (by rfl) (Keeps.up (by rfl) (Keeps.up (by rfl) (Keeps.up (by rfl) (Keeps.up (by rfl) (Keeps.up (by rfl) (Keeps.up (by rfl) (Keeps.nil))))))))))) ?_
    clear hK K
    refine GoG.done (by kernel_rfl) ?_ _
    clear e0_0 e0_1 e0_2 e0_3 e0_4 e1_0 e1_1 e1_2 e1_3 e1_4
    have M0 := refright_any U0 xp0 xb0 xc0 xd0 y8 (C0.out.below Z8.out)
    unfold verV at M0
    rw [R0.out] at M0
    have M := Lib.hid M0
    clear M0
    obtain ⟨e0_0, e0_1, e0_2, e0_3, e0_4⟩ := cell5 T0_8.out
    obtain ⟨e1_0, e1_1, e1_2, e1_3, e1_4⟩ := cell5 T1_8.out
    go_wp2_with fail
    refine M.out.mono ?_
    rintro e y9 ⟨rfl, bb⟩
    have B9 := Lib.hid (B8.out.trans (bb.mono B8.out.size))
    have Z9 := Lib.hid (Z8.out.trans (bb.mono Z8.out.size))
    have T0_9 := Lib.hid (T0_8.out.below bb)
    have T1_9 := Lib.hid (T1_8.out.below bb)
    clear e0_0 e0_1 e0_2 e0_3 e0_4 e1_0 e1_1 e1_2 e1_3 e1_4
    clear bb M B8 Z8 T0_8 T1_8
    go_wp2_with fail
    go_ret
    exact ⟨ret_bool (by first | rfl | decide), B9.out⟩
  cases r1 : rightB U1 <;> have R1 := Lib.hid r1 <;> clear r1
  · have BB0 := Lib.hid (Below.refl s1.heap.size s1)
    have BT := Lib.hid (fun w' (h : Below s1.heap.size s1 w') (hp : PowAt w') => reftext_any U0 xp0 xb0 xc0 xd0 w' (C0.out.below h) hp)
    have BT1 := text_any U0 xp0 xb0 xc0 xd0 s1 (C0.out.below BB0.out) (HG.out.errs.below BS.out) (HG.out.pow.below BS.out) R0.out HC0.out.1 HC0.out.2
    obtain ⟨tx, htx⟩ : ∃ tx, textS U0 = tx := ⟨_, rfl⟩
    have BT2 := BT.out
    rw [htx] at BT1 BT2
    clear BT htx
    have BT := Lib.hid BT2
    clear BT2
    have M0 := BT1
    unfold verV at M0
    have M := Lib.hid M0
    clear M0
    obtain ⟨e0_0, e0_1, e0_2, e0_3, e0_4⟩ := cell5 T0.out
    obtain ⟨e1_0, e1_1, e1_2, e1_3, e1_4⟩ := cell5 T1.out
    go_wp2_with fail
    refine M.out.mono ?_
    rintro e y1 ⟨rfl, bb⟩
    have B1 := Lib.hid (BS.out.trans (bb.mono BS.out.size))
    have Z1 := Lib.hid (BB0.out.trans (bb.mono BB0.out.size))
    have T0_1 := Lib.hid (T0.out.below bb)
    have T1_1 := Lib.hid (T1.out.below bb)
    clear e0_0 e0_1 e0_2 e0_3 e0_4 e1_0 e1_1 e1_2 e1_3 e1_4
    clear bb M BS BB0 T0 T1
    clear BT1
    have M0 := cmp_any U0 U1 xp0 xb0 xp1 xb1 xc0 xd0 xc1 xd1 y1 (C0.out.below Z1.out) (C1.out.below Z1.out) (HG.out.errs.below B1.out) true false R0.out R1.out
    unfold verV at M0
    try simp only [Bool.and_self, Bool.and_true, Bool.true_and, Bool.and_false, Bool.false_and, Bool.false_eq_true, if_true, if_false] at M0
    have M := Lib.hid M0
    clear M0
    obtain ⟨e0_0, e0_1, e0_2, e0_3, e0_4⟩ := cell5 T0_1.out
    obtain ⟨e1_0, e1_1, e1_2, e1_3, e1_4⟩ := cell5 T1_1.out
    go_wp2_with fail
    refine M.out.mono ?_
    rintro e y2 ⟨rfl, bb⟩
    have B2 := Lib.hid (B1.out.trans (bb.mono B1.out.size))
    have Z2 := Lib.hid (Z1.out.trans (bb.mono Z1.out.size))
    have T0_2 := Lib.hid (T0_1.out.below bb)
    have T1_2 := Lib.hid (T1_1.out.below bb)
    clear e0_0 e0_1 e0_2 e0_3 e0_4 e1_0 e1_1 e1_2 e1_3 e1_4
    clear bb M B1 Z1 T0_1 T1_1
    obtain ⟨e0_0, e0_1, e0_2, e0_3, e0_4⟩ := cell5 T0_2.out
    obtain ⟨e1_0, e1_1, e1_2, e1_3, e1_4⟩ := cell5 T1_2.out
    go_wp2_with fail
    refine GoG.start [(23, ⟨w.heap.size, 0, none⟩, .int .i64 U0.ma), (23, ⟨w.heap.size, 1, none⟩, .int .i64 U0.mi), (23, ⟨w.heap.size, 2, none⟩, .int .i64 U0.pa), (23, ⟨w.heap.size, 3, none⟩, .slice xp0 U0.pre.length xc0), (23, ⟨w.heap.size, 4, none⟩, .slice xb0 U0.build.length xd0), (23, ⟨wa.heap.size, 0, none⟩, .int .i64 U1.ma), (23, ⟨wa.heap.size, 1, none⟩, .int .i64 U1.mi), (23, ⟨wa.heap.size, 2, none⟩, .int .i64 U1.pa), (23, ⟨wa.heap.size, 3, none⟩, .slice xp1 U1.pre.length xc1), (23, ⟨wa.heap.size, 4, none⟩, .slice xb1 U1.build.length xd1)] (by kernel_rfl) ?_ ?_
    · exact (Keeps.cons (by first | assumption | simp [*]) (Keeps.cons (by first | assumption | simp [*]) (Keeps.cons (by first | assumption | simp [*]) (Keeps.cons (by first | assumption | simp [*]) (Keeps.cons (by first | assumption | simp [*]) (Keeps.cons (by first | assumption | simp [*]) (Keeps.cons (by first | assumption | simp [*]) (Keeps.cons (by first | assumption | simp [*]) (Keeps.cons (by first | assumption | simp [*]) (Keeps.cons (by first | assumption | simp [*]) (Keeps.nil)))))))))))
    refine GoG.take (i := 0) (v := ?_) [1, 4, 5, 13, 14, 19, 20, 23] rfl (by kernel_rfl) (by kernel_rfl) (by kernel_rfl) (by kernel_rfl) (by kernel_rfl) (by kernel_rfl) (fun _ _ _ h => h) (.inl ⟨by rfl, fun wz hS => ?_⟩) ?_
    rotate_left
    · have y0 := hS (23, ⟨w.heap.size, 0, none⟩, .int .i64 U0.ma) (by simp) (by simp)
      have y1 := hS (23, ⟨w.heap.size, 1, none⟩, .int .i64 U0.mi) (by simp) (by simp)
      have y2 := hS (23, ⟨w.heap.size, 2, none⟩, .int .i64 U0.pa) (by simp) (by simp)
      have y3 := hS (23, ⟨w.heap.size, 3, none⟩, .slice xp0 U0.pre.length xc0) (by simp) (by simp)
      have y4 := hS (23, ⟨w.heap.size, 4, none⟩, .slice xb0 U0.build.length xd0) (by simp) (by simp)
      clear hS
      simp only at y0 y1 y2 y3 y4
      go_simp; try (with_reducible rfl)
    try simp only [Act.put, List.setIfInBounds_toArray, List.set_cons_zero, List.set_cons_succ]
    refine GoG.take (i := 2) (v := ?_) [3, 4, 5, 13, 14, 19, 20, 23] rfl (by kernel_rfl) (by kernel_rfl) (by kernel_rfl) (by kernel_rfl) (by kernel_rfl) (by kernel_rfl) (fun _ _ _ h => h) (.inl ⟨by rfl, fun wz hS => ?_⟩) ?_
    rotate_left
    · have y0 := hS (23, ⟨w.heap.size, 0, none⟩, .int .i64 U0.ma) (by simp) (by simp)
      have y1 := hS (23, ⟨w.heap.size, 1, none⟩, .int .i64 U0.mi) (by simp) (by simp)
      have y2 := hS (23, ⟨w.heap.size, 2, none⟩, .int .i64 U0.pa) (by simp) (by simp)
      have y3 := hS (23, ⟨w.heap.size, 3, none⟩, .slice xp0 U0.pre.length xc0) (by simp) (by simp)
      have y4 := hS (23, ⟨w.heap.size, 4, none⟩, .slice xb0 U0.build.length xd0) (by simp) (by simp)
      clear hS
      simp only at y0 y1 y2 y3 y4
      go_simp; try (with_reducible rfl)
    try simp only [Act.put, List.setIfInBounds_toArray, List.set_cons_zero, List.set_cons_succ]
    have BD := Lib.hid (B2.out.drew)
    have ZD := Lib.hid (Z2.out.drew)
    have TD0 := Lib.hid (T0_2.out.below ((Below.refl _ _).drew))
    have TD1 := Lib.hid (T1_2.out.below ((Below.refl _ _).drew))
    clear B2 Z2 T0_2 T1_2
    have M0 := right_any U0 xp0 xb0 xc0 xd0 y2.drew (C0.out.below ZD.out) (HG.out.errs.below BD.out)
    unfold verV at M0
    rw [R0.out] at M0
    have M := Lib.hid M0
    clear M0
    refine GoG.one (i := 1) rfl (by kernel_rfl) (fun K hK => ?_)
    go_simp
    refine M.out.mono ?_
    rintro e y3 ⟨rfl, bb⟩
    have B3 := Lib.hid (BD.out.trans (bb.mono BD.out.size))
    have Z3 := Lib.hid (ZD.out.trans (bb.mono ZD.out.size))
    have T0_3 := Lib.hid (TD0.out.below bb)
    have T1_3 := Lib.hid (TD1.out.below bb)
    clear e0_0 e0_1 e0_2 e0_3 e0_4 e1_0 e1_1 e1_2 e1_3 e1_4
    clear bb M BD ZD TD0 TD1
    obtain ⟨e0_0, e0_1, e0_2, e0_3, e0_4⟩ := cell5 T0_3.out
    obtain ⟨e1_0, e1_1, e1_2, e1_3, e1_4⟩ := cell5 T1_3.out
    refine hK.out _ _ (Keeps.cons (by first | assumption | simp [*]) (Keeps.cons (by first | assumption | simp [*]) (Keeps.cons (by first | assumption | simp [*]) (Keeps.cons (by first | assumption | simp [*]) (Keeps.cons (by first | assumption | simp [*]) (Keeps.cons (by first | assumption | simp [*]) (Keeps.cons (by first | assumption | simp [*]) (Keeps.cons (by first | assumption | simp [*]) (Keeps.cons (by first | assumption | simp [*]) (Keeps.cons (by first | assumption | simp [*]) (Keeps.nil))))))))))) ?_
    clear hK K
    have M0 := refright_any U0 xp0 xb0 xc0 xd0 y3 (C0.out.below Z3.out)
    unfold verV at M0
    rw [R0.out] at M0
    have M := Lib.hid M0
    clear M0
    refine GoG.one (i := 3) rfl (by kernel_rfl) (fun K hK => ?_)
    go_simp
    refine M.out.mono ?_
    rintro e y4 ⟨rfl, bb⟩
    have B4 := Lib.hid (B3.out.trans (bb.mono B3.out.size))
    have Z4 := Lib.hid (Z3.out.trans (bb.mono Z3.out.size))
    have T0_4 := Lib.hid (T0_3.out.below bb)
    have T1_4 := Lib.hid (T1_3.out.below bb)
    clear e0_0 e0_1 e0_2 e0_3 e0_4 e1_0 e1_1 e1_2 e1_3 e1_4
    clear bb M B3 Z3 T0_3 T1_3
    obtain ⟨e0_0, e0_1, e0_2, e0_3, e0_4⟩ := cell5 T0_4.out
    obtain ⟨e1_0, e1_1, e1_2, e1_3, e1_4⟩ := cell5 T1_4.out
    refine hK.out _ _ (Keeps.cons (by first | assumption | simp [*]) (Keeps.cons (by first | assumption | simp [*]) (Keeps.cons (by first | assumption | simp [*]) (Keeps.cons (by first | assumption | simp [*]) (Keeps.cons (by first | assumption | simp [*]) (Keeps.cons (by first | assumption | simp [*]) (Keeps.cons (by first | assumption | simp [*]) (Keeps.cons (by first | assumption | simp [*]) (Keeps.cons (by first | assumption | simp [*]) (Keeps.cons (by first | assumption | simp [*]) (Keeps.nil))))))))))) ?_
    clear hK K
    refine GoG.take (i := 4) (v := ?_) [] rfl (by kernel_rfl) (by kernel_rfl) (by kernel_rfl) (by kernel_rfl) (by kernel_rfl) (by kernel_rfl) (fun _ _ _ h => h) (yields_free (by rfl) (fun w => ?_)) ?_
    rotate_left
    · go_simp; try (with_reducible rfl)
    try simp only [Act.put, List.setIfInBounds_toArray, List.set_cons_zero, List.set_cons_succ]
    refine GoG.take (i := 5) (v := ?_) [] rfl (by kernel_rfl) (by kernel_rfl) (by kernel_rfl) (by kernel_rfl) (by kernel_rfl) (by kernel_rfl) (fun _ _ _ h => h) (yields_free (by rfl) (fun w => ?_)) ?_
    rotate_left
    · go_simp; try (with_reducible rfl)
    try simp only [Act.put, List.setIfInBounds_toArray, List.set_cons_zero, List.set_cons_succ]
    refine GoG.take (i := 6) (v := ?_) [8, 12, 13, 14, 19, 20, 23] rfl (by kernel_rfl) (by kernel_rfl) (by kernel_rfl) (by kernel_rfl) (by kernel_rfl) (by kernel_rfl) (fun _ _ _ h => h) (.inl ⟨by rfl, fun wz hS => ?_⟩) ?_
    rotate_left
    · have y0 := hS (23, ⟨w.heap.size, 0, none⟩, .int .i64 U0.ma) (by simp) (by simp)
      have y1 := hS (23, ⟨w.heap.size, 1, none⟩, .int .i64 U0.mi) (by simp) (by simp)
      have y2 := hS (23, ⟨w.heap.size, 2, none⟩, .int .i64 U0.pa) (by simp) (by simp)
      have y3 := hS (23, ⟨w.heap.size, 3, none⟩, .slice xp0 U0.pre.length xc0) (by simp) (by simp)
      have y4 := hS (23, ⟨w.heap.size, 4, none⟩, .slice xb0 U0.build.length xd0) (by simp) (by simp)
      clear hS
      simp only at y0 y1 y2 y3 y4
      go_simp; try (with_reducible rfl)
    try simp only [Act.put, List.setIfInBounds_toArray, List.set_cons_zero, List.set_cons_succ]
    refine GoG.take (i := 7) (v := ?_) [8, 12, 13, 14, 19, 20, 23] rfl (by kernel_rfl) (by kernel_rfl) (by kernel_rfl) (by kernel_rfl) (by kernel_rfl) (by kernel_rfl) (fun _ _ _ h => h) (.inl ⟨by rfl, fun wz hS => ?_⟩) ?_
    rotate_left
    · have y0 := hS (23, ⟨wa.heap.size, 0, none⟩, .int .i64 U1.ma) (by simp) (by simp)
      have y1 := hS (23, ⟨wa.heap.size, 1, none⟩, .int .i64 U1.mi) (by simp) (by simp)
      have y2 := hS (23, ⟨wa.heap.size, 2, none⟩, .int .i64 U1.pa) (by simp) (by simp)
      have y3 := hS (23, ⟨wa.heap.size, 3, none⟩, .slice xp1 U1.pre.length xc1) (by simp) (by simp)
      have y4 := hS (23, ⟨wa.heap.size, 4, none⟩, .slice xb1 U1.build.length xd1) (by simp) (by simp)
      clear hS
      simp only at y0 y1 y2 y3 y4
      go_simp; try (with_reducible rfl)
    try simp only [Act.put, List.setIfInBounds_toArray, List.set_cons_zero, List.set_cons_succ]
    refine GoG.take (i := 9) (v := ?_) [11, 12, 13, 14, 19, 20, 23] rfl (by kernel_rfl) (by kernel_rfl) (by kernel_rfl) (by kernel_rfl) (by kernel_rfl) (by kernel_rfl) (fun _ _ _ h => h) (.inl ⟨by rfl, fun wz hS => ?_⟩) ?_
    rotate_left
    · have y0 := hS (23, ⟨w.heap.size, 0, none⟩, .int .i64 U0.ma) (by simp) (by simp)
      have y1 := hS (23, ⟨w.heap.size, 1, none⟩, .int .i64 U0.mi) (by simp) (by simp)
      have y2 := hS (23, ⟨w.heap.size, 2, none⟩, .int .i64 U0.pa) (by simp) (by simp)
      have y3 := hS (23, ⟨w.heap.size, 3, none⟩, .slice xp0 U0.pre.length xc0) (by simp) (by simp)
      have y4 := hS (23, ⟨w.heap.size, 4, none⟩, .slice xb0 U0.build.length xd0) (by simp) (by simp)
      clear hS
      simp only at y0 y1 y2 y3 y4
      go_simp; try (with_reducible rfl)
    try simp only [Act.put, List.setIfInBounds_toArray, List.set_cons_zero, List.set_cons_succ]
    refine GoG.take (i := 10) (v := ?_) [11, 12, 13, 14, 19, 20, 23] rfl (by kernel_rfl) (by kernel_rfl) (by kernel_rfl) (by kernel_rfl) (by kernel_rfl) (by kernel_rfl) (fun _ _ _ h => h) (.inl ⟨by rfl, fun wz hS => ?_⟩) ?_
    rotate_left
    · have y0 := hS (23, ⟨wa.heap.size, 0, none⟩, .int .i64 U1.ma) (by simp) (by simp)
      have y1 := hS (23, ⟨wa.heap.size, 1, none⟩, .int .i64 U1.mi) (by simp) (by simp)
      have y2 := hS (23, ⟨wa.heap.size, 2, none⟩, .int .i64 U1.pa) (by simp) (by simp)
      have y3 := hS (23, ⟨wa.heap.size, 3, none⟩, .slice xp1 U1.pre.length xc1) (by simp) (by simp)
      have y4 := hS (23, ⟨wa.heap.size, 4, none⟩, .slice xb1 U1.build.length xd1) (by simp) (by simp)
      clear hS
      simp only at y0 y1 y2 y3 y4
      go_simp; try (with_reducible rfl)
    try simp only [Act.put, List.setIfInBounds_toArray, List.set_cons_zero, List.set_cons_succ]
    have M0 := plike_any U0 U1 xp0 xb0 xp1 xb1 xc0 xd0 xc1 xd1 y4 (C0.out.below Z4.out) (C1.out.below Z4.out)
    unfold verV at M0
    rw [hlv] at M0
    have M := Lib.hid M0
    clear M0
    refine GoG.one (i := 8) rfl (by kernel_rfl) (fun K hK => ?_)
    go_simp
    refine M.out.mono ?_
    rintro e y5 ⟨rfl, bb⟩
    have B5 := Lib.hid (B4.out.trans (bb.mono B4.out.size))
    have Z5 := Lib.hid (Z4.out.trans (bb.mono Z4.out.size))
    have T0_5 := Lib.hid (T0_4.out.below bb)
    have T1_5 := Lib.hid (T1_4.out.below bb)
    clear e0_0 e0_1 e0_2 e0_3 e0_4 e1_0 e1_1 e1_2 e1_3 e1_4
    clear bb M B4 Z4 T0_4 T1_4
    obtain ⟨e0_0, e0_1, e0_2, e0_3, e0_4⟩ := cell5 T0_5.out
    obtain ⟨e1_0, e1_1, e1_2, e1_3, e1_4⟩ := cell5 T1_5.out
    refine hK.out _ _ (Keeps.cons (by first | assumption | simp [*]) (Keeps.cons (by first | assumption | simp [*]) (Keeps.cons (by first | assumption | simp [*]) (Keeps.cons (by first | assumption | simp [*]) (Keeps.cons (by first | assumption | simp [*]) (Keeps.cons (by first | assumption | simp [*]) (Keeps.cons (by first | assumption | simp [*]) (Keeps.cons (by first | assumption | simp [*]) (Keeps.cons (by first | assumption | simp [*]) (Keeps.cons (by first | assumption | simp [*]) (Keeps.nil))))))))))) ?_
    clear hK K
    have M0 := reflike_any U0 U1 xp0 xb0 xp1 xb1 xc0 xd0 xc1 xd1 y5 (C0.out.below Z5.out) (C1.out.below Z5.out)
    unfold verV at M0
    rw [hlv] at M0
    have M := Lib.hid M0
    clear M0
    refine GoG.one (i := 11) rfl (by kernel_rfl) (fun K hK => ?_)
    go_simp
    refine M.out.mono ?_
    rintro e y6 ⟨rfl, bb⟩
    have B6 := Lib.hid (B5.out.trans (bb.mono B5.out.size))
    have Z6 := Lib.hid (Z5.out.trans (bb.mono Z5.out.size))
    have T0_6 := Lib.hid (T0_5.out.below bb)
    have T1_6 := Lib.hid (T1_5.out.below bb)
    clear e0_0 e0_1 e0_2 e0_3 e0_4 e1_0 e1_1 e1_2 e1_3 e1_4
    clear bb M B5 Z5 T0_5 T1_5
    obtain ⟨e0_0, e0_1, e0_2, e0_3, e0_4⟩ := cell5 T0_6.out
    obtain ⟨e1_0, e1_1, e1_2, e1_3, e1_4⟩ := cell5 T1_6.out
    refine hK.out _ _ (Keeps.cons (by first | assumption | simp [*]) (Keeps.cons (by first | assumption | simp [*]) (Keeps.cons (by first | assumption | simp [*]) (Keeps.cons (by first | assumption | simp [*]) (Keeps.cons (by first | assumption | simp [*]) (Keeps.cons (by first | assumption | simp [*]) (Keeps.cons (by first | assumption | simp [*]) (Keeps.cons (by first | assumption | simp [*]) (Keeps.cons (by first | assumption | simp [*]) (Keeps.cons (by first | assumption | simp [*]) (Keeps.nil))))))))))) ?_
    clear hK K
    refine GoG.take (i := 12) (v := ?_) [] rfl (by kernel_rfl) (by kernel_rfl) (by kernel_rfl) (by kernel_rfl) (by kernel_rfl) (by kernel_rfl) (fun _ _ _ h => h) (yields_free (by rfl) (fun w => ?_)) ?_
    rotate_left
    · go_simp; try (with_reducible rfl)
    try simp only [Act.put, List.setIfInBounds_toArray, List.set_cons_zero, List.set_cons_succ]
    refine GoG.take (i := 13) (v := ?_) [] rfl (by kernel_rfl) (by kernel_rfl) (by kernel_rfl) (by kernel_rfl) (by kernel_rfl) (by kernel_rfl) (fun _ _ _ h => h) (yields_free (by rfl) (fun w => ?_)) ?_
    rotate_left
    · go_simp; try (with_reducible rfl)
    try simp only [Act.put, List.setIfInBounds_toArray, List.set_cons_zero, List.set_cons_succ]
    refine GoG.take (i := 14) (v := ?_) [] rfl (by kernel_rfl) (by kernel_rfl) (by kernel_rfl) (by kernel_rfl) (by kernel_rfl) (by kernel_rfl) (fun _ _ _ h => h) (yields_free (by rfl) (fun w => ?_)) ?_
    rotate_left
    · go_simp; try (with_reducible rfl)
    try simp only [Act.put, List.setIfInBounds_toArray, List.set_cons_zero, List.set_cons_succ]
    refine GoG.take (i := 15) (v := ?_) [17, 18, 19, 20, 23] rfl (by kernel_rfl) (by kernel_rfl) (by kernel_rfl) (by kernel_rfl) (by kernel_rfl) (by kernel_rfl) (fun _ _ _ h => h) (.inl ⟨by rfl, fun wz hS => ?_⟩) ?_
    rotate_left
    · have y0 := hS (23, ⟨w.heap.size, 0, none⟩, .int .i64 U0.ma) (by simp) (by simp)
      have y1 := hS (23, ⟨w.heap.size, 1, none⟩, .int .i64 U0.mi) (by simp) (by simp)
      have y2 := hS (23, ⟨w.heap.size, 2, none⟩, .int .i64 U0.pa) (by simp) (by simp)
      have y3 := hS (23, ⟨w.heap.size, 3, none⟩, .slice xp0 U0.pre.length xc0) (by simp) (by simp)
      have y4 := hS (23, ⟨w.heap.size, 4, none⟩, .slice xb0 U0.build.length xd0) (by simp) (by simp)
      clear hS
      simp only at y0 y1 y2 y3 y4
      go_simp; try (with_reducible rfl)
    try simp only [Act.put, List.setIfInBounds_toArray, List.set_cons_zero, List.set_cons_succ]
    refine GoG.take (i := 16) (v := ?_) [17, 18, 19, 20, 23] rfl (by kernel_rfl) (by kernel_rfl) (by kernel_rfl) (by kernel_rfl) (by kernel_rfl) (by kernel_rfl) (fun _ _ _ h => h) (.inl ⟨by rfl, fun wz hS => ?_⟩) ?_
    rotate_left
    · have y0 := hS (23, ⟨w.heap.size, 0, none⟩, .int .i64 U0.ma) (by simp) (by simp)
      have y1 := hS (23, ⟨w.heap.size, 1, none⟩, .int .i64 U0.mi) (by simp) (by simp)
      have y2 := hS (23, ⟨w.heap.size, 2, none⟩, .int .i64 U0.pa) (by simp) (by simp)
      have y3 := hS (23, ⟨w.heap.size, 3, none⟩, .slice xp0 U0.pre.length xc0) (by simp) (by simp)
      have y4 := hS (23, ⟨w.heap.size, 4, none⟩, .slice xb0 U0.build.length xd0) (by simp) (by simp)
      clear hS
      simp only at y0 y1 y2 y3 y4
      go_simp; try (with_reducible rfl)
    try simp only [Act.put, List.setIfInBounds_toArray, List.set_cons_zero, List.set_cons_succ]
    have M0 := plike_any U0 U0 xp0 xb0 xp0 xb0 xc0 xd0 xc0 xd0 y6 (C0.out.below Z6.out) (C0.out.below Z6.out)
    unfold verV at M0
    rw [like_self] at M0
    have M := Lib.hid M0
    clear M0
    refine GoG.one (i := 17) rfl (by kernel_rfl) (fun K hK => ?_)
    go_simp
    refine M.out.mono ?_
    rintro e y7 ⟨rfl, bb⟩
    have B7 := Lib.hid (B6.out.trans (bb.mono B6.out.size))
    have Z7 := Lib.hid (Z6.out.trans (bb.mono Z6.out.size))
    have T0_7 := Lib.hid (T0_6.out.below bb)
    have T1_7 := Lib.hid (T1_6.out.below bb)
    clear e0_0 e0_1 e0_2 e0_3 e0_4 e1_0 e1_1 e1_2 e1_3 e1_4
    clear bb M B6 Z6 T0_6 T1_6
    obtain ⟨e0_0, e0_1, e0_2, e0_3, e0_4⟩ := cell5 T0_7.out
    obtain ⟨e1_0, e1_1, e1_2, e1_3, e1_4⟩ := cell5 T1_7.out
    refine hK.out _ _ (Keeps.cons (by first | assumption | simp [*]) (Keeps.cons (by first | assumption | simp [*]) (Keeps.cons (by first | assumption | simp [*]) (Keeps.cons (by first | assumption | simp [*]) (Keeps.cons (by first | assumption | simp [*]) (Keeps.cons (by first | assumption | simp [*]) (Keeps.cons (by first | assumption | simp [*]) (Keeps.cons (by first | assumption | simp [*]) (Keeps.cons (by first | assumption | simp [*]) (Keeps.cons (by first | assumption | simp [*]) (Keeps.nil))))))))))) ?_
    clear hK K
    refine GoG.take (i := 18) (v := ?_) [] rfl (by kernel_rfl) (by kernel_rfl) (by kernel_rfl) (by kernel_rfl) (by kernel_rfl) (by kernel_rfl) (fun _ _ _ h => h) (yields_free (by rfl) (fun w => ?_)) ?_
    rotate_left
    · go_simp; try (with_reducible rfl)
    try simp only [Act.put, List.setIfInBounds_toArray, List.set_cons_zero, List.set_cons_succ]
    refine GoG.take (i := 19) (v := ?_) [] rfl (by kernel_rfl) (by kernel_rfl) (by kernel_rfl) (by kernel_rfl) (by kernel_rfl) (by kernel_rfl) (fun _ _ _ h => h) (yields_free (by rfl) (fun w => ?_)) ?_
    rotate_left
    · go_simp; try (with_reducible rfl)
    try simp only [Act.put, List.setIfInBounds_toArray, List.set_cons_zero, List.set_cons_succ]
    refine GoG.take (i := 20) (v := ?_) [] rfl (by kernel_rfl) (by kernel_rfl) (by kernel_rfl) (by kernel_rfl) (by kernel_rfl) (by kernel_rfl) (fun _ _ _ h => h) (yields_free (by rfl) (fun w => ?_)) ?_
    rotate_left
    · go_simp; try (with_reducible rfl)
    try simp only [Act.put, List.setIfInBounds_toArray, List.set_cons_zero, List.set_cons_succ]
    have M0 := alive_any y7 (HG.out.below B7.out)
    have M := Lib.hid M0
    clear M0
    refine GoG.one (i := 21) rfl (by kernel_rfl) (fun K hK => ?_)
    go_simp
    refine M.out.mono ?_
    rintro e y8 ⟨rfl, bb⟩
    have B8 := Lib.hid (B7.out.trans (bb.mono B7.out.size))
    have Z8 := Lib.hid (Z7.out.trans (bb.mono Z7.out.size))
    have T0_8 := Lib.hid (T0_7.out.below bb)
    have T1_8 := Lib.hid (T1_7.out.below bb)
    clear e0_0 e0_1 e0_2 e0_3 e0_4 e1_0 e1_1 e1_2 e1_3 e1_4
    clear bb M B7 Z7 T0_7 T1_7
    obtain ⟨e0_0, e0_1, e0_2, e0_3, e0_4⟩ := cell5 T0_8.out
    obtain ⟨e1_0, e1_1, e1_2, e1_3, e1_4⟩ := cell5 T1_8.out
    refine hK.out _ _ (Keeps.cons (by first | assumption | simp [*]) (Keeps.cons (by first | assumption | simp [*]) (Keeps.cons (by first | assumption | simp [*]) (Keeps.cons (by first | assumption | simp [*]) (Keeps.cons (by first | assumption | simp [*]) (Keeps.cons (by first | assumption | simp [*]) (Keeps.cons (by first | assumption | simp [*]) (Keeps.cons (by first | assumption | simp [*]) (Keeps.cons (by first | assumption | simp [*]) (Keeps.cons (by first | assumption | simp [*]) (Keeps.nil))))))))))) ?_
    clear hK K
    refine GoG.take (i := 22) (v := ?_) [] rfl (by kernel_rfl) (by kernel_rfl) (by kernel_rfl) (by kernel_rfl) (by kernel_rfl) (by kernel_rfl) (fun _ _ _ h => h) (yields_free (by rfl) (fun w => ?_)) ?_
    rotate_left
    · go_simp; try (with_reducible rfl)
    try simp only [Act.put, List.setIfInBounds_toArray, List.set_cons_zero, List.set_cons_succ]
    refine GoG.one (i := 23) rfl (by kernel_rfl) (fun K hK => ?_)
    go_simp
    refine hK.out _ _ (Keeps.up (by rfl) (Keeps.up (by rfl) (Keeps.up (by rfl) (Keeps.up (by rfl) (Keeps.up (by rfl) (Keeps.up (by rfl) (Keeps.up (by rfl) (Keeps.up (by rfl) (Keeps.up (by rfl) (Keeps.up (by rfl) (Keeps.nil))))))))))) ?_
    clear hK K
    refine GoG.done (by kernel_rfl) ?_ _
    clear e0_0 e0_1 e0_2 e0_3 e0_4 e1_0 e1_1 e1_2 e1_3 e1_4
    have M0 := refright_any U0 xp0 xb0 xc0 xd0 y8 (C0.out.below Z8.out)
    unfold verV at M0
    rw [R0.out] at M0
    have M := Lib.hid M0
    clear M0
    obtain ⟨e0_0, e0_1, e0_2, e0_3, e0_4⟩ := cell5 T0_8.out
    obtain ⟨e1_0, e1_1, e1_2, e1_3, e1_4⟩ := cell5 T1_8.out
    go_wp2_with fail
    refine M.out.mono ?_
    rintro e y9 ⟨rfl, bb⟩
    have B9 := Lib.hid (B8.out.trans (bb.mono B8.out.size))
    have Z9 := Lib.hid (Z8.out.trans (bb.mono Z8.out.size))
    have T0_9 := Lib.hid (T0_8.out.below bb)
    have T1_9 := Lib.hid (T1_8.out.below bb)
    clear e0_0 e0_1 e0_2 e0_3 e0_4 e1_0 e1_1 e1_2 e1_3 e1_4
    clear bb M B8 Z8 T0_8 T1_8
    have M0 := BT.out _ Z9.out (HG.out.pow.below B9.out)
    unfold verV at M0
    have M := Lib.hid M0
    clear M0
    obtain ⟨e0_0, e0_1, e0_2, e0_3, e0_4⟩ := cell5 T0_9.out
    obtain ⟨e1_0, e1_1, e1_2, e1_3, e1_4⟩ := cell5 T1_9.out
    go_wp2_with fail
    refine M.out.mono ?_
    rintro e y10 ⟨rfl, bb⟩
    have B10 := Lib.hid (B9.out.trans (bb.mono B9.out.size))
    have Z10 := Lib.hid (Z9.out.trans (bb.mono Z9.out.size))
    have T0_10 := Lib.hid (T0_9.out.below bb)
    have T1_10 := Lib.hid (T1_9.out.below bb)
    clear e0_0 e0_1 e0_2 e0_3 e0_4 e1_0 e1_1 e1_2 e1_3 e1_4
    clear bb M B9 Z9 T0_9 T1_9
    have M0 := refright_any U1 xp1 xb1 xc1 xd1 y10 (C1.out.below Z10.out)
    unfold verV at M0
    rw [R1.out] at M0
    have M := Lib.hid M0
    clear M0
    obtain ⟨e0_0, e0_1, e0_2, e0_3, e0_4⟩ := cell5 T0_10.out
    obtain ⟨e1_0, e1_1, e1_2, e1_3, e1_4⟩ := cell5 T1_10.out
    go_wp2_with fail
    refine M.out.mono ?_
    rintro e y11 ⟨rfl, bb⟩
    have B11 := Lib.hid (B10.out.trans (bb.mono B10.out.size))
    have Z11 := Lib.hid (Z10.out.trans (bb.mono Z10.out.size))
    have T0_11 := Lib.hid (T0_10.out.below bb)
    have T1_11 := Lib.hid (T1_10.out.below bb)
    clear e0_0 e0_1 e0_2 e0_3 e0_4 e1_0 e1_1 e1_2 e1_3 e1_4
    clear bb M B10 Z10 T0_10 T1_10
    go_wp2_with fail
    go_ret
    exact ⟨ret_bool (by first | rfl | decide), B11.out⟩
  · obtain ⟨gv, hgv⟩ : ∃ x, cmpV U0 U1 = x := ⟨_, rfl⟩
    have hgg : (gv == gv) = true := beq_self_eq_true gv
    have BB0 := Lib.hid (Below.refl s1.heap.size s1)
    have BT := Lib.hid (fun w' (h : Below s1.heap.size s1 w') (hp : PowAt w') => reftext_any U0 xp0 xb0 xc0 xd0 w' (C0.out.below h) hp)
    have BT1 := text_any U0 xp0 xb0 xc0 xd0 s1 (C0.out.below BB0.out) (HG.out.errs.below BS.out) (HG.out.pow.below BS.out) R0.out HC0.out.1 HC0.out.2
    obtain ⟨tx, htx⟩ : ∃ tx, textS U0 = tx := ⟨_, rfl⟩
    have BT2 := BT.out
    rw [htx] at BT1 BT2
    clear BT htx
    have BT := Lib.hid BT2
    clear BT2
    have M0 := BT1
    unfold verV at M0
    have M := Lib.hid M0
    clear M0
    obtain ⟨e0_0, e0_1, e0_2, e0_3, e0_4⟩ := cell5 T0.out
    obtain ⟨e1_0, e1_1, e1_2, e1_3, e1_4⟩ := cell5 T1.out
    go_wp2_with fail
    refine M.out.mono ?_
    rintro e y1 ⟨rfl, bb⟩
    have B1 := Lib.hid (BS.out.trans (bb.mono BS.out.size))
    have Z1 := Lib.hid (BB0.out.trans (bb.mono BB0.out.size))
    have T0_1 := Lib.hid (T0.out.below bb)
    have T1_1 := Lib.hid (T1.out.below bb)
    clear e0_0 e0_1 e0_2 e0_3 e0_4 e1_0 e1_1 e1_2 e1_3 e1_4
    clear bb M BS BB0 T0 T1
    clear BT1
    have M0 := cmp_any U0 U1 xp0 xb0 xp1 xb1 xc0 xd0 xc1 xd1 y1 (C0.out.below Z1.out) (C1.out.below Z1.out) (HG.out.errs.below B1.out) true true R0.out R1.out
    unfold verV at M0
    try simp only [Bool.and_self, Bool.and_true, Bool.true_and, Bool.and_false, Bool.false_and, Bool.false_eq_true, if_true, if_false] at M0
    rw [hgv] at M0
    have M := Lib.hid M0
    clear M0
    obtain ⟨e0_0, e0_1, e0_2, e0_3, e0_4⟩ := cell5 T0_1.out
    obtain ⟨e1_0, e1_1, e1_2, e1_3, e1_4⟩ := cell5 T1_1.out
    go_wp2_with fail
    refine M.out.mono ?_
    rintro e y2 ⟨rfl, bb⟩
    have B2 := Lib.hid (B1.out.trans (bb.mono B1.out.size))
    have Z2 := Lib.hid (Z1.out.trans (bb.mono Z1.out.size))
    have T0_2 := Lib.hid (T0_1.out.below bb)
    have T1_2 := Lib.hid (T1_1.out.below bb)
    clear e0_0 e0_1 e0_2 e0_3 e0_4 e1_0 e1_1 e1_2 e1_3 e1_4
    clear bb M B1 Z1 T0_1 T1_1
    obtain ⟨e0_0, e0_1, e0_2, e0_3, e0_4⟩ := cell5 T0_2.out
    obtain ⟨e1_0, e1_1, e1_2, e1_3, e1_4⟩ := cell5 T1_2.out
    go_wp2_with fail
    refine GoG.start [(23, ⟨w.heap.size, 0, none⟩, .int .i64 U0.ma), (23, ⟨w.heap.size, 1, none⟩, .int .i64 U0.mi), (23, ⟨w.heap.size, 2, none⟩, .int .i64 U0.pa), (23, ⟨w.heap.size, 3, none⟩, .slice xp0 U0.pre.length xc0), (23, ⟨w.heap.size, 4, none⟩, .slice xb0 U0.build.length xd0), (23, ⟨wa.heap.size, 0, none⟩, .int .i64 U1.ma), (23, ⟨wa.heap.size, 1, none⟩, .int .i64 U1.mi), (23, ⟨wa.heap.size, 2, none⟩, .int .i64 U1.pa), (23, ⟨wa.heap.size, 3, none⟩, .slice xp1 U1.pre.length xc1), (23, ⟨wa.heap.size, 4, none⟩, .slice xb1 U1.build.length xd1)] (by kernel_rfl) ?_ ?_
    · exact (Keeps.cons (by first | assumption | simp [*]) (Keeps.cons (by first | assumption | simp [*]) (Keeps.cons (by first | assumption | simp [*]) (Keeps.cons (by first | assumption | simp [*]) (Keeps.cons (by first | assumption | simp [*]) (Keeps.cons (by first | assumption | simp [*]) (Keeps.cons (by first | assumption | simp [*]) (Keeps.cons (by first | assumption | simp [*]) (Keeps.cons (by first | assumption | simp [*]) (Keeps.cons (by first | assumption | simp [*]) (Keeps.nil)))))))))))
    refine GoG.take (i := 0) (v := ?_) [1, 4, 5, 13, 14, 19, 20, 23] rfl (by kernel_rfl) (by kernel_rfl) (by kernel_rfl) (by kernel_rfl) (by kernel_rfl) (by kernel_rfl) (fun _ _ _ h => h) (.inl ⟨by rfl, fun wz hS => ?_⟩) ?_
    rotate_left
    · have y0 := hS (23, ⟨w.heap.size, 0, none⟩, .int .i64 U0.ma) (by simp) (by simp)
      have y1 := hS (23, ⟨w.heap.size, 1, none⟩, .int .i64 U0.mi) (by simp) (by simp)
      have y2 := hS (23, ⟨w.heap.size, 2, none⟩, .int .i64 U0.pa) (by simp) (by simp)
      have y3 := hS (23, ⟨w.heap.size, 3, none⟩, .slice xp0 U0.pre.length xc0) (by simp) (by simp)
      have y4 := hS (23, ⟨w.heap.size, 4, none⟩, .slice xb0 U0.build.length xd0) (by simp) (by simp)
      clear hS
      simp only at y0 y1 y2 y3 y4
      go_simp; try (with_reducible rfl)
    try simp only [Act.put, List.setIfInBounds_toArray, List.set_cons_zero, List.set_cons_succ]
    refine GoG.take (i := 2) (v := ?_) [3, 4, 5, 13, 14, 19, 20, 23] rfl (by kernel_rfl) (by kernel_rfl) (by kernel_rfl) (by kernel_rfl) (by kernel_rfl) (by kernel_rfl) (fun _ _ _ h => h) (.inl ⟨by rfl, fun wz hS => ?_⟩) ?_
    rotate_left
    · have y0 := hS (23, ⟨w.heap.size, 0, none⟩, .int .i64 U0.ma) (by simp) (by simp)
      have y1 := hS (23, ⟨w.heap.size, 1, none⟩, .int .i64 U0.mi) (by simp) (by simp)
      have y2 := hS (23, ⟨w.heap.size, 2, none⟩, .int .i64 U0.pa) (by simp) (by simp)
      have y3 := hS (23, ⟨w.heap.size, 3, none⟩, .slice xp0 U0.pre.length xc0) (by simp) (by simp)
      have y4 := hS (23, ⟨w.heap.size, 4, none⟩, .slice xb0 U0.build.length xd0) (by simp) (by simp)
      clear hS
      simp only at y0 y1 y2 y3 y4
      go_simp; try (with_reducible rfl)
    try simp only [Act.put, List.setIfInBounds_toArray, List.set_cons_zero, List.set_cons_succ]
    have BD := Lib.hid (B2.out.drew)
    have ZD := Lib.hid (Z2.out.drew)
    have TD0 := Lib.hid (T0_2.out.below ((Below.refl _ _).drew))
    have TD1 := Lib.hid (T1_2.out.below ((Below.refl _ _).drew))
    clear B2 Z2 T0_2 T1_2
    have M0 := right_any U0 xp0 xb0 xc0 xd0 y2.drew (C0.out.below ZD.out) (HG.out.errs.below BD.out)
    unfold verV at M0
    rw [R0.out] at M0
    have M := Lib.hid M0
    clear M0
    refine GoG.one (i := 1) rfl (by kernel_rfl) (fun K hK => ?_)
    go_simp
    refine M.out.mono ?_
    rintro e y3 ⟨rfl, bb⟩
    have B3 := Lib.hid (BD.out.trans (bb.mono BD.out.size))
    have Z3 := Lib.hid (ZD.out.trans (bb.mono ZD.out.size))
    have T0_3 := Lib.hid (TD0.out.below bb)
    have T1_3 := Lib.hid (TD1.out.below bb)
    clear e0_0 e0_1 e0_2 e0_3 e0_4 e1_0 e1_1 e1_2 e1_3 e1_4
    clear bb M BD ZD TD0 TD1
    obtain ⟨e0_0, e0_1, e0_2, e0_3, e0_4⟩ := cell5 T0_3.out
    obtain ⟨e1_0, e1_1, e1_2, e1_3, e1_4⟩ := cell5 T1_3.out
    refine hK.out _ _ (Keeps.cons (by first | assumption | simp [*]) (Keeps.cons (by first | assumption | simp [*]) (Keeps.cons (by first | assumption | simp [*]) (Keeps.cons (by first | assumption | simp [*]) (Keeps.cons (by first | assumption | simp [*]) (Keeps.cons (by first | assumption | simp [*]) (Keeps.cons (by first | assumption | simp [*]) (Keeps.cons (by first | assumption | simp [*]) (Keeps.cons (by first | assumption | simp [*]) (Keeps.cons (by first | assumption | simp [*]) (Keeps.nil))))))))))) ?_
    clear hK K
    have M0 := refright_any U0 xp0 xb0 xc0 xd0 y3 (C0.out.below Z3.out)
    unfold verV at M0
    rw [R0.out] at M0
    have M := Lib.hid M0
    clear M0
    refine GoG.one (i := 3) rfl (by kernel_rfl) (fun K hK => ?_)
    go_simp
    refine M.out.mono ?_
    rintro e y4 ⟨rfl, bb⟩
    have B4 := Lib.hid (B3.out.trans (bb.mono B3.out.size))
    have Z4 := Lib.hid (Z3.out.trans (bb.mono Z3.out.size))
    have T0_4 := Lib.hid (T0_3.out.below bb)
    have T1_4 := Lib.hid (T1_3.out.below bb)
    clear e0_0 e0_1 e0_2 e0_3 e0_4 e1_0 e1_1 e1_2 e1_3 e1_4
    clear bb M B3 Z3 T0_3 T1_3
    obtain ⟨e0_0, e0_1, e0_2, e0_3, e0_4⟩ := cell5 T0_4.out
    obtain ⟨e1_0, e1_1, e1_2, e1_3, e1_4⟩ := cell5 T1_4.out
    refine hK.out _ _ (Keeps.cons (by first | assumption | simp [*]) (Keeps.cons (by first | assumption | simp [*]) (Keeps.cons (by first | assumption | simp [*]) (Keeps.cons (by first | assumption | simp [*]) (Keeps.cons (by first | assumption | simp [*]) (Keeps.cons (by first | assumption | simp [*]) (Keeps.cons (by first | assumption | simp [*]) (Keeps.cons (by first | assumption | simp [*]) (Keeps.cons (by first | assumption | simp [*]) (Keeps.cons (by first | assumption | simp [*]) (Keeps.nil))))))))))) ?_
    clear hK K
    refine GoG.take (i := 4) (v := ?_) [] rfl (by kernel_rfl) (by kernel_rfl) (by kernel_rfl) (by kernel_rfl) (by kernel_rfl) (by kernel_rfl) (fun _ _ _ h => h) (yields_free (by rfl) (fun w => ?_)) ?_
    rotate_left
    · go_simp; try (with_reducible rfl)
    try simp only [Act.put, List.setIfInBounds_toArray, List.set_cons_zero, List.set_cons_succ]
    refine GoG.take (i := 5) (v := ?_) [] rfl (by kernel_rfl) (by kernel_rfl) (by kernel_rfl) (by kernel_rfl) (by kernel_rfl) (by kernel_rfl) (fun _ _ _ h => h) (yields_free (by rfl) (fun w => ?_)) ?_
    rotate_left
    · go_simp; try (with_reducible rfl)
    try simp only [Act.put, List.setIfInBounds_toArray, List.set_cons_zero, List.set_cons_succ]
    refine GoG.take (i := 6) (v := ?_) [8, 12, 13, 14, 19, 20, 23] rfl (by kernel_rfl) (by kernel_rfl) (by kernel_rfl) (by kernel_rfl) (by kernel_rfl) (by kernel_rfl) (fun _ _ _ h => h) (.inl ⟨by rfl, fun wz hS => ?_⟩) ?_
    rotate_left
    · have y0 := hS (23, ⟨w.heap.size, 0, none⟩, .int .i64 U0.ma) (by simp) (by simp)
      have y1 := hS (23, ⟨w.heap.size, 1, none⟩, .int .i64 U0.mi) (by simp) (by simp)
      have y2 := hS (23, ⟨w.heap.size, 2, none⟩, .int .i64 U0.pa) (by simp) (by simp)
      have y3 := hS (23, ⟨w.heap.size, 3, none⟩, .slice xp0 U0.pre.length xc0) (by simp) (by simp)
      have y4 := hS (23, ⟨w.heap.size, 4, none⟩, .slice xb0 U0.build.length xd0) (by simp) (by simp)
      clear hS
      simp only at y0 y1 y2 y3 y4
      go_simp; try (with_reducible rfl)
    try simp only [Act.put, List.setIfInBounds_toArray, List.set_cons_zero, List.set_cons_succ]
    refine GoG.take (i := 7) (v := ?_) [8, 12, 13, 14, 19, 20, 23] rfl (by kernel_rfl) (by kernel_rfl) (by kernel_rfl) (by kernel_rfl) (by kernel_rfl) (by kernel_rfl) (fun _ _ _ h => h) (.inl ⟨by rfl, fun wz hS => ?_⟩) ?_
    rotate_left
    · have y0 := hS (23, ⟨wa.heap.size, 0, none⟩, .int .i64 U1.ma) (by simp) (by simp)
      have y1 := hS (23, ⟨wa.heap.size, 1, none⟩, .int .i64 U1.mi) (by simp) (by simp)
      have y2 := hS (23, ⟨wa.heap.size, 2, none⟩, .int .i64 U1.pa) (by simp) (by simp)
      have y3 := hS (23, ⟨wa.heap.size, 3, none⟩, .slice xp1 U1.pre.length xc1) (by simp) (by simp)
      have y4 := hS (23, ⟨wa.heap.size, 4, none⟩, .slice xb1 U1.build.length xd1) (by simp) (by simp)
      clear hS
      simp only at y0 y1 y2 y3 y4
      go_simp; try (with_reducible rfl)
    try simp only [Act.put, List.setIfInBounds_toArray, List.set_cons_zero, List.set_cons_succ]
    refine GoG.take (i := 9) (v := ?_) [11, 12, 13, 14, 19, 20, 23] rfl (by kernel_rfl) (by kernel_rfl) (by kernel_rfl) (by kernel_rfl) (by kernel_rfl) (by kernel_rfl) (fun _ _ _ h => h) (.inl ⟨by rfl, fun wz hS => ?_⟩) ?_
    rotate_left
    · have y0 := hS (23, ⟨w.heap.size, 0, none⟩, .int .i64 U0.ma) (by simp) (by simp)
      have y1 := hS (23, ⟨w.heap.size, 1, none⟩, .int .i64 U0.mi) (by simp) (by simp)
      have y2 := hS (23, ⟨w.heap.size, 2, none⟩, .int .i64 U0.pa) (by simp) (by simp)
      have y3 := hS (23, ⟨w.heap.size, 3, none⟩, .slice xp0 U0.pre.length xc0) (by simp) (by simp)
      have y4 := hS (23, ⟨w.heap.size, 4, none⟩, .slice xb0 U0.build.length xd0) (by simp) (by simp)
      clear hS
      simp only at y0 y1 y2 y3 y4
      go_simp; try (with_reducible rfl)
    try simp only [Act.put, List.setIfInBounds_toArray, List.set_cons_zero, List.set_cons_succ]
    refine GoG.take (i := 10) (v := ?_) [11, 12, 13, 14, 19, 20, 23] rfl (by kernel_rfl) (by kernel_rfl) (by kernel_rfl) (by kernel_rfl) (by kernel_rfl) (by kernel_rfl) (fun _ _ _ h => h) (.inl ⟨by rfl, fun wz hS => ?_⟩) ?_
    rotate_left
    · have y0 := hS (23, ⟨wa.heap.size, 0, none⟩, .int .i64 U1.ma) (by simp) (by simp)
      have y1 := hS (23, ⟨wa.heap.size, 1, none⟩, .int .i64 U1.mi) (by simp) (by simp)
      have y2 := hS (23, ⟨wa.heap.size, 2, none⟩, .int .i64 U1.pa) (by simp) (by simp)
      have y3 := hS (23, ⟨wa.heap.size, 3, none⟩, .slice xp1 U1.pre.length xc1) (by simp) (by simp)
      have y4 := hS (23, ⟨wa.heap.size, 4, none⟩, .slice xb1 U1.build.length xd1) (by simp) (by simp)
      clear hS
      simp only at y0 y1 y2 y3 y4
      go_simp; try (with_reducible rfl)
    try simp only [Act.put, List.setIfInBounds_toArray, List.set_cons_zero, List.set_cons_succ]
    have M0 := plike_any U0 U1 xp0 xb0 xp1 xb1 xc0 xd0 xc1 xd1 y4 (C0.out.below Z4.out) (C1.out.below Z4.out)
    unfold verV at M0
    rw [hlv] at M0
    have M := Lib.hid M0
    clear M0
    refine GoG.one (i := 8) rfl (by kernel_rfl) (fun K hK => ?_)
    go_simp
    refine M.out.mono ?_
    rintro e y5 ⟨rfl, bb⟩
    have B5 := Lib.hid (B4.out.trans (bb.mono B4.out.size))
    have Z5 := Lib.hid (Z4.out.trans (bb.mono Z4.out.size))
    have T0_5 := Lib.hid (T0_4.out.below bb)
    have T1_5 := Lib.hid (T1_4.out.below bb)
    clear e0_0 e0_1 e0_2 e0_3 e0_4 e1_0 e1_1 e1_2 e1_3 e1_4
    clear bb M B4 Z4 T0_4 T1_4
    obtain ⟨e0_0, e0_1, e0_2, e0_3, e0_4⟩ := cell5 T0_5.out
    obtain ⟨e1_0, e1_1, e1_2, e1_3, e1_4⟩ := cell5 T1_5.out
    refine hK.out _ _ (Keeps.cons (by first | assumption | simp [*]) (Keeps.cons (by first | assumption | simp [*]) (Keeps.cons (by first | assumption | simp [*]) (Keeps.cons (by first | assumption | simp [*]) (Keeps.cons (by first | assumption | simp [*]) (Keeps.cons (by first | assumption | simp [*]) (Keeps.cons (by first | assumption | simp [*]) (Keeps.cons (by first | assumption | simp [*]) (Keeps.cons (by first | assumption | simp [*]) (Keeps.cons (by first | assumption | simp [*]) (Keeps.nil))))))))))) ?_
    clear hK K
    have M0 := reflike_any U0 U1 xp0 xb0 xp1 xb1 xc0 xd0 xc1 xd1 y5 (C0.out.below Z5.out) (C1.out.below Z5.out)
    unfold verV at M0
    rw [hlv] at M0
    have M := Lib.hid M0
    clear M0
    refine GoG.one (i := 11) rfl (by kernel_rfl) (fun K hK => ?_)
    go_simp
    refine M.out.mono ?_
    rintro e y6 ⟨rfl, bb⟩
    have B6 := Lib.hid (B5.out.trans (bb.mono B5.out.size))
    have Z6 := Lib.hid (Z5.out.trans (bb.mono Z5.out.size))
    have T0_6 := Lib.hid (T0_5.out.below bb)
    have T1_6 := Lib.hid (T1_5.out.below bb)
    clear e0_0 e0_1 e0_2 e0_3 e0_4 e1_0 e1_1 e1_2 e1_3 e1_4
    clear bb M B5 Z5 T0_5 T1_5
    obtain ⟨e0_0, e0_1, e0_2, e0_3, e0_4⟩ := cell5 T0_6.out
    obtain ⟨e1_0, e1_1, e1_2, e1_3, e1_4⟩ := cell5 T1_6.out
    refine hK.out _ _ (Keeps.cons (by first | assumption | simp [*]) (Keeps.cons (by first | assumption | simp [*]) (Keeps.cons (by first | assumption | simp [*]) (Keeps.cons (by first | assumption | simp [*]) (Keeps.cons (by first | assumption | simp [*]) (Keeps.cons (by first | assumption | simp [*]) (Keeps.cons (by first | assumption | simp [*]) (Keeps.cons (by first | assumption | simp [*]) (Keeps.cons (by first | assumption | simp [*]) (Keeps.cons (by first | assumption | simp [*]) (Keeps.nil))))))))))) ?_
    clear hK K
    refine GoG.take (i := 12) (v := ?_) [] rfl (by kernel_rfl) (by kernel_rfl) (by kernel_rfl) (by kernel_rfl) (by kernel_rfl) (by kernel_rfl) (fun _ _ _ h => h) (yields_free (by rfl) (fun w => ?_)) ?_
    rotate_left
    · go_simp; try (with_reducible rfl)
    try simp only [Act.put, List.setIfInBounds_toArray, List.set_cons_zero, List.set_cons_succ]
    refine GoG.take (i := 13) (v := ?_) [] rfl (by kernel_rfl) (by kernel_rfl) (by kernel_rfl) (by kernel_rfl) (by kernel_rfl) (by kernel_rfl) (fun _ _ _ h => h) (yields_free (by rfl) (fun w => ?_)) ?_
    rotate_left
    · go_simp; try (with_reducible rfl)
    try simp only [Act.put, List.setIfInBounds_toArray, List.set_cons_zero, List.set_cons_succ]
    refine GoG.take (i := 14) (v := ?_) [] rfl (by kernel_rfl) (by kernel_rfl) (by kernel_rfl) (by kernel_rfl) (by kernel_rfl) (by kernel_rfl) (fun _ _ _ h => h) (yields_free (by rfl) (fun w => ?_)) ?_
    rotate_left
    · go_simp; try (with_reducible rfl)
    try simp only [Act.put, List.setIfInBounds_toArray, List.set_cons_zero, List.set_cons_succ]
    refine GoG.take (i := 15) (v := ?_) [17, 18, 19, 20, 23] rfl (by kernel_rfl) (by kernel_rfl) (by kernel_rfl) (by kernel_rfl) (by kernel_rfl) (by kernel_rfl) (fun _ _ _ h => h) (.inl ⟨by rfl, fun wz hS => ?_⟩) ?_
    rotate_left
    · have y0 := hS (23, ⟨w.heap.size, 0, none⟩, .int .i64 U0.ma) (by simp) (by simp)
      have y1 := hS (23, ⟨w.heap.size, 1, none⟩, .int .i64 U0.mi) (by simp) (by simp)
      have y2 := hS (23, ⟨w.heap.size, 2, none⟩, .int .i64 U0.pa) (by simp) (by simp)
      have y3 := hS (23, ⟨w.heap.size, 3, none⟩, .slice xp0 U0.pre.length xc0) (by simp) (by simp)
      have y4 := hS (23, ⟨w.heap.size, 4, none⟩, .slice xb0 U0.build.length xd0) (by simp) (by simp)
      clear hS
      simp only at y0 y1 y2 y3 y4
      go_simp; try (with_reducible rfl)
    try simp only [Act.put, List.setIfInBounds_toArray, List.set_cons_zero, List.set_cons_succ]
    refine GoG.take (i := 16) (v := ?_) [17, 18, 19, 20, 23] rfl (by kernel_rfl) (by kernel_rfl) (by kernel_rfl) (by kernel_rfl) (by kernel_rfl) (by kernel_rfl) (fun _ _ _ h => h) (.inl ⟨by rfl, fun wz hS => ?_⟩) ?_
    rotate_left
    · have y0 := hS (23, ⟨w.heap.size, 0, none⟩, .int .i64 U0.ma) (by simp) (by simp)
      have y1 := hS (23, ⟨w.heap.size, 1, none⟩, .int .i64 U0.mi) (by simp) (by simp)
      have y2 := hS (23, ⟨w.heap.size, 2, none⟩, .int .i64 U0.pa) (by simp) (by simp)
      have y3 := hS (23, ⟨w.heap.size, 3, none⟩, .slice xp0 U0.pre.length xc0) (by simp) (by simp)
      have y4 := hS (23, ⟨w.heap.size, 4, none⟩, .slice xb0 U0.build.length xd0) (by simp) (by simp)
      clear hS
      simp only at y0 y1 y2 y3 y4
      go_simp; try (with_reducible rfl)
    try simp only [Act.put, List.setIfInBounds_toArray, List.set_cons_zero, List.set_cons_succ]
    have M0 := plike_any U0 U0 xp0 xb0 xp0 xb0 xc0 xd0 xc0 xd0 y6 (C0.out.below Z6.out) (C0.out.below Z6.out)
    unfold verV at M0
    rw [like_self] at M0
    have M := Lib.hid M0
    clear M0
    refine GoG.one (i := 17) rfl (by kernel_rfl) (fun K hK => ?_)
    go_simp
    refine M.out.mono ?_
    rintro e y7 ⟨rfl, bb⟩
    have B7 := Lib.hid (B6.out.trans (bb.mono B6.out.size))
    have Z7 := Lib.hid (Z6.out.trans (bb.mono Z6.out.size))
    have T0_7 := Lib.hid (T0_6.out.below bb)
    have T1_7 := Lib.hid (T1_6.out.below bb)
    clear e0_0 e0_1 e0_2 e0_3 e0_4 e1_0 e1_1 e1_2 e1_3 e1_4
    clear bb M B6 Z6 T0_6 T1_6
    obtain ⟨e0_0, e0_1, e0_2, e0_3, e0_4⟩ := cell5 T0_7.out
    obtain ⟨e1_0, e1_1, e1_2, e1_3, e1_4⟩ := cell5 T1_7.out
    refine hK.out _ _ (Keeps.cons (by first | assumption | simp [*]) (Keeps.cons (by first | assumption | simp [*]) (Keeps.cons (by first | assumption | simp [*]) (Keeps.cons (by first | assumption | simp [*]) (Keeps.cons (by first | assumption | simp [*]) (Keeps.cons (by first | assumption | simp [*]) (Keeps.cons (by first | assumption | simp [*]) (Keeps.cons (by first | assumption | simp [*]) (Keeps.cons (by first | assumption | simp [*]) (Keeps.cons (by first | assumption | simp [*]) (Keeps.nil))))))))))) ?_
    clear hK K
    refine GoG.take (i := 18) (v := ?_) [] rfl (by kernel_rfl) (by kernel_rfl) (by kernel_rfl) (by kernel_rfl) (by kernel_rfl) (by kernel_rfl) (fun _ _ _ h => h) (yields_free (by rfl) (fun w => ?_)) ?_
    rotate_left
    · go_simp; try (with_reducible rfl)
    try simp only [Act.put, List.setIfInBounds_toArray, List.set_cons_zero, List.set_cons_succ]
    refine GoG.take (i := 19) (v := ?_) [] rfl (by kernel_rfl) (by kernel_rfl) (by kernel_rfl) (by kernel_rfl) (by kernel_rfl) (by kernel_rfl) (fun _ _ _ h => h) (yields_free (by rfl) (fun w => ?_)) ?_
    rotate_left
    · go_simp; try (with_reducible rfl)
    try simp only [Act.put, List.setIfInBounds_toArray, List.set_cons_zero, List.set_cons_succ]
    refine GoG.take (i := 20) (v := ?_) [] rfl (by kernel_rfl) (by kernel_rfl) (by kernel_rfl) (by kernel_rfl) (by kernel_rfl) (by kernel_rfl) (fun _ _ _ h => h) (yields_free (by rfl) (fun w => ?_)) ?_
    rotate_left
    · go_simp; try (with_reducible rfl)
    try simp only [Act.put, List.setIfInBounds_toArray, List.set_cons_zero, List.set_cons_succ]
    have M0 := alive_any y7 (HG.out.below B7.out)
    have M := Lib.hid M0
    clear M0
    refine GoG.one (i := 21) rfl (by kernel_rfl) (fun K hK => ?_)
    go_simp
    refine M.out.mono ?_
    rintro e y8 ⟨rfl, bb⟩
    have B8 := Lib.hid (B7.out.trans (bb.mono B7.out.size))
    have Z8 := Lib.hid (Z7.out.trans (bb.mono Z7.out.size))
    have T0_8 := Lib.hid (T0_7.out.below bb)
    have T1_8 := Lib.hid (T1_7.out.below bb)
    clear e0_0 e0_1 e0_2 e0_3 e0_4 e1_0 e1_1 e1_2 e1_3 e1_4
    clear bb M B7 Z7 T0_7 T1_7
    obtain ⟨e0_0, e0_1, e0_2, e0_3, e0_4⟩ := cell5 T0_8.out
    obtain ⟨e1_0, e1_1, e1_2, e1_3, e1_4⟩ := cell5 T1_8.out
    refine hK.out _ _ (Keeps.cons (by first | assumption | simp [*]) (Keeps.cons (by first | assumption | simp [*]) (Keeps.cons (by first | assumption | simp [*]) (Keeps.cons (by first | assumption | simp [*]) (Keeps.cons (by first | assumption | simp [*]) (Keeps.cons (by first | assumption | simp [*]) (Keeps.cons (by first | assumption | simp [*]) (Keeps.cons (by first | assumption | simp [*]) (Keeps.cons (by first | assumption | simp [*]) (Keeps.cons (by first | assumption | simp [*]) (Keeps.nil))))))))))) ?_
    clear hK K
    refine GoG.take (i := 22) (v := ?_) [] rfl (by kernel_rfl) (by kernel_rfl) (by kernel_rfl) (by kernel_rfl) (by kernel_rfl) (by kernel_rfl) (fun _ _ _ h => h) (yields_free (by rfl) (fun w => ?_)) ?_
    rotate_left
    · go_simp; try (with_reducible rfl)
    try simp only [Act.put, List.setIfInBounds_toArray, List.set_cons_zero, List.set_cons_succ]
    refine GoG.one (i := 23) rfl (by kernel_rfl) (fun K hK => ?_)
    go_simp
    refine hK.out _ _ (Keeps.up (by rfl) (Keeps.up (by rfl) (Keeps.up (by rfl) (Keeps.up (by rfl) (Keeps.up (by rfl) (Keeps.up (by rfl) (Keeps.up (by rfl) (Keeps.up (by rfl) (Keeps.up (by rfl) (Keeps.up (by rfl) (Keeps.nil))))))))))) ?_
    clear hK K
    refine GoG.done (by kernel_rfl) ?_ _
    clear e0_0 e0_1 e0_2 e0_3 e0_4 e1_0 e1_1 e1_2 e1_3 e1_4
    have M0 := refright_any U0 xp0 xb0 xc0 xd0 y8 (C0.out.below Z8.out)
    unfold verV at M0
    rw [R0.out] at M0
    have M := Lib.hid M0
    clear M0
    obtain ⟨e0_0, e0_1, e0_2, e0_3, e0_4⟩ := cell5 T0_8.out
    obtain ⟨e1_0, e1_1, e1_2, e1_3, e1_4⟩ := cell5 T1_8.out
    go_wp2_with fail
    refine M.out.mono ?_
    rintro e y9 ⟨rfl, bb⟩
    have B9 := Lib.hid (B8.out.trans (bb.mono B8.out.size))
    have Z9 := Lib.hid (Z8.out.trans (bb.mono Z8.out.size))
    have T0_9 := Lib.hid (T0_8.out.below bb)
    have T1_9 := Lib.hid (T1_8.out.below bb)
    clear e0_0 e0_1 e0_2 e0_3 e0_4 e1_0 e1_1 e1_2 e1_3 e1_4
    clear bb M B8 Z8 T0_8 T1_8
    have M0 := BT.out _ Z9.out (HG.out.pow.below B9.out)
    unfold verV at M0
    have M := Lib.hid M0
    clear M0
    obtain ⟨e0_0, e0_1, e0_2, e0_3, e0_4⟩ := cell5 T0_9.out
    obtain ⟨e1_0, e1_1, e1_2, e1_3, e1_4⟩ := cell5 T1_9.out
    go_wp2_with fail
    refine M.out.mono ?_
    rintro e y10 ⟨rfl, bb⟩
    have B10 := Lib.hid (B9.out.trans (bb.mono B9.out.size))
    have Z10 := Lib.hid (Z9.out.trans (bb.mono Z9.out.size))
    have T0_10 := Lib.hid (T0_9.out.below bb)
    have T1_10 := Lib.hid (T1_9.out.below bb)
    clear e0_0 e0_1 e0_2 e0_3 e0_4 e1_0 e1_1 e1_2 e1_3 e1_4
    clear bb M B9 Z9 T0_9 T1_9
    have M0 := refright_any U1 xp1 xb1 xc1 xd1 y10 (C1.out.below Z10.out)
    unfold verV at M0
    rw [R1.out] at M0
    have M := Lib.hid M0
    clear M0
    obtain ⟨e0_0, e0_1, e0_2, e0_3, e0_4⟩ := cell5 T0_10.out
    obtain ⟨e1_0, e1_1, e1_2, e1_3, e1_4⟩ := cell5 T1_10.out
    go_wp2_with fail
    refine M.out.mono ?_
    rintro e y11 ⟨rfl, bb⟩
    have B11 := Lib.hid (B10.out.trans (bb.mono B10.out.size))
    have Z11 := Lib.hid (Z10.out.trans (bb.mono Z10.out.size))
    have T0_11 := Lib.hid (T0_10.out.below bb)
    have T1_11 := Lib.hid (T1_10.out.below bb)
    clear e0_0 e0_1 e0_2 e0_3 e0_4 e1_0 e1_1 e1_2 e1_3 e1_4
    clear bb M B10 Z10 T0_10 T1_10
    have M0 := refcmp_any U0 U1 xp0 xb0 xp1 xb1 xc0 xd0 xc1 xd1 y11 (C0.out.below Z11.out) (C1.out.below Z11.out) (right_okP R0.out) (right_okP R1.out)
    unfold verV at M0
    rw [hgv] at M0
    have M := Lib.hid M0
    clear M0
    obtain ⟨e0_0, e0_1, e0_2, e0_3, e0_4⟩ := cell5 T0_11.out
    obtain ⟨e1_0, e1_1, e1_2, e1_3, e1_4⟩ := cell5 T1_11.out
    go_wp2_with fail
    refine M.out.mono ?_
    rintro e y12 ⟨rfl, bb⟩
    have B12 := Lib.hid (B11.out.trans (bb.mono B11.out.size))
    have Z12 := Lib.hid (Z11.out.trans (bb.mono Z11.out.size))
    have T0_12 := Lib.hid (T0_11.out.below bb)
    have T1_12 := Lib.hid (T1_11.out.below bb)
    clear e0_0 e0_1 e0_2 e0_3 e0_4 e1_0 e1_1 e1_2 e1_3 e1_4
    clear bb M B11 Z11 T0_11 T1_11
    go_wp2_with fail
    go_ret
    exact ⟨ret_bool (by first | rfl | decide), B12.out⟩
end Go.Proofs.YtbdhmelebedpiaaGreatDoor
