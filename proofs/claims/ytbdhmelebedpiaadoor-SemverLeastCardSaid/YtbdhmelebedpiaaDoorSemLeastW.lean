/- The law SemverLeast: its walk. -/
import Derived.Test.YtbdhmelebedpiaaDoorSemLaws
import Derived.Test.YtbdhmelebedpiaaDoorSemNextAny
namespace Go.Proofs.YtbdhmelebedpiaaDoor
open Go.RowKit
set_option linter.unusedSimpArgs false
set_option linter.unusedVariables false

theorem i64_range (n : Int) (h : (Lit.int .i64 n).wf = true) : -9223372036854775808 ≤ n ∧ n ≤ 9223372036854775807 := by
  simp [Lit.wf, IntKind.min, IntKind.max, IntKind.signed, IntKind.bits] at h
  omega
theorem tmod_range (c : Int) : -3 ≤ c.tmod 4 ∧ c.tmod 4 ≤ 3 := by
  by_cases h : 0 ≤ c
  · rw [Int.tmod_eq_emod_of_nonneg h]; omega
  · have e : c.tmod 4 = -((-c).tmod 4) := by rw [Int.neg_tmod, Int.neg_neg]
    rw [e, Int.tmod_eq_emod_of_nonneg (by omega)]
    omega
set_option maxHeartbeats 64000000 in
set_option maxRecDepth 100000 in
theorem least_0 (V0 : Vr) (po0 bo0 : Option Addr) (pc0 bc0 : Nat) (V1 : Vr) (po1 bo1 : Option Addr) (pc1 bc1 : Nat) (c : Int) (w : World) (h0 : VerIn w po0 bo0 pc0 bc0 V0) (h1 : VerIn w po1 bo1 pc1 bc1 V1) (hc : -9223372036854775808 ≤ c ∧ c ≤ 9223372036854775807) (hV : Vars w) (hk : (c.tmod 4 + 4) % 4 = 0) :
    Calls Tryd.prog 6 #[verV V0 po0 pc0 bo0 bc0, verV V1 po1 pc1 bo1 bc1, .int .i64 c] w fun e w' => e = .returned (.bool true) ∧ Below w.heap.size w w' := by
  have HG := Lib.hid hV
  clear hV
  have hb3 := tmod_range c
  obtain ⟨t, ht⟩ : ∃ t, c.tmod 4 = t := ⟨_, rfl⟩
  rw [ht] at hk hb3
  obtain ⟨hc1, hc2⟩ := hc
  obtain ⟨ht1, ht2⟩ := hb3
  have hk' : (t + 4).tmod 4 = 0 := by rw [Int.tmod_eq_emod_of_nonneg (by omega)]; exact hk
  unfold verV
  have H0 := Lib.hid h0
  have H1 := Lib.hid h1
  obtain ⟨wa, hw0⟩ : ∃ x, w.alloc (.cells #[.int .i64 V0.ma, .int .i64 V0.mi, .int .i64 V0.pa, .slice po0 V0.pre.length pc0, .slice bo0 V0.build.length bc0] 24) = x := ⟨_, rfl⟩
  obtain ⟨k0, q0, z0⟩ := box_new hw0
  obtain ⟨wb, hw1⟩ : ∃ x, wa.alloc (.cells #[.int .i64 V1.ma, .int .i64 V1.mi, .int .i64 V1.pa, .slice po1 V1.pre.length pc1, .slice bo1 V1.build.length bc1] 24) = x := ⟨_, rfl⟩
  obtain ⟨k1, q1, z1⟩ := box_new hw1
  have K0 := Lib.hid (k0.below q1)
  have K1 := Lib.hid k1
  have BW := Lib.hid (q0.trans (q1.mono q0.size))
  have HZ := Lib.hid (show wa.heap.size = w.heap.size + 1 ∧ wb.heap.size = wa.heap.size + 1 ∧ True from ⟨z0, z1, trivial⟩)
  clear h0 k0 q0 z0 h1 k1 q1 z1
  go_enter Tryd.func6, Tryd.ntmps6
  go_wp2_with fail
  clear hw0 hw1
  obtain ⟨e0_0, e0_1, e0_2, e0_3, e0_4⟩ := cell5 K0.out
  obtain ⟨e1_0, e1_1, e1_2, e1_3, e1_4⟩ := cell5 K1.out
  refine GoG.start [(4, ⟨w.heap.size, 0, none⟩, .int .i64 V0.ma), (4, ⟨w.heap.size, 1, none⟩, .int .i64 V0.mi), (4, ⟨w.heap.size, 2, none⟩, .int .i64 V0.pa), (4, ⟨w.heap.size, 3, none⟩, .slice po0 V0.pre.length pc0), (4, ⟨w.heap.size, 4, none⟩, .slice bo0 V0.build.length bc0), (5, ⟨wa.heap.size, 0, none⟩, .int .i64 V1.ma), (5, ⟨wa.heap.size, 1, none⟩, .int .i64 V1.mi), (5, ⟨wa.heap.size, 2, none⟩, .int .i64 V1.pa), (5, ⟨wa.heap.size, 3, none⟩, .slice po1 V1.pre.length pc1), (5, ⟨wa.heap.size, 4, none⟩, .slice bo1 V1.build.length bc1)] (by kernel_rfl) ?_ ?_
  · exact (Keeps.cons (by first | assumption | simp [*]) (Keeps.cons (by first | assumption | simp [*]) (Keeps.cons (by first | assumption | simp [*]) (Keeps.cons (by first | assumption | simp [*]) (Keeps.cons (by first | assumption | simp [*]) (Keeps.cons (by first | assumption | simp [*]) (Keeps.cons (by first | assumption | simp [*]) (Keeps.cons (by first | assumption | simp [*]) (Keeps.cons (by first | assumption | simp [*]) (Keeps.cons (by first | assumption | simp [*]) (Keeps.nil)))))))))))
  refine GoG.take (i := 0) (v := ?_) [1, 3, 4, 5] rfl (by kernel_rfl) (by kernel_rfl) (by kernel_rfl) (by kernel_rfl) (by kernel_rfl) (by kernel_rfl) (fun _ _ _ h => h) (.inl ⟨by rfl, fun wz hS => ?_⟩) ?_
  rotate_left
  · have y0 := hS (4, ⟨w.heap.size, 0, none⟩, .int .i64 V0.ma) (by simp) (by simp)
    have y1 := hS (4, ⟨w.heap.size, 1, none⟩, .int .i64 V0.mi) (by simp) (by simp)
    have y2 := hS (4, ⟨w.heap.size, 2, none⟩, .int .i64 V0.pa) (by simp) (by simp)
    have y3 := hS (4, ⟨w.heap.size, 3, none⟩, .slice po0 V0.pre.length pc0) (by simp) (by simp)
    have y4 := hS (4, ⟨w.heap.size, 4, none⟩, .slice bo0 V0.build.length bc0) (by simp) (by simp)
    clear hS
    simp only at y0 y1 y2 y3 y4
    go_simp; try (with_reducible rfl)
  try simp only [Act.put, List.setIfInBounds_toArray, List.set_cons_zero, List.set_cons_succ]
  refine GoG.take (i := 2) (v := ?_) [3, 4, 5] rfl (by kernel_rfl) (by kernel_rfl) (by kernel_rfl) (by kernel_rfl) (by kernel_rfl) (by kernel_rfl) (fun _ _ _ h => h) (.inl ⟨by rfl, fun wz hS => ?_⟩) ?_
  rotate_left
  · have y0 := hS (5, ⟨wa.heap.size, 0, none⟩, .int .i64 V1.ma) (by simp) (by simp)
    have y1 := hS (5, ⟨wa.heap.size, 1, none⟩, .int .i64 V1.mi) (by simp) (by simp)
    have y2 := hS (5, ⟨wa.heap.size, 2, none⟩, .int .i64 V1.pa) (by simp) (by simp)
    have y3 := hS (5, ⟨wa.heap.size, 3, none⟩, .slice po1 V1.pre.length pc1) (by simp) (by simp)
    have y4 := hS (5, ⟨wa.heap.size, 4, none⟩, .slice bo1 V1.build.length bc1) (by simp) (by simp)
    clear hS
    simp only at y0 y1 y2 y3 y4
    go_simp; try (with_reducible rfl)
  try simp only [Act.put, List.setIfInBounds_toArray, List.set_cons_zero, List.set_cons_succ]
  have BD := Lib.hid (show Below w.heap.size w wb.drew from BW.out.drew)
  have KD0 := Lib.hid (show BlockAt wb.drew w.heap.size _ _ from K0.out.below ((Below.refl _ _).drew))
  have KD1 := Lib.hid (show BlockAt wb.drew wa.heap.size _ _ from K1.out.below ((Below.refl _ _).drew))
  clear e0_0 e0_1 e0_2 e0_3 e0_4 e1_0 e1_1 e1_2 e1_3 e1_4
  clear K0 K1
  have ZD := Lib.hid (show wb.heap.size ≤ wb.drew.heap.size from Nat.le_refl _)
  have F := Lib.hid (few_base V0 po0 bo0 pc0 bc0 wb.drew (H0.out.below BD.out))
  unfold verV at F
  obtain ⟨e0_0, e0_1, e0_2, e0_3, e0_4⟩ := cell5 KD0.out
  obtain ⟨e1_0, e1_1, e1_2, e1_3, e1_4⟩ := cell5 KD1.out
  refine GoG.one (i := 1) rfl (by kernel_rfl) (fun K hK => ?_)
  go_simp
  refine F.out.mono ?_
  rintro e u0 ⟨xp0, xc0, xb0, xd0, U0, rfl, hv, hn, bb, cp, cb, rn1, rn2⟩
  unfold verV
  have B0 := Lib.hid (BD.out.trans (bb.mono BD.out.size))
  have Z0 := Lib.hid (Nat.le_trans ZD.out bb.size)
  have ZR0 := ZD
  have HV0 := Lib.hid hv
  have HN0 := Lib.hid hn
  have HC0 := Lib.hid (And.intro cp cb)
  clear e0_0 e0_1 e0_2 e0_3 e0_4 e1_0 e1_1 e1_2 e1_3 e1_4
  have M0_0 := Lib.hid (KD0.out.below bb)
  have M0_1 := Lib.hid (KD1.out.below bb)
  have RP0 := Lib.hid rn1
  have RB0 := Lib.hid rn2
  clear bb hv hn cp cb rn1 rn2 F KD0 KD1 BD
  obtain ⟨e0_0, e0_1, e0_2, e0_3, e0_4⟩ := cell5 M0_0.out
  obtain ⟨e1_0, e1_1, e1_2, e1_3, e1_4⟩ := cell5 M0_1.out
  refine hK.out _ _ (Keeps.cons (by first | assumption | simp [*]) (Keeps.cons (by first | assumption | simp [*]) (Keeps.cons (by first | assumption | simp [*]) (Keeps.cons (by first | assumption | simp [*]) (Keeps.cons (by first | assumption | simp [*]) (Keeps.cons (by first | assumption | simp [*]) (Keeps.cons (by first | assumption | simp [*]) (Keeps.cons (by first | assumption | simp [*]) (Keeps.cons (by first | assumption | simp [*]) (Keeps.cons (by first | assumption | simp [*]) (Keeps.nil))))))))))) ?_
  clear hK K
  clear e0_0 e0_1 e0_2 e0_3 e0_4 e1_0 e1_1 e1_2 e1_3 e1_4
  have F := Lib.hid (few_base V1 po1 bo1 pc1 bc1 u0 (H1.out.below B0.out))
  unfold verV at F
  obtain ⟨e0_0, e0_1, e0_2, e0_3, e0_4⟩ := cell5 M0_0.out
  obtain ⟨e1_0, e1_1, e1_2, e1_3, e1_4⟩ := cell5 M0_1.out
  refine GoG.one (i := 3) rfl (by kernel_rfl) (fun K hK => ?_)
  go_simp
  refine F.out.mono ?_
  rintro e u1 ⟨xp1, xc1, xb1, xd1, U1, rfl, hv, hn, bb, cp, cb, rn1, rn2⟩
  unfold verV
  have B1 := Lib.hid (B0.out.trans (bb.mono B0.out.size))
  have Z1 := Lib.hid (Nat.le_trans Z0.out bb.size)
  have ZR1 := Z0
  have HV1 := Lib.hid hv
  have HN1 := Lib.hid hn
  have HC1 := Lib.hid (And.intro cp cb)
  clear e0_0 e0_1 e0_2 e0_3 e0_4 e1_0 e1_1 e1_2 e1_3 e1_4
  have M1_0 := Lib.hid (M0_0.out.below bb)
  have M1_1 := Lib.hid (M0_1.out.below bb)
  have RP0u := Lib.hid (RP0.out.below bb)
  clear RP0
  have RB0u := Lib.hid (RB0.out.below bb)
  clear RB0
  have RP1 := Lib.hid rn1
  have RB1 := Lib.hid rn2
  clear bb hv hn cp cb rn1 rn2 F M0_0 M0_1 B0
  obtain ⟨e0_0, e0_1, e0_2, e0_3, e0_4⟩ := cell5 M1_0.out
  obtain ⟨e1_0, e1_1, e1_2, e1_3, e1_4⟩ := cell5 M1_1.out
  refine hK.out _ _ (Keeps.cons (by first | assumption | simp [*]) (Keeps.cons (by first | assumption | simp [*]) (Keeps.cons (by first | assumption | simp [*]) (Keeps.cons (by first | assumption | simp [*]) (Keeps.cons (by first | assumption | simp [*]) (Keeps.cons (by first | assumption | simp [*]) (Keeps.cons (by first | assumption | simp [*]) (Keeps.cons (by first | assumption | simp [*]) (Keeps.cons (by first | assumption | simp [*]) (Keeps.cons (by first | assumption | simp [*]) (Keeps.nil))))))))))) ?_
  clear hK K
  clear e0_0 e0_1 e0_2 e0_3 e0_4 e1_0 e1_1 e1_2 e1_3 e1_4
  obtain ⟨s0, hs0⟩ : ∃ s, (((((u1.setCell ⟨w.heap.size, 0, none⟩ (.int .i64 U0.ma)).setCell ⟨w.heap.size, 1, none⟩ (.int .i64 U0.mi)).setCell ⟨w.heap.size, 2, none⟩ (.int .i64 U0.pa)).setCell ⟨w.heap.size, 3, none⟩ (.slice xp0 U0.pre.length xc0)).setCell ⟨w.heap.size, 4, none⟩ (.slice xb0 U0.build.length xd0)) = s := ⟨_, rfl⟩
  obtain ⟨g1, g2, g3, g4, g5⟩ := set5_facts hs0
  have fr0 := M1_0.out.free 0
  have fr1 := M1_0.out.free 1
  have fr2 := M1_0.out.free 2
  have fr3 := M1_0.out.free 3
  have fr4 := M1_0.out.free 4
  obtain ⟨e0_0, e0_1, e0_2, e0_3, e0_4⟩ := cell5 M1_0.out
  obtain ⟨e1_0, e1_1, e1_2, e1_3, e1_4⟩ := cell5 M1_1.out
  have N0_0 := Lib.hid (set5_at g1 M1_0.out)
  have N0_1 := Lib.hid (g2 _ _ _ M1_1.out (by have := HZ.out; omega))
  have Q0 := Lib.hid (g4 _ _ B1.out (by have := HZ.out; omega))
  have RP0us := Lib.hid (g3 _ _ _ RP0u.out (by have := HZ.out; have := ZR0.out; omega))
  clear RP0u
  have RB0us := Lib.hid (g3 _ _ _ RB0u.out (by have := HZ.out; have := ZR0.out; omega))
  clear RB0u
  have RP1s := Lib.hid (g3 _ _ _ RP1.out (by have := HZ.out; have := ZR1.out; omega))
  clear RP1
  have RB1s := Lib.hid (g3 _ _ _ RB1.out (by have := HZ.out; have := ZR1.out; omega))
  clear RB1
  clear g1 g2 g3 g4 g5 B1 M1_0 M1_1
  refine GoG.one (i := 4) rfl (by kernel_rfl) (fun K hK => ?_)
  go_simp
  clear e0_0 e0_1 e0_2 e0_3 e0_4 e1_0 e1_1 e1_2 e1_3 e1_4
  clear fr0 fr1 fr2 fr3 fr4
  obtain ⟨e0_0, e0_1, e0_2, e0_3, e0_4⟩ := cell5 N0_0.out
  obtain ⟨e1_0, e1_1, e1_2, e1_3, e1_4⟩ := cell5 N0_1.out
  refine hK.out _ _ (Keeps.up (by rfl) (Keeps.up (by rfl) (Keeps.up (by rfl) (Keeps.up (by rfl) (Keeps.up (by rfl) (Keeps.cons (by first | assumption | simp [*]) (Keeps.cons (by first | assumption | simp [*]) (Keeps.cons (by first | assumption | simp [*]) (Keeps.cons (by first | assumption | simp [*]) (Keeps.cons (by first | assumption | simp [*]) (Keeps.nil))))))))))) ?_
  clear hK K hs0
  clear e0_0 e0_1 e0_2 e0_3 e0_4 e1_0 e1_1 e1_2 e1_3 e1_4
  obtain ⟨s1, hs1⟩ : ∃ s, (((((s0.setCell ⟨wa.heap.size, 0, none⟩ (.int .i64 U1.ma)).setCell ⟨wa.heap.size, 1, none⟩ (.int .i64 U1.mi)).setCell ⟨wa.heap.size, 2, none⟩ (.int .i64 U1.pa)).setCell ⟨wa.heap.size, 3, none⟩ (.slice xp1 U1.pre.length xc1)).setCell ⟨wa.heap.size, 4, none⟩ (.slice xb1 U1.build.length xd1)) = s := ⟨_, rfl⟩
  obtain ⟨g1, g2, g3, g4, g5⟩ := set5_facts hs1
  have fr0 := N0_1.out.free 0
  have fr1 := N0_1.out.free 1
  have fr2 := N0_1.out.free 2
  have fr3 := N0_1.out.free 3
  have fr4 := N0_1.out.free 4
  obtain ⟨e0_0, e0_1, e0_2, e0_3, e0_4⟩ := cell5 N0_0.out
  obtain ⟨e1_0, e1_1, e1_2, e1_3, e1_4⟩ := cell5 N0_1.out
  have N1_0 := Lib.hid (g2 _ _ _ N0_0.out (by have := HZ.out; omega))
  have N1_1 := Lib.hid (set5_at g1 N0_1.out)
  have Q1 := Lib.hid (g4 _ _ Q0.out (by have := HZ.out; omega))
  have RP0uss := Lib.hid (g3 _ _ _ RP0us.out (by have := HZ.out; have := ZR0.out; omega))
  clear RP0us
  have RB0uss := Lib.hid (g3 _ _ _ RB0us.out (by have := HZ.out; have := ZR0.out; omega))
  clear RB0us
  have RP1ss := Lib.hid (g3 _ _ _ RP1s.out (by have := HZ.out; have := ZR1.out; omega))
  clear RP1s
  have RB1ss := Lib.hid (g3 _ _ _ RB1s.out (by have := HZ.out; have := ZR1.out; omega))
  clear RB1s
  clear g1 g2 g3 g4 g5 Q0 N0_0 N0_1
  refine GoG.one (i := 5) rfl (by kernel_rfl) (fun K hK => ?_)
  go_simp
  clear e0_0 e0_1 e0_2 e0_3 e0_4 e1_0 e1_1 e1_2 e1_3 e1_4
  clear fr0 fr1 fr2 fr3 fr4
  obtain ⟨e0_0, e0_1, e0_2, e0_3, e0_4⟩ := cell5 N1_0.out
  obtain ⟨e1_0, e1_1, e1_2, e1_3, e1_4⟩ := cell5 N1_1.out
  refine hK.out _ _ (Keeps.up (by rfl) (Keeps.up (by rfl) (Keeps.up (by rfl) (Keeps.up (by rfl) (Keeps.up (by rfl) (Keeps.up (by rfl) (Keeps.up (by rfl) (Keeps.up (by rfl) (Keeps.up (by rfl) (Keeps.up (by rfl) (Keeps.nil))))))))))) ?_
  clear hK K hs1
  clear e0_0 e0_1 e0_2 e0_3 e0_4 e1_0 e1_1 e1_2 e1_3 e1_4
  refine GoG.done (by kernel_rfl) ?_ _
  have C0 := Lib.hid (show VerC s1 xp0 xb0 U0 from { HV0.out with pre := RP0uss.out.row, build := RB0uss.out.row })
  have GP0 := Lib.hid (show SRowN wb.heap.size s1 xp0 U0.pre from RP0uss.out.mono (by have := ZR0.out; omega))
  have GB0 := Lib.hid (show SRowN wb.heap.size s1 xb0 U0.build from RB0uss.out.mono (by have := ZR0.out; omega))
  clear HV0 RP0uss RB0uss
  have C1 := Lib.hid (show VerC s1 xp1 xb1 U1 from { HV1.out with pre := RP1ss.out.row, build := RB1ss.out.row })
  have GP1 := Lib.hid (show SRowN wb.heap.size s1 xp1 U1.pre from RP1ss.out.mono (by have := ZR1.out; omega))
  have GB1 := Lib.hid (show SRowN wb.heap.size s1 xb1 U1.build from RB1ss.out.mono (by have := ZR1.out; omega))
  clear HV1 RP1ss RB1ss
  have T0 := Lib.hid N1_0.out
  have T1 := Lib.hid N1_1.out
  have BS := Lib.hid Q1.out
  clear Q1 N1_0 N1_1
  have hk0 : (0 : Int) ≤ 0 := by omega
  have hk4 : 0 ≤ 3 := by omega
  have NB : U0.ma ≤ bigM ∧ U0.mi ≤ bigM ∧ U0.pa ≤ bigM := by have := C0.out.nums; unfold bigM; omega
  have NO : U1.ma ≤ bigM ∧ U1.mi ≤ bigM ∧ U1.pa ≤ bigM := by have := C1.out.nums; unfold bigM; omega
  have NBH := Lib.hid NB
  have NOH := Lib.hid NO
  clear NB NO
  have BB := Lib.hid (Below.refl s1.heap.size s1)
  cases r0 : rightB U0 <;> have R0 := Lib.hid r0 <;> clear r0
  · have M0 := next_bad U0 0 xp0 xb0 xc0 xd0 s1 C0.out (HG.out.errs.below BS.out) (.inl R0.out)
    unfold verV relV at M0
    have M := Lib.hid M0
    clear M0
    obtain ⟨e0_0, e0_1, e0_2, e0_3, e0_4⟩ := cell5 T0.out
    go_wp2_with fail
    clear ht hk hk' ht1 ht2
    refine M.out.mono ?_
    rintro e y0 ⟨rfl, bb⟩
    have B0 := Lib.hid (BS.out.trans (bb.mono BS.out.size))
    have T0' := Lib.hid (T0.out.below bb)
    have C0' := Lib.hid (C0.out.below bb)
    clear bb e0_0 e0_1 e0_2 e0_3 e0_4 M BS T0 C0
    have bz : Below w.heap.size w (y0.alloc (.cells #[.int .i64 0, .int .i64 0, .int .i64 0, .slice none 0 0, .slice none 0 0] 24)) := B0.out.alloc B0.out.size _
    have bq : Below y0.heap.size y0 (y0.alloc (.cells #[.int .i64 0, .int .i64 0, .int .i64 0, .slice none 0 0, .slice none 0 0] 24)) := (Below.refl _ _).alloc (Nat.le_refl _) _
    have T2 := Lib.hid (T0'.out.below bq)
    have C2 := Lib.hid (C0'.out.below bq)
    have BZ := Lib.hid bz
    have HL := Lib.hid (alive_any _ (HG.out.below bz))
    clear bz bq B0 T0' C0'
    obtain ⟨e0_0, e0_1, e0_2, e0_3, e0_4⟩ := cell5 T2.out
    go_wp2_with fail
    refine HL.out.mono ?_
    rintro e y1 ⟨rfl, bb⟩
    have T3 := Lib.hid (T2.out.below bb)
    have B3 := Lib.hid (BZ.out.trans (bb.mono BZ.out.size))
    have M1 := right_any U0 xp0 xb0 xc0 xd0 y1 (C2.out.below bb) (HG.out.errs.below B3.out)
    rw [R0.out] at M1
    unfold verV at M1
    have M2 := Lib.hid M1
    clear bb M1 e0_0 e0_1 e0_2 e0_3 e0_4 T2 C2 BZ HL
    obtain ⟨e0_0, e0_1, e0_2, e0_3, e0_4⟩ := cell5 T3.out
    go_wp2_with fail
    refine M2.out.mono ?_
    rintro e y2 ⟨rfl, bb⟩
    have B4 := Lib.hid (B3.out.trans (bb.mono B3.out.size))
    clear bb
    go_wp2_with fail
    go_ret
    exact ⟨ret_bool (by first | rfl | decide), B4.out⟩
  have HNU := Lib.hid (nums_of R0.out NBH.out.1 NBH.out.2.1 NBH.out.2.2)
  have M0 := next_any U0 0 xp0 xb0 xc0 xd0 s1 C0.out (HG.out.errs.below BS.out) R0.out (by omega) (by omega)
  cases hn : nextV U0 0 with
  | none =>
    rw [hn] at M0
    unfold verV nextRes relV at M0
    have M := Lib.hid M0
    clear M0 hn
    obtain ⟨e0_0, e0_1, e0_2, e0_3, e0_4⟩ := cell5 T0.out
    go_wp2_with fail
    clear ht hk hk' ht1 ht2
    refine M.out.mono ?_
    rintro e y0 ⟨rfl, bb⟩
    have B0 := Lib.hid (BS.out.trans (bb.mono BS.out.size))
    clear bb e0_0 e0_1 e0_2 e0_3 e0_4 M BS T0 C0
    have bz : Below w.heap.size w (y0.alloc (.cells #[.int .i64 0, .int .i64 0, .int .i64 0, .slice none 0 0, .slice none 0 0] 24)) := B0.out.alloc B0.out.size _
    have BZ := Lib.hid bz
    have HL := Lib.hid (alive_any _ (HG.out.below bz))
    clear bz B0
    go_wp2_with fail
    refine HL.out.mono ?_
    rintro e y1 ⟨rfl, bb⟩
    have B3 := Lib.hid (BZ.out.trans (bb.mono BZ.out.size))
    clear bb
    go_wp2_with fail
    go_ret
    exact ⟨ret_bool (by first | rfl | decide), B3.out⟩
  | some n =>
    rw [hn] at M0
    have HN := Lib.hid hn
    have HNN := Lib.hid (next_nums HNU.out hn)
    have HAH := Lib.hid (next_ahead HNU.out hn)
    have HW := Lib.hid (nextV_ways hn)
    clear hn
    obtain ⟨na, ni, np, nq, nb⟩ := n
    have e1 : nq = [] := HW.out.1
    have e2 : nb = [] := HW.out.2.1
    subst e1
    subst e2
    unfold verV nextRes relV at M0
    simp only at M0
    have M := Lib.hid M0
    clear M0
    obtain ⟨e0_0, e0_1, e0_2, e0_3, e0_4⟩ := cell5 T0.out
    go_wp2_with fail
    clear ht hk hk' ht1 ht2
    refine M.out.mono ?_
    rintro e y0 ⟨rfl, bb⟩
    have B0 := Lib.hid (BS.out.trans (bb.mono BS.out.size))
    have BX := Lib.hid (BB.out.trans (bb.mono BB.out.size))
    have T0' := Lib.hid (T0.out.below bb)
    have T1' := Lib.hid (T1.out.below bb)
    clear bb e0_0 e0_1 e0_2 e0_3 e0_4 M BS T0 T1 BB
    have bz : Below w.heap.size w (y0.alloc (.cells #[.int .i64 na, .int .i64 ni, .int .i64 np, .slice none 0 0, .slice none 0 0] 24)) := B0.out.alloc B0.out.size _
    have bq : Below y0.heap.size y0 (y0.alloc (.cells #[.int .i64 na, .int .i64 ni, .int .i64 np, .slice none 0 0, .slice none 0 0] 24)) := (Below.refl _ _).alloc (Nat.le_refl _) _
    have TN := Lib.hid (BlockAt.new y0 #[.int .i64 na, .int .i64 ni, .int .i64 np, .slice none 0 0, .slice none 0 0] 24)
    have HY := Lib.hid (show wa.heap.size < y0.heap.size from T1'.out.lt)
    have TA := Lib.hid (T0'.out.below bq)
    have TB := Lib.hid (T1'.out.below bq)
    have BZ := Lib.hid bz
    have BY := Lib.hid (BX.out.trans (bq.mono BX.out.size))
    obtain ⟨a0, a1, a2, a3, a4⟩ := cell5 T0'.out
    have hl0 := T0'.out.lt
    clear bz bq B0 T0' T1' BX
    skip
    have HRN := Lib.hid (right_rel (v := ⟨na, ni, np, [], []⟩) rfl rfl HNN.out)
    have NR := Lib.hid (show (0 ≤ na ∧ na ≤ 9223372036854775807) ∧ (0 ≤ (ni : Int) ∧ (ni : Int) ≤ 9223372036854775807) ∧ (0 ≤ (np : Int) ∧ (np : Int) ≤ 9223372036854775807) from by have h := HNN.out; unfold NumsOk bigM at h; simp only at h; omega)
    go_wp2_with fail
    clear a0 a1 a2 a3 a4 hl0
    generalize y0.alloc (.cells #[.int .i64 na, .int .i64 ni, .int .i64 np, .slice none 0 0, .slice none 0 0] 24) = y1 at *
    have CN := fun w => Lib.hid (rel_verC w na ni np NR.out.1 NR.out.2.1 NR.out.2.2)
    have M1 := cmp_any ⟨na, ni, np, [], []⟩ U0 none none xp0 xb0 0 0 xc0 xd0 y1 (CN y1).out (C0.out.below BY.out) (HG.out.errs.below BZ.out) true true HRN.out R0.out
    rw [HAH.out] at M1
    unfold verV at M1
    simp only [Bool.and_self, if_true, List.length_nil] at M1
    have M := Lib.hid M1
    clear M1
    obtain ⟨a0, a1, a2, a3, a4⟩ := cell5 TA.out
    obtain ⟨b0, b1, b2, b3, b4⟩ := cell5 TB.out
    obtain ⟨n0, n1, n2, n3, n4⟩ := cell5 TN.out
    refine M.out.mono ?_
    rintro e y2 ⟨rfl, bb⟩
    have tA := TA.out.below bb
    have tB := TB.out.below bb
    have tN := TN.out.below bb
    have bZ := BZ.out.trans (bb.mono BZ.out.size)
    have bY := BY.out.trans (bb.mono BY.out.size)
    clear a0 a1 a2 a3 a4 b0 b1 b2 b3 b4 n0 n1 n2 n3 n4
    clear bb M TA TB TN BZ BY
    have TA := Lib.hid tA
    have TB := Lib.hid tB
    have TN := Lib.hid tN
    have BZ := Lib.hid bZ
    have BY := Lib.hid bY
    clear tA tB tN bZ bY
    have M1 := right_any ⟨na, ni, np, [], []⟩ none none 0 0 y2 (CN y2).out (HG.out.errs.below BZ.out)
    rw [HRN.out] at M1
    unfold verV at M1
    simp only [List.length_nil] at M1
    have M := Lib.hid M1
    clear M1
    obtain ⟨a0, a1, a2, a3, a4⟩ := cell5 TA.out
    obtain ⟨b0, b1, b2, b3, b4⟩ := cell5 TB.out
    obtain ⟨n0, n1, n2, n3, n4⟩ := cell5 TN.out
    go_wp2_with fail
    refine M.out.mono ?_
    rintro e y3 ⟨rfl, bb⟩
    have tA := TA.out.below bb
    have tB := TB.out.below bb
    have tN := TN.out.below bb
    have bZ := BZ.out.trans (bb.mono BZ.out.size)
    have bY := BY.out.trans (bb.mono BY.out.size)
    clear a0 a1 a2 a3 a4 b0 b1 b2 b3 b4 n0 n1 n2 n3 n4
    clear bb M TA TB TN BZ BY
    have TA := Lib.hid tA
    have TB := Lib.hid tB
    have TN := Lib.hid tN
    have BZ := Lib.hid bZ
    have BY := Lib.hid bY
    clear tA tB tN bZ bY
    have M := Lib.hid (alive_any y3 (HG.out.below BZ.out))
    obtain ⟨a0, a1, a2, a3, a4⟩ := cell5 TA.out
    obtain ⟨b0, b1, b2, b3, b4⟩ := cell5 TB.out
    obtain ⟨n0, n1, n2, n3, n4⟩ := cell5 TN.out
    go_wp2_with fail
    refine M.out.mono ?_
    rintro e y4 ⟨rfl, bb⟩
    have tA := TA.out.below bb
    have tB := TB.out.below bb
    have tN := TN.out.below bb
    have bZ := BZ.out.trans (bb.mono BZ.out.size)
    have bY := BY.out.trans (bb.mono BY.out.size)
    clear a0 a1 a2 a3 a4 b0 b1 b2 b3 b4 n0 n1 n2 n3 n4
    clear bb M TA TB TN BZ BY
    have TA := Lib.hid tA
    have TB := Lib.hid tB
    have TN := Lib.hid tN
    have BZ := Lib.hid bZ
    have BY := Lib.hid bY
    clear tA tB tN bZ bY
    have kB := ((TB.out.set 3 (.slice none 0 0)).set 4 (.slice none 0 0))
    simp only [List.setIfInBounds_toArray, List.set_cons_zero, List.set_cons_succ] at kB
    have kA := ((TA.out.other (c := wa.heap.size) (by have := HZ.out.1; omega) 3 (.slice none 0 0)).other (c := wa.heap.size) (by have := HZ.out.1; omega) 4 (.slice none 0 0))
    have kN := ((TN.out.other (c := wa.heap.size) (by have := HY.out; omega) 3 (.slice none 0 0)).other (c := wa.heap.size) (by have := HY.out; omega) 4 (.slice none 0 0))
    have kZ := ((BZ.out.setCell (p := ⟨wa.heap.size, 3, none⟩) (by have := HZ.out.1; simp; omega) (.slice none 0 0)).setCell (p := ⟨wa.heap.size, 4, none⟩) (by have := HZ.out.1; simp; omega) (.slice none 0 0))
    have gp := (GP0.out.below BY.out)
    have gb := (GB0.out.below BY.out)
    have hz2 : wa.heap.size < wb.heap.size := by have := HZ.out.2.1; omega
    have gp := gp.set (k := 3) hz2 (.slice none 0 0)
    have gb := gb.set (k := 3) hz2 (.slice none 0 0)
    have gp := gp.set (k := 4) hz2 (.slice none 0 0)
    have gb := gb.set (k := 4) hz2 (.slice none 0 0)
    have fr3 := TB.out.free 3
    have fr4 := TB.out.free 4
    have fr2 := TB.out.free 2
    have fr1 := TB.out.free 1
    obtain ⟨a0, a1, a2, a3, a4⟩ := cell5 TA.out
    obtain ⟨b0, b1, b2, b3, b4⟩ := cell5 TB.out
    obtain ⟨n0, n1, n2, n3, n4⟩ := cell5 TN.out
    obtain ⟨v0, hv0⟩ : ∃ v, ((y4.setCell ⟨wa.heap.size, 3, none⟩ (.slice none 0 0)).setCell ⟨wa.heap.size, 4, none⟩ (.slice none 0 0)) = v := ⟨_, rfl⟩
    rw [hv0] at kA kB kN kZ gp gb
    have C0v := Lib.hid (show VerC v0 xp0 xb0 U0 from { C0.out with pre := gp.row, build := gb.row })
    have SA := Lib.hid kA
    have SB := Lib.hid kB
    have SN := Lib.hid kN
    have SZ := Lib.hid kZ
    clear kA kB kN kZ gp gb
    obtain ⟨q0, q1, q2, q3, q4⟩ := cell5 SB.out
    go_wp2_with fail
    clear a0 a1 a2 a3 a4 b0 b1 b2 b3 b4 n0 n1 n2 n3 n4
    clear hv0 fr1 fr2 fr3 fr4 TA TB TN BZ BY q0 q1 q2 q3 q4
    have TA := SA
    have TB := SB
    have TN := SN
    have BZ := SZ
    have BY := Lib.hid (Below.refl v0.heap.size v0)
    clear SA SB SN SZ
    have CO : ∀ w, VerC w none none ⟨U1.ma, U1.mi, U1.pa, [], []⟩ := fun w => ⟨.inl rfl, .inl rfl, by simp, by simp, by simp, by simp, by have h := C1.out.nums; simp only; omega⟩
    have CO := Lib.hid CO
    have M1 := right_any ⟨U1.ma, U1.mi, U1.pa, [], []⟩ none none 0 0 v0 (CO.out v0) (HG.out.errs.below BZ.out)
    cases ro : rightB ⟨U1.ma, U1.mi, U1.pa, [], []⟩ <;> rw [ro] at M1 <;> have RO := Lib.hid ro <;> clear ro
    · unfold verV at M1
      simp only [List.length_nil] at M1
      have M := Lib.hid M1
      clear M1
      obtain ⟨a0, a1, a2, a3, a4⟩ := cell5 TA.out
      obtain ⟨b0, b1, b2, b3, b4⟩ := cell5 TB.out
      obtain ⟨n0, n1, n2, n3, n4⟩ := cell5 TN.out
      refine M.out.mono ?_
      rintro e v1 ⟨rfl, bb⟩
      have tA := TA.out.below bb
      have tB := TB.out.below bb
      have tN := TN.out.below bb
      have bZ := BZ.out.trans (bb.mono BZ.out.size)
      have bY := BY.out.trans (bb.mono BY.out.size)
      clear a0 a1 a2 a3 a4 b0 b1 b2 b3 b4 n0 n1 n2 n3 n4
      clear bb M TA TB TN BZ BY
      have TA := Lib.hid tA
      have TB := Lib.hid tB
      have TN := Lib.hid tN
      have BZ := Lib.hid bZ
      have BY := Lib.hid bY
      clear tA tB tN bZ bY
      go_wp2_with fail
      go_loopw [137] (fun i wr => ∃ j : Nat, (j : Int) ≤ 0 ∧ i = .int .i64 j ∧ Hid (Below v1.heap.size v1 wr)) (fun i _ => (0 - intOf i).toNat)
      case atStart => exact ⟨0, by omega, rfl, Lib.hid (Below.refl _ _)⟩
      case round =>
        obtain ⟨j, hj, rfl, HBj⟩ := hrel
        have BJ := Lib.hid (BZ.out.trans (HBj.out.mono BZ.out.size))
        have BYJ := Lib.hid (BY.out.trans (HBj.out.mono BY.out.size))
        by_cases hlt : (j : Int) < 0
        · exact absurd hlt (by omega)
        · obtain rfl : j = 0 := by omega
          go_wp2_with fail
          go_ret
          exact ⟨rfl, BJ.out⟩
    · skip
      have hbt := next_between HNU.out HN.out (nums_of RO.out (by have h := NOH.out; simp only; first | exact h.1 | (unfold bigM at *; omega)) (by have h := NOH.out; simp only; unfold bigM at *; omega) (by have h := NOH.out; simp only; unfold bigM at *; omega)) rfl (by omega) (by first | (intro _; rfl) | (intro h; omega)) (by first | (intro _ _; rfl) | (intro h h2; omega))
      obtain ⟨x, hx⟩ : ∃ x, cmpV ⟨U1.ma, U1.mi, U1.pa, [], []⟩ U0 = x := ⟨_, rfl⟩
      obtain ⟨y, hy⟩ : ∃ y, cmpV ⟨U1.ma, U1.mi, U1.pa, [], []⟩ ⟨na, ni, np, [], []⟩ = y := ⟨_, rfl⟩
      rw [hx, hy] at hbt
      have HX := Lib.hid hx
      have HYY := Lib.hid hy
      clear hx hy
      unfold verV at M1
      simp only [List.length_nil] at M1
      have M := Lib.hid M1
      clear M1
      obtain ⟨a0, a1, a2, a3, a4⟩ := cell5 TA.out
      obtain ⟨b0, b1, b2, b3, b4⟩ := cell5 TB.out
      obtain ⟨n0, n1, n2, n3, n4⟩ := cell5 TN.out
      refine M.out.mono ?_
      rintro e v1 ⟨rfl, bb⟩
      have tA := TA.out.below bb
      have tB := TB.out.below bb
      have tN := TN.out.below bb
      have bZ := BZ.out.trans (bb.mono BZ.out.size)
      have bY := BY.out.trans (bb.mono BY.out.size)
      clear a0 a1 a2 a3 a4 b0 b1 b2 b3 b4 n0 n1 n2 n3 n4
      clear bb M TA TB TN BZ BY
      have TA := Lib.hid tA
      have TB := Lib.hid tB
      have TN := Lib.hid tN
      have BZ := Lib.hid bZ
      have BY := Lib.hid bY
      clear tA tB tN bZ bY
      have M1 := cmp_any ⟨U1.ma, U1.mi, U1.pa, [], []⟩ U0 none none xp0 xb0 0 0 xc0 xd0 v1 (CO.out v1) (C0v.out.below BY.out) (HG.out.errs.below BZ.out) true true RO.out R0.out
      rw [HX.out] at M1
      unfold verV at M1
      simp only [Bool.and_self, if_true, List.length_nil] at M1
      have M := Lib.hid M1
      clear M1
      obtain ⟨a0, a1, a2, a3, a4⟩ := cell5 TA.out
      obtain ⟨b0, b1, b2, b3, b4⟩ := cell5 TB.out
      obtain ⟨n0, n1, n2, n3, n4⟩ := cell5 TN.out
      go_wp2_with fail
      refine M.out.mono ?_
      rintro e v2 ⟨rfl, bb⟩
      have tA := TA.out.below bb
      have tB := TB.out.below bb
      have tN := TN.out.below bb
      have bZ := BZ.out.trans (bb.mono BZ.out.size)
      have bY := BY.out.trans (bb.mono BY.out.size)
      clear a0 a1 a2 a3 a4 b0 b1 b2 b3 b4 n0 n1 n2 n3 n4
      clear bb M TA TB TN BZ BY
      have TA := Lib.hid tA
      have TB := Lib.hid tB
      have TN := Lib.hid tN
      have BZ := Lib.hid bZ
      have BY := Lib.hid bY
      clear tA tB tN bZ bY
      have M1 := cmp_any ⟨U1.ma, U1.mi, U1.pa, [], []⟩ ⟨na, ni, np, [], []⟩ none none none none 0 0 0 0 v2 (CO.out v2) (CN v2).out (HG.out.errs.below BZ.out) true true RO.out HRN.out
      rw [HYY.out] at M1
      unfold verV at M1
      simp only [Bool.and_self, if_true, List.length_nil] at M1
      have M := Lib.hid M1
      clear M1
      obtain ⟨a0, a1, a2, a3, a4⟩ := cell5 TA.out
      obtain ⟨b0, b1, b2, b3, b4⟩ := cell5 TB.out
      obtain ⟨n0, n1, n2, n3, n4⟩ := cell5 TN.out
      go_wp2_with fail
      refine M.out.mono ?_
      rintro e v3 ⟨rfl, bb⟩
      have tA := TA.out.below bb
      have tB := TB.out.below bb
      have tN := TN.out.below bb
      have bZ := BZ.out.trans (bb.mono BZ.out.size)
      have bY := BY.out.trans (bb.mono BY.out.size)
      clear a0 a1 a2 a3 a4 b0 b1 b2 b3 b4 n0 n1 n2 n3 n4
      clear bb M TA TB TN BZ BY
      have TA := Lib.hid tA
      have TB := Lib.hid tB
      have TN := Lib.hid tN
      have BZ := Lib.hid bZ
      have BY := Lib.hid bY
      clear tA tB tN bZ bY
      by_cases hx1 : x = 1
      · have hy1 : (y == -1) = false := by rw [beq_eq_false_iff_ne]; exact fun e => hbt ⟨hx1, e⟩
        have hx2 : (x == 1) = true := by rw [beq_iff_eq]; exact hx1
        clear hbt hx1
        go_wp2_with fail
        clear hy1 hx2
        go_loopw [137] (fun i wr => ∃ j : Nat, (j : Int) ≤ 0 ∧ i = .int .i64 j ∧ Hid (Below v3.heap.size v3 wr)) (fun i _ => (0 - intOf i).toNat)
        case atStart => exact ⟨0, by omega, rfl, Lib.hid (Below.refl _ _)⟩
        case round =>
          obtain ⟨j, hj, rfl, HBj⟩ := hrel
          have BJ := Lib.hid (BZ.out.trans (HBj.out.mono BZ.out.size))
          have BYJ := Lib.hid (BY.out.trans (HBj.out.mono BY.out.size))
          by_cases hlt : (j : Int) < 0
          · exact absurd hlt (by omega)
          · obtain rfl : j = 0 := by omega
            go_wp2_with fail
            go_ret
            exact ⟨rfl, BJ.out⟩
      · have hx2 : (x == 1) = false := by rw [beq_eq_false_iff_ne]; exact hx1
        clear hbt hx1
        go_wp2_with fail
        clear hx2
        go_loopw [137] (fun i wr => ∃ j : Nat, (j : Int) ≤ 0 ∧ i = .int .i64 j ∧ Hid (Below v3.heap.size v3 wr)) (fun i _ => (0 - intOf i).toNat)
        case atStart => exact ⟨0, by omega, rfl, Lib.hid (Below.refl _ _)⟩
        case round =>
          obtain ⟨j, hj, rfl, HBj⟩ := hrel
          have BJ := Lib.hid (BZ.out.trans (HBj.out.mono BZ.out.size))
          have BYJ := Lib.hid (BY.out.trans (HBj.out.mono BY.out.size))
          by_cases hlt : (j : Int) < 0
          · exact absurd hlt (by omega)
          · obtain rfl : j = 0 := by omega
            go_wp2_with fail
            go_ret
            exact ⟨rfl, BJ.out⟩
set_option maxHeartbeats 64000000 in
set_option maxRecDepth 100000 in
theorem least_1 (V0 : Vr) (po0 bo0 : Option Addr) (pc0 bc0 : Nat) (V1 : Vr) (po1 bo1 : Option Addr) (pc1 bc1 : Nat) (c : Int) (w : World) (h0 : VerIn w po0 bo0 pc0 bc0 V0) (h1 : VerIn w po1 bo1 pc1 bc1 V1) (hc : -9223372036854775808 ≤ c ∧ c ≤ 9223372036854775807) (hV : Vars w) (hk : (c.tmod 4 + 4) % 4 = 1) :
    Calls Tryd.prog 6 #[verV V0 po0 pc0 bo0 bc0, verV V1 po1 pc1 bo1 bc1, .int .i64 c] w fun e w' => e = .returned (.bool true) ∧ Below w.heap.size w w' := by
  have HG := Lib.hid hV
  clear hV
  have hb3 := tmod_range c
  obtain ⟨t, ht⟩ : ∃ t, c.tmod 4 = t := ⟨_, rfl⟩
  rw [ht] at hk hb3
  obtain ⟨hc1, hc2⟩ := hc
  obtain ⟨ht1, ht2⟩ := hb3
  have hk' : (t + 4).tmod 4 = 1 := by rw [Int.tmod_eq_emod_of_nonneg (by omega)]; exact hk
  unfold verV
  have H0 := Lib.hid h0
  have H1 := Lib.hid h1
  obtain ⟨wa, hw0⟩ : ∃ x, w.alloc (.cells #[.int .i64 V0.ma, .int .i64 V0.mi, .int .i64 V0.pa, .slice po0 V0.pre.length pc0, .slice bo0 V0.build.length bc0] 24) = x := ⟨_, rfl⟩
  obtain ⟨k0, q0, z0⟩ := box_new hw0
  obtain ⟨wb, hw1⟩ : ∃ x, wa.alloc (.cells #[.int .i64 V1.ma, .int .i64 V1.mi, .int .i64 V1.pa, .slice po1 V1.pre.length pc1, .slice bo1 V1.build.length bc1] 24) = x := ⟨_, rfl⟩
  obtain ⟨k1, q1, z1⟩ := box_new hw1
  have K0 := Lib.hid (k0.below q1)
  have K1 := Lib.hid k1
  have BW := Lib.hid (q0.trans (q1.mono q0.size))
  have HZ := Lib.hid (show wa.heap.size = w.heap.size + 1 ∧ wb.heap.size = wa.heap.size + 1 ∧ True from ⟨z0, z1, trivial⟩)
  clear h0 k0 q0 z0 h1 k1 q1 z1
  go_enter Tryd.func6, Tryd.ntmps6
  go_wp2_with fail
  clear hw0 hw1
  obtain ⟨e0_0, e0_1, e0_2, e0_3, e0_4⟩ := cell5 K0.out
  obtain ⟨e1_0, e1_1, e1_2, e1_3, e1_4⟩ := cell5 K1.out
  refine GoG.start [(4, ⟨w.heap.size, 0, none⟩, .int .i64 V0.ma), (4, ⟨w.heap.size, 1, none⟩, .int .i64 V0.mi), (4, ⟨w.heap.size, 2, none⟩, .int .i64 V0.pa), (4, ⟨w.heap.size, 3, none⟩, .slice po0 V0.pre.length pc0), (4, ⟨w.heap.size, 4, none⟩, .slice bo0 V0.build.length bc0), (5, ⟨wa.heap.size, 0, none⟩, .int .i64 V1.ma), (5, ⟨wa.heap.size, 1, none⟩, .int .i64 V1.mi), (5, ⟨wa.heap.size, 2, none⟩, .int .i64 V1.pa), (5, ⟨wa.heap.size, 3, none⟩, .slice po1 V1.pre.length pc1), (5, ⟨wa.heap.size, 4, none⟩, .slice bo1 V1.build.length bc1)] (by kernel_rfl) ?_ ?_
  · exact (Keeps.cons (by first | assumption | simp [*]) (Keeps.cons (by first | assumption | simp [*]) (Keeps.cons (by first | assumption | simp [*]) (Keeps.cons (by first | assumption | simp [*]) (Keeps.cons (by first | assumption | simp [*]) (Keeps.cons (by first | assumption | simp [*]) (Keeps.cons (by first | assumption | simp [*]) (Keeps.cons (by first | assumption | simp [*]) (Keeps.cons (by first | assumption | simp [*]) (Keeps.cons (by first | assumption | simp [*]) (Keeps.nil)))))))))))
  refine GoG.take (i := 0) (v := ?_) [1, 3, 4, 5] rfl (by kernel_rfl) (by kernel_rfl) (by kernel_rfl) (by kernel_rfl) (by kernel_rfl) (by kernel_rfl) (fun _ _ _ h => h) (.inl ⟨by rfl, fun wz hS => ?_⟩) ?_
  rotate_left
  · have y0 := hS (4, ⟨w.heap.size, 0, none⟩, .int .i64 V0.ma) (by simp) (by simp)
    have y1 := hS (4, ⟨w.heap.size, 1, none⟩, .int .i64 V0.mi) (by simp) (by simp)
    have y2 := hS (4, ⟨w.heap.size, 2, none⟩, .int .i64 V0.pa) (by simp) (by simp)
    have y3 := hS (4, ⟨w.heap.size, 3, none⟩, .slice po0 V0.pre.length pc0) (by simp) (by simp)
    have y4 := hS (4, ⟨w.heap.size, 4, none⟩, .slice bo0 V0.build.length bc0) (by simp) (by simp)
    clear hS
    simp only at y0 y1 y2 y3 y4
    go_simp; try (with_reducible rfl)
  try simp only [Act.put, List.setIfInBounds_toArray, List.set_cons_zero, List.set_cons_succ]
  refine GoG.take (i := 2) (v := ?_) [3, 4, 5] rfl (by kernel_rfl) (by kernel_rfl) (by kernel_rfl) (by kernel_rfl) (by kernel_rfl) (by kernel_rfl) (fun _ _ _ h => h) (.inl ⟨by rfl, fun wz hS => ?_⟩) ?_
  rotate_left
  · have y0 := hS (5, ⟨wa.heap.size, 0, none⟩, .int .i64 V1.ma) (by simp) (by simp)
    have y1 := hS (5, ⟨wa.heap.size, 1, none⟩, .int .i64 V1.mi) (by simp) (by simp)
    have y2 := hS (5, ⟨wa.heap.size, 2, none⟩, .int .i64 V1.pa) (by simp) (by simp)
    have y3 := hS (5, ⟨wa.heap.size, 3, none⟩, .slice po1 V1.pre.length pc1) (by simp) (by simp)
    have y4 := hS (5, ⟨wa.heap.size, 4, none⟩, .slice bo1 V1.build.length bc1) (by simp) (by simp)
    clear hS
    simp only at y0 y1 y2 y3 y4
    go_simp; try (with_reducible rfl)
  try simp only [Act.put, List.setIfInBounds_toArray, List.set_cons_zero, List.set_cons_succ]
  have BD := Lib.hid (show Below w.heap.size w wb.drew from BW.out.drew)
  have KD0 := Lib.hid (show BlockAt wb.drew w.heap.size _ _ from K0.out.below ((Below.refl _ _).drew))
  have KD1 := Lib.hid (show BlockAt wb.drew wa.heap.size _ _ from K1.out.below ((Below.refl _ _).drew))
  clear e0_0 e0_1 e0_2 e0_3 e0_4 e1_0 e1_1 e1_2 e1_3 e1_4
  clear K0 K1
  have ZD := Lib.hid (show wb.heap.size ≤ wb.drew.heap.size from Nat.le_refl _)
  have F := Lib.hid (few_base V0 po0 bo0 pc0 bc0 wb.drew (H0.out.below BD.out))
  unfold verV at F
  obtain ⟨e0_0, e0_1, e0_2, e0_3, e0_4⟩ := cell5 KD0.out
  obtain ⟨e1_0, e1_1, e1_2, e1_3, e1_4⟩ := cell5 KD1.out
  refine GoG.one (i := 1) rfl (by kernel_rfl) (fun K hK => ?_)
  go_simp
  refine F.out.mono ?_
  rintro e u0 ⟨xp0, xc0, xb0, xd0, U0, rfl, hv, hn, bb, cp, cb, rn1, rn2⟩
  unfold verV
  have B0 := Lib.hid (BD.out.trans (bb.mono BD.out.size))
  have Z0 := Lib.hid (Nat.le_trans ZD.out bb.size)
  have ZR0 := ZD
  have HV0 := Lib.hid hv
  have HN0 := Lib.hid hn
  have HC0 := Lib.hid (And.intro cp cb)
  clear e0_0 e0_1 e0_2 e0_3 e0_4 e1_0 e1_1 e1_2 e1_3 e1_4
  have M0_0 := Lib.hid (KD0.out.below bb)
  have M0_1 := Lib.hid (KD1.out.below bb)
  have RP0 := Lib.hid rn1
  have RB0 := Lib.hid rn2
  clear bb hv hn cp cb rn1 rn2 F KD0 KD1 BD
  obtain ⟨e0_0, e0_1, e0_2, e0_3, e0_4⟩ := cell5 M0_0.out
  obtain ⟨e1_0, e1_1, e1_2, e1_3, e1_4⟩ := cell5 M0_1.out
  refine hK.out _ _ (Keeps.cons (by first | assumption | simp [*]) (Keeps.cons (by first | assumption | simp [*]) (Keeps.cons (by first | assumption | simp [*]) (Keeps.cons (by first | assumption | simp [*]) (Keeps.cons (by first | assumption | simp [*]) (Keeps.cons (by first | assumption | simp [*]) (Keeps.cons (by first | assumption | simp [*]) (Keeps.cons (by first | assumption | simp [*]) (Keeps.cons (by first | assumption | simp [*]) (Keeps.cons (by first | assumption | simp [*]) (Keeps.nil))))))))))) ?_
  clear hK K
  clear e0_0 e0_1 e0_2 e0_3 e0_4 e1_0 e1_1 e1_2 e1_3 e1_4
  have F := Lib.hid (few_base V1 po1 bo1 pc1 bc1 u0 (H1.out.below B0.out))
  unfold verV at F
  obtain ⟨e0_0, e0_1, e0_2, e0_3, e0_4⟩ := cell5 M0_0.out
  obtain ⟨e1_0, e1_1, e1_2, e1_3, e1_4⟩ := cell5 M0_1.out
  refine GoG.one (i := 3) rfl (by kernel_rfl) (fun K hK => ?_)
  go_simp
  refine F.out.mono ?_
  rintro e u1 ⟨xp1, xc1, xb1, xd1, U1, rfl, hv, hn, bb, cp, cb, rn1, rn2⟩
  unfold verV
  have B1 := Lib.hid (B0.out.trans (bb.mono B0.out.size))
  have Z1 := Lib.hid (Nat.le_trans Z0.out bb.size)
  have ZR1 := Z0
  have HV1 := Lib.hid hv
  have HN1 := Lib.hid hn
  have HC1 := Lib.hid (And.intro cp cb)
  clear e0_0 e0_1 e0_2 e0_3 e0_4 e1_0 e1_1 e1_2 e1_3 e1_4
  have M1_0 := Lib.hid (M0_0.out.below bb)
  have M1_1 := Lib.hid (M0_1.out.below bb)
  have RP0u := Lib.hid (RP0.out.below bb)
  clear RP0
  have RB0u := Lib.hid (RB0.out.below bb)
  clear RB0
  have RP1 := Lib.hid rn1
  have RB1 := Lib.hid rn2
  clear bb hv hn cp cb rn1 rn2 F M0_0 M0_1 B0
  obtain ⟨e0_0, e0_1, e0_2, e0_3, e0_4⟩ := cell5 M1_0.out
  obtain ⟨e1_0, e1_1, e1_2, e1_3, e1_4⟩ := cell5 M1_1.out
  refine hK.out _ _ (Keeps.cons (by first | assumption | simp [*]) (Keeps.cons (by first | assumption | simp [*]) (Keeps.cons (by first | assumption | simp [*]) (Keeps.cons (by first | assumption | simp [*]) (Keeps.cons (by first | assumption | simp [*]) (Keeps.cons (by first | assumption | simp [*]) (Keeps.cons (by first | assumption | simp [*]) (Keeps.cons (by first | assumption | simp [*]) (Keeps.cons (by first | assumption | simp [*]) (Keeps.cons (by first | assumption | simp [*]) (Keeps.nil))))))))))) ?_
  clear hK K
  clear e0_0 e0_1 e0_2 e0_3 e0_4 e1_0 e1_1 e1_2 e1_3 e1_4
  obtain ⟨s0, hs0⟩ : ∃ s, (((((u1.setCell ⟨w.heap.size, 0, none⟩ (.int .i64 U0.ma)).setCell ⟨w.heap.size, 1, none⟩ (.int .i64 U0.mi)).setCell ⟨w.heap.size, 2, none⟩ (.int .i64 U0.pa)).setCell ⟨w.heap.size, 3, none⟩ (.slice xp0 U0.pre.length xc0)).setCell ⟨w.heap.size, 4, none⟩ (.slice xb0 U0.build.length xd0)) = s := ⟨_, rfl⟩
  obtain ⟨g1, g2, g3, g4, g5⟩ := set5_facts hs0
  have fr0 := M1_0.out.free 0
  have fr1 := M1_0.out.free 1
  have fr2 := M1_0.out.free 2
  have fr3 := M1_0.out.free 3
  have fr4 := M1_0.out.free 4
  obtain ⟨e0_0, e0_1, e0_2, e0_3, e0_4⟩ := cell5 M1_0.out
  obtain ⟨e1_0, e1_1, e1_2, e1_3, e1_4⟩ := cell5 M1_1.out
  have N0_0 := Lib.hid (set5_at g1 M1_0.out)
  have N0_1 := Lib.hid (g2 _ _ _ M1_1.out (by have := HZ.out; omega))
  have Q0 := Lib.hid (g4 _ _ B1.out (by have := HZ.out; omega))
  have RP0us := Lib.hid (g3 _ _ _ RP0u.out (by have := HZ.out; have := ZR0.out; omega))
  clear RP0u
  have RB0us := Lib.hid (g3 _ _ _ RB0u.out (by have := HZ.out; have := ZR0.out; omega))
  clear RB0u
  have RP1s := Lib.hid (g3 _ _ _ RP1.out (by have := HZ.out; have := ZR1.out; omega))
  clear RP1
  have RB1s := Lib.hid (g3 _ _ _ RB1.out (by have := HZ.out; have := ZR1.out; omega))
  clear RB1
  clear g1 g2 g3 g4 g5 B1 M1_0 M1_1
  refine GoG.one (i := 4) rfl (by kernel_rfl) (fun K hK => ?_)
  go_simp
  clear e0_0 e0_1 e0_2 e0_3 e0_4 e1_0 e1_1 e1_2 e1_3 e1_4
  clear fr0 fr1 fr2 fr3 fr4
  obtain ⟨e0_0, e0_1, e0_2, e0_3, e0_4⟩ := cell5 N0_0.out
  obtain ⟨e1_0, e1_1, e1_2, e1_3, e1_4⟩ := cell5 N0_1.out
  refine hK.out _ _ (Keeps.up (by rfl) (Keeps.up (by rfl) (Keeps.up (by rfl) (Keeps.up (by rfl) (Keeps.up (by rfl) (Keeps.cons (by first | assumption | simp [*]) (Keeps.cons (by first | assumption | simp [*]) (Keeps.cons (by first | assumption | simp [*]) (Keeps.cons (by first | assumption | simp [*]) (Keeps.cons (by first | assumption | simp [*]) (Keeps.nil))))))))))) ?_
  clear hK K hs0
  clear e0_0 e0_1 e0_2 e0_3 e0_4 e1_0 e1_1 e1_2 e1_3 e1_4
  obtain ⟨s1, hs1⟩ : ∃ s, (((((s0.setCell ⟨wa.heap.size, 0, none⟩ (.int .i64 U1.ma)).setCell ⟨wa.heap.size, 1, none⟩ (.int .i64 U1.mi)).setCell ⟨wa.heap.size, 2, none⟩ (.int .i64 U1.pa)).setCell ⟨wa.heap.size, 3, none⟩ (.slice xp1 U1.pre.length xc1)).setCell ⟨wa.heap.size, 4, none⟩ (.slice xb1 U1.build.length xd1)) = s := ⟨_, rfl⟩
  obtain ⟨g1, g2, g3, g4, g5⟩ := set5_facts hs1
  have fr0 := N0_1.out.free 0
  have fr1 := N0_1.out.free 1
  have fr2 := N0_1.out.free 2
  have fr3 := N0_1.out.free 3
  have fr4 := N0_1.out.free 4
  obtain ⟨e0_0, e0_1, e0_2, e0_3, e0_4⟩ := cell5 N0_0.out
  obtain ⟨e1_0, e1_1, e1_2, e1_3, e1_4⟩ := cell5 N0_1.out
  have N1_0 := Lib.hid (g2 _ _ _ N0_0.out (by have := HZ.out; omega))
  have N1_1 := Lib.hid (set5_at g1 N0_1.out)
  have Q1 := Lib.hid (g4 _ _ Q0.out (by have := HZ.out; omega))
  have RP0uss := Lib.hid (g3 _ _ _ RP0us.out (by have := HZ.out; have := ZR0.out; omega))
  clear RP0us
  have RB0uss := Lib.hid (g3 _ _ _ RB0us.out (by have := HZ.out; have := ZR0.out; omega))
  clear RB0us
  have RP1ss := Lib.hid (g3 _ _ _ RP1s.out (by have := HZ.out; have := ZR1.out; omega))
  clear RP1s
  have RB1ss := Lib.hid (g3 _ _ _ RB1s.out (by have := HZ.out; have := ZR1.out; omega))
  clear RB1s
  clear g1 g2 g3 g4 g5 Q0 N0_0 N0_1
  refine GoG.one (i := 5) rfl (by kernel_rfl) (fun K hK => ?_)
  go_simp
  clear e0_0 e0_1 e0_2 e0_3 e0_4 e1_0 e1_1 e1_2 e1_3 e1_4
  clear fr0 fr1 fr2 fr3 fr4
  obtain ⟨e0_0, e0_1, e0_2, e0_3, e0_4⟩ := cell5 N1_0.out
  obtain ⟨e1_0, e1_1, e1_2, e1_3, e1_4⟩ := cell5 N1_1.out
  refine hK.out _ _ (Keeps.up (by rfl) (Keeps.up (by rfl) (Keeps.up (by rfl) (Keeps.up (by rfl) (Keeps.up (by rfl) (Keeps.up (by rfl) (Keeps.up (by rfl) (Keeps.up (by rfl) (Keeps.up (by rfl) (Keeps.up (by rfl) (Keeps.nil))))))))))) ?_
  clear hK K hs1
  clear e0_0 e0_1 e0_2 e0_3 e0_4 e1_0 e1_1 e1_2 e1_3 e1_4
  refine GoG.done (by kernel_rfl) ?_ _
  have C0 := Lib.hid (show VerC s1 xp0 xb0 U0 from { HV0.out with pre := RP0uss.out.row, build := RB0uss.out.row })
  have GP0 := Lib.hid (show SRowN wb.heap.size s1 xp0 U0.pre from RP0uss.out.mono (by have := ZR0.out; omega))
  have GB0 := Lib.hid (show SRowN wb.heap.size s1 xb0 U0.build from RB0uss.out.mono (by have := ZR0.out; omega))
  clear HV0 RP0uss RB0uss
  have C1 := Lib.hid (show VerC s1 xp1 xb1 U1 from { HV1.out with pre := RP1ss.out.row, build := RB1ss.out.row })
  have GP1 := Lib.hid (show SRowN wb.heap.size s1 xp1 U1.pre from RP1ss.out.mono (by have := ZR1.out; omega))
  have GB1 := Lib.hid (show SRowN wb.heap.size s1 xb1 U1.build from RB1ss.out.mono (by have := ZR1.out; omega))
  clear HV1 RP1ss RB1ss
  have T0 := Lib.hid N1_0.out
  have T1 := Lib.hid N1_1.out
  have BS := Lib.hid Q1.out
  clear Q1 N1_0 N1_1
  have hk0 : (0 : Int) ≤ 1 := by omega
  have hk4 : 1 ≤ 3 := by omega
  have NB : U0.ma ≤ bigM ∧ U0.mi ≤ bigM ∧ U0.pa ≤ bigM := by have := C0.out.nums; unfold bigM; omega
  have NO : U1.ma ≤ bigM ∧ U1.mi ≤ bigM ∧ U1.pa ≤ bigM := by have := C1.out.nums; unfold bigM; omega
  have NBH := Lib.hid NB
  have NOH := Lib.hid NO
  clear NB NO
  have BB := Lib.hid (Below.refl s1.heap.size s1)
  cases r0 : rightB U0 <;> have R0 := Lib.hid r0 <;> clear r0
  · have M0 := next_bad U0 1 xp0 xb0 xc0 xd0 s1 C0.out (HG.out.errs.below BS.out) (.inl R0.out)
    unfold verV relV at M0
    have M := Lib.hid M0
    clear M0
    obtain ⟨e0_0, e0_1, e0_2, e0_3, e0_4⟩ := cell5 T0.out
    go_wp2_with fail
    clear ht hk hk' ht1 ht2
    refine M.out.mono ?_
    rintro e y0 ⟨rfl, bb⟩
    have B0 := Lib.hid (BS.out.trans (bb.mono BS.out.size))
    have T0' := Lib.hid (T0.out.below bb)
    have C0' := Lib.hid (C0.out.below bb)
    clear bb e0_0 e0_1 e0_2 e0_3 e0_4 M BS T0 C0
    have bz : Below w.heap.size w (y0.alloc (.cells #[.int .i64 0, .int .i64 0, .int .i64 0, .slice none 0 0, .slice none 0 0] 24)) := B0.out.alloc B0.out.size _
    have bq : Below y0.heap.size y0 (y0.alloc (.cells #[.int .i64 0, .int .i64 0, .int .i64 0, .slice none 0 0, .slice none 0 0] 24)) := (Below.refl _ _).alloc (Nat.le_refl _) _
    have T2 := Lib.hid (T0'.out.below bq)
    have C2 := Lib.hid (C0'.out.below bq)
    have BZ := Lib.hid bz
    have HL := Lib.hid (alive_any _ (HG.out.below bz))
    clear bz bq B0 T0' C0'
    obtain ⟨e0_0, e0_1, e0_2, e0_3, e0_4⟩ := cell5 T2.out
    go_wp2_with fail
    refine HL.out.mono ?_
    rintro e y1 ⟨rfl, bb⟩
    have T3 := Lib.hid (T2.out.below bb)
    have B3 := Lib.hid (BZ.out.trans (bb.mono BZ.out.size))
    have M1 := right_any U0 xp0 xb0 xc0 xd0 y1 (C2.out.below bb) (HG.out.errs.below B3.out)
    rw [R0.out] at M1
    unfold verV at M1
    have M2 := Lib.hid M1
    clear bb M1 e0_0 e0_1 e0_2 e0_3 e0_4 T2 C2 BZ HL
    obtain ⟨e0_0, e0_1, e0_2, e0_3, e0_4⟩ := cell5 T3.out
    go_wp2_with fail
    refine M2.out.mono ?_
    rintro e y2 ⟨rfl, bb⟩
    have B4 := Lib.hid (B3.out.trans (bb.mono B3.out.size))
    clear bb
    go_wp2_with fail
    go_ret
    exact ⟨ret_bool (by first | rfl | decide), B4.out⟩
  have HNU := Lib.hid (nums_of R0.out NBH.out.1 NBH.out.2.1 NBH.out.2.2)
  have M0 := next_any U0 1 xp0 xb0 xc0 xd0 s1 C0.out (HG.out.errs.below BS.out) R0.out (by omega) (by omega)
  cases hn : nextV U0 1 with
  | none =>
    rw [hn] at M0
    unfold verV nextRes relV at M0
    have M := Lib.hid M0
    clear M0 hn
    obtain ⟨e0_0, e0_1, e0_2, e0_3, e0_4⟩ := cell5 T0.out
    go_wp2_with fail
    clear ht hk hk' ht1 ht2
    refine M.out.mono ?_
    rintro e y0 ⟨rfl, bb⟩
    have B0 := Lib.hid (BS.out.trans (bb.mono BS.out.size))
    clear bb e0_0 e0_1 e0_2 e0_3 e0_4 M BS T0 C0
    have bz : Below w.heap.size w (y0.alloc (.cells #[.int .i64 0, .int .i64 0, .int .i64 0, .slice none 0 0, .slice none 0 0] 24)) := B0.out.alloc B0.out.size _
    have BZ := Lib.hid bz
    have HL := Lib.hid (alive_any _ (HG.out.below bz))
    clear bz B0
    go_wp2_with fail
    refine HL.out.mono ?_
    rintro e y1 ⟨rfl, bb⟩
    have B3 := Lib.hid (BZ.out.trans (bb.mono BZ.out.size))
    clear bb
    go_wp2_with fail
    go_ret
    exact ⟨ret_bool (by first | rfl | decide), B3.out⟩
  | some n =>
    rw [hn] at M0
    have HN := Lib.hid hn
    have HNN := Lib.hid (next_nums HNU.out hn)
    have HAH := Lib.hid (next_ahead HNU.out hn)
    have HW := Lib.hid (nextV_ways hn)
    clear hn
    obtain ⟨na, ni, np, nq, nb⟩ := n
    have e1 : nq = [] := HW.out.1
    have e2 : nb = [] := HW.out.2.1
    subst e1
    subst e2
    unfold verV nextRes relV at M0
    simp only at M0
    have M := Lib.hid M0
    clear M0
    obtain ⟨e0_0, e0_1, e0_2, e0_3, e0_4⟩ := cell5 T0.out
    go_wp2_with fail
    clear ht hk hk' ht1 ht2
    refine M.out.mono ?_
    rintro e y0 ⟨rfl, bb⟩
    have B0 := Lib.hid (BS.out.trans (bb.mono BS.out.size))
    have BX := Lib.hid (BB.out.trans (bb.mono BB.out.size))
    have T0' := Lib.hid (T0.out.below bb)
    have T1' := Lib.hid (T1.out.below bb)
    clear bb e0_0 e0_1 e0_2 e0_3 e0_4 M BS T0 T1 BB
    have bz : Below w.heap.size w (y0.alloc (.cells #[.int .i64 na, .int .i64 ni, .int .i64 np, .slice none 0 0, .slice none 0 0] 24)) := B0.out.alloc B0.out.size _
    have bq : Below y0.heap.size y0 (y0.alloc (.cells #[.int .i64 na, .int .i64 ni, .int .i64 np, .slice none 0 0, .slice none 0 0] 24)) := (Below.refl _ _).alloc (Nat.le_refl _) _
    have TN := Lib.hid (BlockAt.new y0 #[.int .i64 na, .int .i64 ni, .int .i64 np, .slice none 0 0, .slice none 0 0] 24)
    have HY := Lib.hid (show wa.heap.size < y0.heap.size from T1'.out.lt)
    have TA := Lib.hid (T0'.out.below bq)
    have TB := Lib.hid (T1'.out.below bq)
    have BZ := Lib.hid bz
    have BY := Lib.hid (BX.out.trans (bq.mono BX.out.size))
    obtain ⟨a0, a1, a2, a3, a4⟩ := cell5 T0'.out
    have hl0 := T0'.out.lt
    clear bz bq B0 T0' T1' BX
    skip
    have e3 : np = 0 := by have h := HW.out.2.2; (try simp only at h); omega
    subst e3
    have HRN := Lib.hid (right_rel (v := ⟨na, ni, 0, [], []⟩) rfl rfl HNN.out)
    have NR := Lib.hid (show (0 ≤ na ∧ na ≤ 9223372036854775807) ∧ (0 ≤ (ni : Int) ∧ (ni : Int) ≤ 9223372036854775807) ∧ (0 ≤ (0 : Int) ∧ (0 : Int) ≤ 9223372036854775807) from by have h := HNN.out; unfold NumsOk bigM at h; simp only at h; omega)
    go_wp2_with fail
    clear a0 a1 a2 a3 a4 hl0
    generalize y0.alloc (.cells #[.int .i64 na, .int .i64 ni, .int .i64 0, .slice none 0 0, .slice none 0 0] 24) = y1 at *
    have CN := fun w => Lib.hid (rel_verC w na ni 0 NR.out.1 NR.out.2.1 NR.out.2.2)
    have M1 := cmp_any ⟨na, ni, 0, [], []⟩ U0 none none xp0 xb0 0 0 xc0 xd0 y1 (CN y1).out (C0.out.below BY.out) (HG.out.errs.below BZ.out) true true HRN.out R0.out
    rw [HAH.out] at M1
    unfold verV at M1
    simp only [Bool.and_self, if_true, List.length_nil] at M1
    have M := Lib.hid M1
    clear M1
    obtain ⟨a0, a1, a2, a3, a4⟩ := cell5 TA.out
    obtain ⟨b0, b1, b2, b3, b4⟩ := cell5 TB.out
    obtain ⟨n0, n1, n2, n3, n4⟩ := cell5 TN.out
    refine M.out.mono ?_
    rintro e y2 ⟨rfl, bb⟩
    have tA := TA.out.below bb
    have tB := TB.out.below bb
    have tN := TN.out.below bb
    have bZ := BZ.out.trans (bb.mono BZ.out.size)
    have bY := BY.out.trans (bb.mono BY.out.size)
    clear a0 a1 a2 a3 a4 b0 b1 b2 b3 b4 n0 n1 n2 n3 n4
    clear bb M TA TB TN BZ BY
    have TA := Lib.hid tA
    have TB := Lib.hid tB
    have TN := Lib.hid tN
    have BZ := Lib.hid bZ
    have BY := Lib.hid bY
    clear tA tB tN bZ bY
    have M1 := right_any ⟨na, ni, 0, [], []⟩ none none 0 0 y2 (CN y2).out (HG.out.errs.below BZ.out)
    rw [HRN.out] at M1
    unfold verV at M1
    simp only [List.length_nil] at M1
    have M := Lib.hid M1
    clear M1
    obtain ⟨a0, a1, a2, a3, a4⟩ := cell5 TA.out
    obtain ⟨b0, b1, b2, b3, b4⟩ := cell5 TB.out
    obtain ⟨n0, n1, n2, n3, n4⟩ := cell5 TN.out
    go_wp2_with fail
    refine M.out.mono ?_
    rintro e y3 ⟨rfl, bb⟩
    have tA := TA.out.below bb
    have tB := TB.out.below bb
    have tN := TN.out.below bb
    have bZ := BZ.out.trans (bb.mono BZ.out.size)
    have bY := BY.out.trans (bb.mono BY.out.size)
    clear a0 a1 a2 a3 a4 b0 b1 b2 b3 b4 n0 n1 n2 n3 n4
    clear bb M TA TB TN BZ BY
    have TA := Lib.hid tA
    have TB := Lib.hid tB
    have TN := Lib.hid tN
    have BZ := Lib.hid bZ
    have BY := Lib.hid bY
    clear tA tB tN bZ bY
    have M := Lib.hid (alive_any y3 (HG.out.below BZ.out))
    obtain ⟨a0, a1, a2, a3, a4⟩ := cell5 TA.out
    obtain ⟨b0, b1, b2, b3, b4⟩ := cell5 TB.out
    obtain ⟨n0, n1, n2, n3, n4⟩ := cell5 TN.out
    go_wp2_with fail
    refine M.out.mono ?_
    rintro e y4 ⟨rfl, bb⟩
    have tA := TA.out.below bb
    have tB := TB.out.below bb
    have tN := TN.out.below bb
    have bZ := BZ.out.trans (bb.mono BZ.out.size)
    have bY := BY.out.trans (bb.mono BY.out.size)
    clear a0 a1 a2 a3 a4 b0 b1 b2 b3 b4 n0 n1 n2 n3 n4
    clear bb M TA TB TN BZ BY
    have TA := Lib.hid tA
    have TB := Lib.hid tB
    have TN := Lib.hid tN
    have BZ := Lib.hid bZ
    have BY := Lib.hid bY
    clear tA tB tN bZ bY
    have kB := (((TB.out.set 3 (.slice none 0 0)).set 4 (.slice none 0 0)).set 2 (.int .i64 0))
    simp only [List.setIfInBounds_toArray, List.set_cons_zero, List.set_cons_succ] at kB
    have kA := (((TA.out.other (c := wa.heap.size) (by have := HZ.out.1; omega) 3 (.slice none 0 0)).other (c := wa.heap.size) (by have := HZ.out.1; omega) 4 (.slice none 0 0)).other (c := wa.heap.size) (by have := HZ.out.1; omega) 2 (.int .i64 0))
    have kN := (((TN.out.other (c := wa.heap.size) (by have := HY.out; omega) 3 (.slice none 0 0)).other (c := wa.heap.size) (by have := HY.out; omega) 4 (.slice none 0 0)).other (c := wa.heap.size) (by have := HY.out; omega) 2 (.int .i64 0))
    have kZ := (((BZ.out.setCell (p := ⟨wa.heap.size, 3, none⟩) (by have := HZ.out.1; simp; omega) (.slice none 0 0)).setCell (p := ⟨wa.heap.size, 4, none⟩) (by have := HZ.out.1; simp; omega) (.slice none 0 0)).setCell (p := ⟨wa.heap.size, 2, none⟩) (by have := HZ.out.1; simp; omega) (.int .i64 0))
    have gp := (GP0.out.below BY.out)
    have gb := (GB0.out.below BY.out)
    have hz2 : wa.heap.size < wb.heap.size := by have := HZ.out.2.1; omega
    have gp := gp.set (k := 3) hz2 (.slice none 0 0)
    have gb := gb.set (k := 3) hz2 (.slice none 0 0)
    have gp := gp.set (k := 4) hz2 (.slice none 0 0)
    have gb := gb.set (k := 4) hz2 (.slice none 0 0)
    have gp := gp.set (k := 2) hz2 (.int .i64 0)
    have gb := gb.set (k := 2) hz2 (.int .i64 0)
    have fr3 := TB.out.free 3
    have fr4 := TB.out.free 4
    have fr2 := TB.out.free 2
    have fr1 := TB.out.free 1
    obtain ⟨a0, a1, a2, a3, a4⟩ := cell5 TA.out
    obtain ⟨b0, b1, b2, b3, b4⟩ := cell5 TB.out
    obtain ⟨n0, n1, n2, n3, n4⟩ := cell5 TN.out
    obtain ⟨v0, hv0⟩ : ∃ v, (((y4.setCell ⟨wa.heap.size, 3, none⟩ (.slice none 0 0)).setCell ⟨wa.heap.size, 4, none⟩ (.slice none 0 0)).setCell ⟨wa.heap.size, 2, none⟩ (.int .i64 0)) = v := ⟨_, rfl⟩
    rw [hv0] at kA kB kN kZ gp gb
    have C0v := Lib.hid (show VerC v0 xp0 xb0 U0 from { C0.out with pre := gp.row, build := gb.row })
    have SA := Lib.hid kA
    have SB := Lib.hid kB
    have SN := Lib.hid kN
    have SZ := Lib.hid kZ
    clear kA kB kN kZ gp gb
    obtain ⟨q0, q1, q2, q3, q4⟩ := cell5 SB.out
    go_wp2_with fail
    clear a0 a1 a2 a3 a4 b0 b1 b2 b3 b4 n0 n1 n2 n3 n4
    clear hv0 fr1 fr2 fr3 fr4 TA TB TN BZ BY q0 q1 q2 q3 q4
    have TA := SA
    have TB := SB
    have TN := SN
    have BZ := SZ
    have BY := Lib.hid (Below.refl v0.heap.size v0)
    clear SA SB SN SZ
    have CO : ∀ w, VerC w none none ⟨U1.ma, U1.mi, 0, [], []⟩ := fun w => ⟨.inl rfl, .inl rfl, by simp, by simp, by simp, by simp, by have h := C1.out.nums; simp only; omega⟩
    have CO := Lib.hid CO
    have M1 := right_any ⟨U1.ma, U1.mi, 0, [], []⟩ none none 0 0 v0 (CO.out v0) (HG.out.errs.below BZ.out)
    cases ro : rightB ⟨U1.ma, U1.mi, 0, [], []⟩ <;> rw [ro] at M1 <;> have RO := Lib.hid ro <;> clear ro
    · unfold verV at M1
      simp only [List.length_nil] at M1
      have M := Lib.hid M1
      clear M1
      obtain ⟨a0, a1, a2, a3, a4⟩ := cell5 TA.out
      obtain ⟨b0, b1, b2, b3, b4⟩ := cell5 TB.out
      obtain ⟨n0, n1, n2, n3, n4⟩ := cell5 TN.out
      refine M.out.mono ?_
      rintro e v1 ⟨rfl, bb⟩
      have tA := TA.out.below bb
      have tB := TB.out.below bb
      have tN := TN.out.below bb
      have bZ := BZ.out.trans (bb.mono BZ.out.size)
      have bY := BY.out.trans (bb.mono BY.out.size)
      clear a0 a1 a2 a3 a4 b0 b1 b2 b3 b4 n0 n1 n2 n3 n4
      clear bb M TA TB TN BZ BY
      have TA := Lib.hid tA
      have TB := Lib.hid tB
      have TN := Lib.hid tN
      have BZ := Lib.hid bZ
      have BY := Lib.hid bY
      clear tA tB tN bZ bY
      go_wp2_with fail
      go_loopw [137] (fun i wr => ∃ j : Nat, (j : Int) ≤ 1 ∧ i = .int .i64 j ∧ Hid (Below v1.heap.size v1 wr)) (fun i _ => (1 - intOf i).toNat)
      case atStart => exact ⟨0, by omega, rfl, Lib.hid (Below.refl _ _)⟩
      case round =>
        obtain ⟨j, hj, rfl, HBj⟩ := hrel
        have BJ := Lib.hid (BZ.out.trans (HBj.out.mono BZ.out.size))
        have BYJ := Lib.hid (BY.out.trans (HBj.out.mono BY.out.size))
        by_cases hlt : (j : Int) < 1
        · have M0 := next_any U0 j xp0 xb0 xc0 xd0 wr (C0v.out.below BYJ.out) (HG.out.errs.below BJ.out) R0.out (by omega) (by omega)
          have jA := Lib.hid (TA.out.below HBj.out)
          have jN := Lib.hid (TN.out.below HBj.out)
          obtain ⟨a0, a1, a2, a3, a4⟩ := cell5 jA.out
          cases hm : nextV U0 j with
          | none =>
            rw [hm] at M0
            unfold verV nextRes relV at M0
            have M := Lib.hid M0
            clear M0 hm
            go_wp2_with fail
            refine M.out.mono ?_
            rintro e q0 ⟨rfl, bb⟩
            have BR := Lib.hid (show Below v1.heap.size v1 (q0.alloc (.cells #[.int .i64 0, .int .i64 0, .int .i64 0, .slice none 0 0, .slice none 0 0] 24)) from (HBj.out.trans (bb.mono HBj.out.size)).alloc (HBj.out.trans (bb.mono HBj.out.size)).size _)
            clear bb a0 a1 a2 a3 a4
            go_wp2_with fail
            go_roundw
            case rel => first | exact ⟨j + 1, by omega, by go_num, BR⟩ | ((repeat apply Exists.intro); exact ⟨⟨j + 1, by omega, by go_num, BR⟩, rfl⟩)
            case measure => simp [intOf]; omega
          | some m =>
            rw [hm] at M0
            have hz := next_class HNU.out HN.out hm (by omega) hlt
            have hmn := next_nums HNU.out hm
            have hmw := nextV_ways hm
            obtain ⟨ma, mi, mp, mq, mb⟩ := m
            have e5 : mq = [] := hmw.1
            have e6 : mb = [] := hmw.2.1
            subst e5
            subst e6
            have HRM := Lib.hid (right_rel (v := ⟨ma, mi, mp, [], []⟩) rfl rfl hmn)
            have MR := Lib.hid (show (0 ≤ ma ∧ ma ≤ 9223372036854775807) ∧ (0 ≤ mi ∧ mi ≤ 9223372036854775807) ∧ (0 ≤ mp ∧ mp ≤ 9223372036854775807) from by unfold NumsOk bigM at hmn; simp only at hmn; omega)
            obtain ⟨zc, hzc⟩ : ∃ zc, cmpV ⟨ma, mi, mp, [], []⟩ ⟨na, ni, 0, [], []⟩ = zc := ⟨_, rfl⟩
            rw [hzc] at hz
            have HZC := Lib.hid hzc
            unfold verV nextRes relV at M0
            simp only at M0
            have M := Lib.hid M0
            clear M0 hm hmn hmw hzc
            go_wp2_with fail
            refine M.out.mono ?_
            rintro e q0 ⟨rfl, bb⟩
            have bq : Below q0.heap.size q0 (q0.alloc (.cells #[.int .i64 ma, .int .i64 mi, .int .i64 mp, .slice none 0 0, .slice none 0 0] 24)) := (Below.refl _ _).alloc (Nat.le_refl _) _
            have b1 := HBj.out.trans (bb.mono HBj.out.size)
            have b2 := b1.trans (bq.mono b1.size)
            have mA := (jA.out.below bb).below bq
            have mN := (jN.out.below bb).below bq
            have mM := BlockAt.new q0 #[.int .i64 ma, .int .i64 mi, .int .i64 mp, .slice none 0 0, .slice none 0 0] 24
            obtain ⟨n0, n1, n2, n3, n4⟩ := cell5 (jN.out.below bb)
            have hln := (jN.out.below bb).lt
            go_wp2_with fail
            clear bb bq b1 a0 a1 a2 a3 a4 n0 n1 n2 n3 n4 hln
            generalize q0.alloc (.cells #[.int .i64 ma, .int .i64 mi, .int .i64 mp, .slice none 0 0, .slice none 0 0] 24) = q1 at *
            have BR := Lib.hid b2
            have BRJ := Lib.hid (BZ.out.trans (b2.mono BZ.out.size))
            have M1 := cmp_any ⟨ma, mi, mp, [], []⟩ ⟨na, ni, 0, [], []⟩ none none none none 0 0 0 0 q1 (rel_verC q1 ma mi mp MR.out.1 MR.out.2.1 MR.out.2.2) (CN q1).out (HG.out.errs.below BRJ.out) true true HRM.out HRN.out
            rw [HZC.out] at M1
            unfold verV at M1
            simp only [Bool.and_self, if_true, List.length_nil] at M1
            have M := Lib.hid M1
            have hz0 : decide (0 < zc) = false := decide_eq_false (by omega)
            obtain ⟨n0, n1, n2, n3, n4⟩ := cell5 mN
            obtain ⟨m0, m1, m2, m3, m4⟩ := cell5 mM
            clear M1 b2 mA mN mM
            refine M.out.mono ?_
            rintro e q2 ⟨rfl, bb⟩
            have BR2 := Lib.hid (BR.out.trans (bb.mono BR.out.size))
            clear bb n0 n1 n2 n3 n4 m0 m1 m2 m3 m4
            go_wp2_with fail
            go_roundw
            case rel => first | exact ⟨j + 1, by omega, by go_num, BR2⟩ | ((repeat apply Exists.intro); exact ⟨⟨j + 1, by omega, by go_num, BR2⟩, rfl⟩)
            case measure => simp [intOf]; omega
        · obtain rfl : j = 1 := by omega
          go_wp2_with fail
          go_ret
          exact ⟨rfl, BJ.out⟩
    · skip
      have hbt := next_between HNU.out HN.out (nums_of RO.out (by have h := NOH.out; simp only; first | exact h.1 | (unfold bigM at *; omega)) (by have h := NOH.out; simp only; unfold bigM at *; omega) (by have h := NOH.out; simp only; unfold bigM at *; omega)) rfl (by omega) (by first | (intro _; rfl) | (intro h; omega)) (by first | (intro _ _; rfl) | (intro h h2; omega))
      obtain ⟨x, hx⟩ : ∃ x, cmpV ⟨U1.ma, U1.mi, 0, [], []⟩ U0 = x := ⟨_, rfl⟩
      obtain ⟨y, hy⟩ : ∃ y, cmpV ⟨U1.ma, U1.mi, 0, [], []⟩ ⟨na, ni, 0, [], []⟩ = y := ⟨_, rfl⟩
      rw [hx, hy] at hbt
      have HX := Lib.hid hx
      have HYY := Lib.hid hy
      clear hx hy
      unfold verV at M1
      simp only [List.length_nil] at M1
      have M := Lib.hid M1
      clear M1
      obtain ⟨a0, a1, a2, a3, a4⟩ := cell5 TA.out
      obtain ⟨b0, b1, b2, b3, b4⟩ := cell5 TB.out
      obtain ⟨n0, n1, n2, n3, n4⟩ := cell5 TN.out
      refine M.out.mono ?_
      rintro e v1 ⟨rfl, bb⟩
      have tA := TA.out.below bb
      have tB := TB.out.below bb
      have tN := TN.out.below bb
      have bZ := BZ.out.trans (bb.mono BZ.out.size)
      have bY := BY.out.trans (bb.mono BY.out.size)
      clear a0 a1 a2 a3 a4 b0 b1 b2 b3 b4 n0 n1 n2 n3 n4
      clear bb M TA TB TN BZ BY
      have TA := Lib.hid tA
      have TB := Lib.hid tB
      have TN := Lib.hid tN
      have BZ := Lib.hid bZ
      have BY := Lib.hid bY
      clear tA tB tN bZ bY
      have M1 := cmp_any ⟨U1.ma, U1.mi, 0, [], []⟩ U0 none none xp0 xb0 0 0 xc0 xd0 v1 (CO.out v1) (C0v.out.below BY.out) (HG.out.errs.below BZ.out) true true RO.out R0.out
      rw [HX.out] at M1
      unfold verV at M1
      simp only [Bool.and_self, if_true, List.length_nil] at M1
      have M := Lib.hid M1
      clear M1
      obtain ⟨a0, a1, a2, a3, a4⟩ := cell5 TA.out
      obtain ⟨b0, b1, b2, b3, b4⟩ := cell5 TB.out
      obtain ⟨n0, n1, n2, n3, n4⟩ := cell5 TN.out
      go_wp2_with fail
      refine M.out.mono ?_
      rintro e v2 ⟨rfl, bb⟩
      have tA := TA.out.below bb
      have tB := TB.out.below bb
      have tN := TN.out.below bb
      have bZ := BZ.out.trans (bb.mono BZ.out.size)
      have bY := BY.out.trans (bb.mono BY.out.size)
      clear a0 a1 a2 a3 a4 b0 b1 b2 b3 b4 n0 n1 n2 n3 n4
      clear bb M TA TB TN BZ BY
      have TA := Lib.hid tA
      have TB := Lib.hid tB
      have TN := Lib.hid tN
      have BZ := Lib.hid bZ
      have BY := Lib.hid bY
      clear tA tB tN bZ bY
      have M1 := cmp_any ⟨U1.ma, U1.mi, 0, [], []⟩ ⟨na, ni, 0, [], []⟩ none none none none 0 0 0 0 v2 (CO.out v2) (CN v2).out (HG.out.errs.below BZ.out) true true RO.out HRN.out
      rw [HYY.out] at M1
      unfold verV at M1
      simp only [Bool.and_self, if_true, List.length_nil] at M1
      have M := Lib.hid M1
      clear M1
      obtain ⟨a0, a1, a2, a3, a4⟩ := cell5 TA.out
      obtain ⟨b0, b1, b2, b3, b4⟩ := cell5 TB.out
      obtain ⟨n0, n1, n2, n3, n4⟩ := cell5 TN.out
      go_wp2_with fail
      refine M.out.mono ?_
      rintro e v3 ⟨rfl, bb⟩
      have tA := TA.out.below bb
      have tB := TB.out.below bb
      have tN := TN.out.below bb
      have bZ := BZ.out.trans (bb.mono BZ.out.size)
      have bY := BY.out.trans (bb.mono BY.out.size)
      clear a0 a1 a2 a3 a4 b0 b1 b2 b3 b4 n0 n1 n2 n3 n4
      clear bb M TA TB TN BZ BY
      have TA := Lib.hid tA
      have TB := Lib.hid tB
      have TN := Lib.hid tN
      have BZ := Lib.hid bZ
      have BY := Lib.hid bY
      clear tA tB tN bZ bY
      by_cases hx1 : x = 1
      · have hy1 : (y == -1) = false := by rw [beq_eq_false_iff_ne]; exact fun e => hbt ⟨hx1, e⟩
        have hx2 : (x == 1) = true := by rw [beq_iff_eq]; exact hx1
        clear hbt hx1
        go_wp2_with fail
        clear hy1 hx2
        go_loopw [137] (fun i wr => ∃ j : Nat, (j : Int) ≤ 1 ∧ i = .int .i64 j ∧ Hid (Below v3.heap.size v3 wr)) (fun i _ => (1 - intOf i).toNat)
        case atStart => exact ⟨0, by omega, rfl, Lib.hid (Below.refl _ _)⟩
        case round =>
          obtain ⟨j, hj, rfl, HBj⟩ := hrel
          have BJ := Lib.hid (BZ.out.trans (HBj.out.mono BZ.out.size))
          have BYJ := Lib.hid (BY.out.trans (HBj.out.mono BY.out.size))
          by_cases hlt : (j : Int) < 1
          · have M0 := next_any U0 j xp0 xb0 xc0 xd0 wr (C0v.out.below BYJ.out) (HG.out.errs.below BJ.out) R0.out (by omega) (by omega)
            have jA := Lib.hid (TA.out.below HBj.out)
            have jN := Lib.hid (TN.out.below HBj.out)
            obtain ⟨a0, a1, a2, a3, a4⟩ := cell5 jA.out
            cases hm : nextV U0 j with
            | none =>
              rw [hm] at M0
              unfold verV nextRes relV at M0
              have M := Lib.hid M0
              clear M0 hm
              go_wp2_with fail
              refine M.out.mono ?_
              rintro e q0 ⟨rfl, bb⟩
              have BR := Lib.hid (show Below v3.heap.size v3 (q0.alloc (.cells #[.int .i64 0, .int .i64 0, .int .i64 0, .slice none 0 0, .slice none 0 0] 24)) from (HBj.out.trans (bb.mono HBj.out.size)).alloc (HBj.out.trans (bb.mono HBj.out.size)).size _)
              clear bb a0 a1 a2 a3 a4
              go_wp2_with fail
              go_roundw
              case rel => first | exact ⟨j + 1, by omega, by go_num, BR⟩ | ((repeat apply Exists.intro); exact ⟨⟨j + 1, by omega, by go_num, BR⟩, rfl⟩)
              case measure => simp [intOf]; omega
            | some m =>
              rw [hm] at M0
              have hz := next_class HNU.out HN.out hm (by omega) hlt
              have hmn := next_nums HNU.out hm
              have hmw := nextV_ways hm
              obtain ⟨ma, mi, mp, mq, mb⟩ := m
              have e5 : mq = [] := hmw.1
              have e6 : mb = [] := hmw.2.1
              subst e5
              subst e6
              have HRM := Lib.hid (right_rel (v := ⟨ma, mi, mp, [], []⟩) rfl rfl hmn)
              have MR := Lib.hid (show (0 ≤ ma ∧ ma ≤ 9223372036854775807) ∧ (0 ≤ mi ∧ mi ≤ 9223372036854775807) ∧ (0 ≤ mp ∧ mp ≤ 9223372036854775807) from by unfold NumsOk bigM at hmn; simp only at hmn; omega)
              obtain ⟨zc, hzc⟩ : ∃ zc, cmpV ⟨ma, mi, mp, [], []⟩ ⟨na, ni, 0, [], []⟩ = zc := ⟨_, rfl⟩
              rw [hzc] at hz
              have HZC := Lib.hid hzc
              unfold verV nextRes relV at M0
              simp only at M0
              have M := Lib.hid M0
              clear M0 hm hmn hmw hzc
              go_wp2_with fail
              refine M.out.mono ?_
              rintro e q0 ⟨rfl, bb⟩
              have bq : Below q0.heap.size q0 (q0.alloc (.cells #[.int .i64 ma, .int .i64 mi, .int .i64 mp, .slice none 0 0, .slice none 0 0] 24)) := (Below.refl _ _).alloc (Nat.le_refl _) _
              have b1 := HBj.out.trans (bb.mono HBj.out.size)
              have b2 := b1.trans (bq.mono b1.size)
              have mA := (jA.out.below bb).below bq
              have mN := (jN.out.below bb).below bq
              have mM := BlockAt.new q0 #[.int .i64 ma, .int .i64 mi, .int .i64 mp, .slice none 0 0, .slice none 0 0] 24
              obtain ⟨n0, n1, n2, n3, n4⟩ := cell5 (jN.out.below bb)
              have hln := (jN.out.below bb).lt
              go_wp2_with fail
              clear bb bq b1 a0 a1 a2 a3 a4 n0 n1 n2 n3 n4 hln
              generalize q0.alloc (.cells #[.int .i64 ma, .int .i64 mi, .int .i64 mp, .slice none 0 0, .slice none 0 0] 24) = q1 at *
              have BR := Lib.hid b2
              have BRJ := Lib.hid (BZ.out.trans (b2.mono BZ.out.size))
              have M1 := cmp_any ⟨ma, mi, mp, [], []⟩ ⟨na, ni, 0, [], []⟩ none none none none 0 0 0 0 q1 (rel_verC q1 ma mi mp MR.out.1 MR.out.2.1 MR.out.2.2) (CN q1).out (HG.out.errs.below BRJ.out) true true HRM.out HRN.out
              rw [HZC.out] at M1
              unfold verV at M1
              simp only [Bool.and_self, if_true, List.length_nil] at M1
              have M := Lib.hid M1
              have hz0 : decide (0 < zc) = false := decide_eq_false (by omega)
              obtain ⟨n0, n1, n2, n3, n4⟩ := cell5 mN
              obtain ⟨m0, m1, m2, m3, m4⟩ := cell5 mM
              clear M1 b2 mA mN mM
              refine M.out.mono ?_
              rintro e q2 ⟨rfl, bb⟩
              have BR2 := Lib.hid (BR.out.trans (bb.mono BR.out.size))
              clear bb n0 n1 n2 n3 n4 m0 m1 m2 m3 m4
              go_wp2_with fail
              go_roundw
              case rel => first | exact ⟨j + 1, by omega, by go_num, BR2⟩ | ((repeat apply Exists.intro); exact ⟨⟨j + 1, by omega, by go_num, BR2⟩, rfl⟩)
              case measure => simp [intOf]; omega
          · obtain rfl : j = 1 := by omega
            go_wp2_with fail
            go_ret
            exact ⟨rfl, BJ.out⟩
      · have hx2 : (x == 1) = false := by rw [beq_eq_false_iff_ne]; exact hx1
        clear hbt hx1
        go_wp2_with fail
        clear hx2
        go_loopw [137] (fun i wr => ∃ j : Nat, (j : Int) ≤ 1 ∧ i = .int .i64 j ∧ Hid (Below v3.heap.size v3 wr)) (fun i _ => (1 - intOf i).toNat)
        case atStart => exact ⟨0, by omega, rfl, Lib.hid (Below.refl _ _)⟩
        case round =>
          obtain ⟨j, hj, rfl, HBj⟩ := hrel
          have BJ := Lib.hid (BZ.out.trans (HBj.out.mono BZ.out.size))
          have BYJ := Lib.hid (BY.out.trans (HBj.out.mono BY.out.size))
          by_cases hlt : (j : Int) < 1
          · have M0 := next_any U0 j xp0 xb0 xc0 xd0 wr (C0v.out.below BYJ.out) (HG.out.errs.below BJ.out) R0.out (by omega) (by omega)
            have jA := Lib.hid (TA.out.below HBj.out)
            have jN := Lib.hid (TN.out.below HBj.out)
            obtain ⟨a0, a1, a2, a3, a4⟩ := cell5 jA.out
            cases hm : nextV U0 j with
            | none =>
              rw [hm] at M0
              unfold verV nextRes relV at M0
              have M := Lib.hid M0
              clear M0 hm
              go_wp2_with fail
              refine M.out.mono ?_
              rintro e q0 ⟨rfl, bb⟩
              have BR := Lib.hid (show Below v3.heap.size v3 (q0.alloc (.cells #[.int .i64 0, .int .i64 0, .int .i64 0, .slice none 0 0, .slice none 0 0] 24)) from (HBj.out.trans (bb.mono HBj.out.size)).alloc (HBj.out.trans (bb.mono HBj.out.size)).size _)
              clear bb a0 a1 a2 a3 a4
              go_wp2_with fail
              go_roundw
              case rel => first | exact ⟨j + 1, by omega, by go_num, BR⟩ | ((repeat apply Exists.intro); exact ⟨⟨j + 1, by omega, by go_num, BR⟩, rfl⟩)
              case measure => simp [intOf]; omega
            | some m =>
              rw [hm] at M0
              have hz := next_class HNU.out HN.out hm (by omega) hlt
              have hmn := next_nums HNU.out hm
              have hmw := nextV_ways hm
              obtain ⟨ma, mi, mp, mq, mb⟩ := m
              have e5 : mq = [] := hmw.1
              have e6 : mb = [] := hmw.2.1
              subst e5
              subst e6
              have HRM := Lib.hid (right_rel (v := ⟨ma, mi, mp, [], []⟩) rfl rfl hmn)
              have MR := Lib.hid (show (0 ≤ ma ∧ ma ≤ 9223372036854775807) ∧ (0 ≤ mi ∧ mi ≤ 9223372036854775807) ∧ (0 ≤ mp ∧ mp ≤ 9223372036854775807) from by unfold NumsOk bigM at hmn; simp only at hmn; omega)
              obtain ⟨zc, hzc⟩ : ∃ zc, cmpV ⟨ma, mi, mp, [], []⟩ ⟨na, ni, 0, [], []⟩ = zc := ⟨_, rfl⟩
              rw [hzc] at hz
              have HZC := Lib.hid hzc
              unfold verV nextRes relV at M0
              simp only at M0
              have M := Lib.hid M0
              clear M0 hm hmn hmw hzc
              go_wp2_with fail
              refine M.out.mono ?_
              rintro e q0 ⟨rfl, bb⟩
              have bq : Below q0.heap.size q0 (q0.alloc (.cells #[.int .i64 ma, .int .i64 mi, .int .i64 mp, .slice none 0 0, .slice none 0 0] 24)) := (Below.refl _ _).alloc (Nat.le_refl _) _
              have b1 := HBj.out.trans (bb.mono HBj.out.size)
              have b2 := b1.trans (bq.mono b1.size)
              have mA := (jA.out.below bb).below bq
              have mN := (jN.out.below bb).below bq
              have mM := BlockAt.new q0 #[.int .i64 ma, .int .i64 mi, .int .i64 mp, .slice none 0 0, .slice none 0 0] 24
              obtain ⟨n0, n1, n2, n3, n4⟩ := cell5 (jN.out.below bb)
              have hln := (jN.out.below bb).lt
              go_wp2_with fail
              clear bb bq b1 a0 a1 a2 a3 a4 n0 n1 n2 n3 n4 hln
              generalize q0.alloc (.cells #[.int .i64 ma, .int .i64 mi, .int .i64 mp, .slice none 0 0, .slice none 0 0] 24) = q1 at *
              have BR := Lib.hid b2
              have BRJ := Lib.hid (BZ.out.trans (b2.mono BZ.out.size))
              have M1 := cmp_any ⟨ma, mi, mp, [], []⟩ ⟨na, ni, 0, [], []⟩ none none none none 0 0 0 0 q1 (rel_verC q1 ma mi mp MR.out.1 MR.out.2.1 MR.out.2.2) (CN q1).out (HG.out.errs.below BRJ.out) true true HRM.out HRN.out
              rw [HZC.out] at M1
              unfold verV at M1
              simp only [Bool.and_self, if_true, List.length_nil] at M1
              have M := Lib.hid M1
              have hz0 : decide (0 < zc) = false := decide_eq_false (by omega)
              obtain ⟨n0, n1, n2, n3, n4⟩ := cell5 mN
              obtain ⟨m0, m1, m2, m3, m4⟩ := cell5 mM
              clear M1 b2 mA mN mM
              refine M.out.mono ?_
              rintro e q2 ⟨rfl, bb⟩
              have BR2 := Lib.hid (BR.out.trans (bb.mono BR.out.size))
              clear bb n0 n1 n2 n3 n4 m0 m1 m2 m3 m4
              go_wp2_with fail
              go_roundw
              case rel => first | exact ⟨j + 1, by omega, by go_num, BR2⟩ | ((repeat apply Exists.intro); exact ⟨⟨j + 1, by omega, by go_num, BR2⟩, rfl⟩)
              case measure => simp [intOf]; omega
          · obtain rfl : j = 1 := by omega
            go_wp2_with fail
            go_ret
            exact ⟨rfl, BJ.out⟩
set_option maxHeartbeats 64000000 in
set_option maxRecDepth 100000 in
theorem least_2 (V0 : Vr) (po0 bo0 : Option Addr) (pc0 bc0 : Nat) (V1 : Vr) (po1 bo1 : Option Addr) (pc1 bc1 : Nat) (c : Int) (w : World) (h0 : VerIn w po0 bo0 pc0 bc0 V0) (h1 : VerIn w po1 bo1 pc1 bc1 V1) (hc : -9223372036854775808 ≤ c ∧ c ≤ 9223372036854775807) (hV : Vars w) (k : Int) (hk2 : 2 ≤ k) (hk3 : k ≤ 3) (hk : (c.tmod 4 + 4) % 4 = k) :
    Calls Tryd.prog 6 #[verV V0 po0 pc0 bo0 bc0, verV V1 po1 pc1 bo1 bc1, .int .i64 c] w fun e w' => e = .returned (.bool true) ∧ Below w.heap.size w w' := by
  have HG := Lib.hid hV
  clear hV
  have hb3 := tmod_range c
  obtain ⟨t, ht⟩ : ∃ t, c.tmod 4 = t := ⟨_, rfl⟩
  rw [ht] at hk hb3
  obtain ⟨hc1, hc2⟩ := hc
  obtain ⟨ht1, ht2⟩ := hb3
  have hk' : (t + 4).tmod 4 = k := by rw [Int.tmod_eq_emod_of_nonneg (by omega)]; exact hk
  unfold verV
  have H0 := Lib.hid h0
  have H1 := Lib.hid h1
  obtain ⟨wa, hw0⟩ : ∃ x, w.alloc (.cells #[.int .i64 V0.ma, .int .i64 V0.mi, .int .i64 V0.pa, .slice po0 V0.pre.length pc0, .slice bo0 V0.build.length bc0] 24) = x := ⟨_, rfl⟩
  obtain ⟨k0, q0, z0⟩ := box_new hw0
  obtain ⟨wb, hw1⟩ : ∃ x, wa.alloc (.cells #[.int .i64 V1.ma, .int .i64 V1.mi, .int .i64 V1.pa, .slice po1 V1.pre.length pc1, .slice bo1 V1.build.length bc1] 24) = x := ⟨_, rfl⟩
  obtain ⟨k1, q1, z1⟩ := box_new hw1
  have K0 := Lib.hid (k0.below q1)
  have K1 := Lib.hid k1
  have BW := Lib.hid (q0.trans (q1.mono q0.size))
  have HZ := Lib.hid (show wa.heap.size = w.heap.size + 1 ∧ wb.heap.size = wa.heap.size + 1 ∧ True from ⟨z0, z1, trivial⟩)
  clear h0 k0 q0 z0 h1 k1 q1 z1
  go_enter Tryd.func6, Tryd.ntmps6
  go_wp2_with fail
  clear hw0 hw1
  obtain ⟨e0_0, e0_1, e0_2, e0_3, e0_4⟩ := cell5 K0.out
  obtain ⟨e1_0, e1_1, e1_2, e1_3, e1_4⟩ := cell5 K1.out
  refine GoG.start [(4, ⟨w.heap.size, 0, none⟩, .int .i64 V0.ma), (4, ⟨w.heap.size, 1, none⟩, .int .i64 V0.mi), (4, ⟨w.heap.size, 2, none⟩, .int .i64 V0.pa), (4, ⟨w.heap.size, 3, none⟩, .slice po0 V0.pre.length pc0), (4, ⟨w.heap.size, 4, none⟩, .slice bo0 V0.build.length bc0), (5, ⟨wa.heap.size, 0, none⟩, .int .i64 V1.ma), (5, ⟨wa.heap.size, 1, none⟩, .int .i64 V1.mi), (5, ⟨wa.heap.size, 2, none⟩, .int .i64 V1.pa), (5, ⟨wa.heap.size, 3, none⟩, .slice po1 V1.pre.length pc1), (5, ⟨wa.heap.size, 4, none⟩, .slice bo1 V1.build.length bc1)] (by kernel_rfl) ?_ ?_
  · exact (Keeps.cons (by first | assumption | simp [*]) (Keeps.cons (by first | assumption | simp [*]) (Keeps.cons (by first | assumption | simp [*]) (Keeps.cons (by first | assumption | simp [*]) (Keeps.cons (by first | assumption | simp [*]) (Keeps.cons (by first | assumption | simp [*]) (Keeps.cons (by first | assumption | simp [*]) (Keeps.cons (by first | assumption | simp [*]) (Keeps.cons (by first | assumption | simp [*]) (Keeps.cons (by first | assumption | simp [*]) (Keeps.nil)))))))))))
  refine GoG.take (i := 0) (v := ?_) [1, 3, 4, 5] rfl (by kernel_rfl) (by kernel_rfl) (by kernel_rfl) (by kernel_rfl) (by kernel_rfl) (by kernel_rfl) (fun _ _ _ h => h) (.inl ⟨by rfl, fun wz hS => ?_⟩) ?_
  rotate_left
  · have y0 := hS (4, ⟨w.heap.size, 0, none⟩, .int .i64 V0.ma) (by simp) (by simp)
    have y1 := hS (4, ⟨w.heap.size, 1, none⟩, .int .i64 V0.mi) (by simp) (by simp)
    have y2 := hS (4, ⟨w.heap.size, 2, none⟩, .int .i64 V0.pa) (by simp) (by simp)
    have y3 := hS (4, ⟨w.heap.size, 3, none⟩, .slice po0 V0.pre.length pc0) (by simp) (by simp)
    have y4 := hS (4, ⟨w.heap.size, 4, none⟩, .slice bo0 V0.build.length bc0) (by simp) (by simp)
    clear hS
    simp only at y0 y1 y2 y3 y4
    go_simp; try (with_reducible rfl)
  try simp only [Act.put, List.setIfInBounds_toArray, List.set_cons_zero, List.set_cons_succ]
  refine GoG.take (i := 2) (v := ?_) [3, 4, 5] rfl (by kernel_rfl) (by kernel_rfl) (by kernel_rfl) (by kernel_rfl) (by kernel_rfl) (by kernel_rfl) (fun _ _ _ h => h) (.inl ⟨by rfl, fun wz hS => ?_⟩) ?_
  rotate_left
  · have y0 := hS (5, ⟨wa.heap.size, 0, none⟩, .int .i64 V1.ma) (by simp) (by simp)
    have y1 := hS (5, ⟨wa.heap.size, 1, none⟩, .int .i64 V1.mi) (by simp) (by simp)
    have y2 := hS (5, ⟨wa.heap.size, 2, none⟩, .int .i64 V1.pa) (by simp) (by simp)
    have y3 := hS (5, ⟨wa.heap.size, 3, none⟩, .slice po1 V1.pre.length pc1) (by simp) (by simp)
    have y4 := hS (5, ⟨wa.heap.size, 4, none⟩, .slice bo1 V1.build.length bc1) (by simp) (by simp)
    clear hS
    simp only at y0 y1 y2 y3 y4
    go_simp; try (with_reducible rfl)
  try simp only [Act.put, List.setIfInBounds_toArray, List.set_cons_zero, List.set_cons_succ]
  have BD := Lib.hid (show Below w.heap.size w wb.drew from BW.out.drew)
  have KD0 := Lib.hid (show BlockAt wb.drew w.heap.size _ _ from K0.out.below ((Below.refl _ _).drew))
  have KD1 := Lib.hid (show BlockAt wb.drew wa.heap.size _ _ from K1.out.below ((Below.refl _ _).drew))
  clear e0_0 e0_1 e0_2 e0_3 e0_4 e1_0 e1_1 e1_2 e1_3 e1_4
  clear K0 K1
  have ZD := Lib.hid (show wb.heap.size ≤ wb.drew.heap.size from Nat.le_refl _)
  have F := Lib.hid (few_base V0 po0 bo0 pc0 bc0 wb.drew (H0.out.below BD.out))
  unfold verV at F
  obtain ⟨e0_0, e0_1, e0_2, e0_3, e0_4⟩ := cell5 KD0.out
  obtain ⟨e1_0, e1_1, e1_2, e1_3, e1_4⟩ := cell5 KD1.out
  refine GoG.one (i := 1) rfl (by kernel_rfl) (fun K hK => ?_)
  go_simp
  refine F.out.mono ?_
  rintro e u0 ⟨xp0, xc0, xb0, xd0, U0, rfl, hv, hn, bb, cp, cb, rn1, rn2⟩
  unfold verV
  have B0 := Lib.hid (BD.out.trans (bb.mono BD.out.size))
  have Z0 := Lib.hid (Nat.le_trans ZD.out bb.size)
  have ZR0 := ZD
  have HV0 := Lib.hid hv
  have HN0 := Lib.hid hn
  have HC0 := Lib.hid (And.intro cp cb)
  clear e0_0 e0_1 e0_2 e0_3 e0_4 e1_0 e1_1 e1_2 e1_3 e1_4
  have M0_0 := Lib.hid (KD0.out.below bb)
  have M0_1 := Lib.hid (KD1.out.below bb)
  have RP0 := Lib.hid rn1
  have RB0 := Lib.hid rn2
  clear bb hv hn cp cb rn1 rn2 F KD0 KD1 BD
  obtain ⟨e0_0, e0_1, e0_2, e0_3, e0_4⟩ := cell5 M0_0.out
  obtain ⟨e1_0, e1_1, e1_2, e1_3, e1_4⟩ := cell5 M0_1.out
  refine hK.out _ _ (Keeps.cons (by first | assumption | simp [*]) (Keeps.cons (by first | assumption | simp [*]) (Keeps.cons (by first | assumption | simp [*]) (Keeps.cons (by first | assumption | simp [*]) (Keeps.cons (by first | assumption | simp [*]) (Keeps.cons (by first | assumption | simp [*]) (Keeps.cons (by first | assumption | simp [*]) (Keeps.cons (by first | assumption | simp [*]) (Keeps.cons (by first | assumption | simp [*]) (Keeps.cons (by first | assumption | simp [*]) (Keeps.nil))))))))))) ?_
  clear hK K
  clear e0_0 e0_1 e0_2 e0_3 e0_4 e1_0 e1_1 e1_2 e1_3 e1_4
  have F := Lib.hid (few_base V1 po1 bo1 pc1 bc1 u0 (H1.out.below B0.out))
  unfold verV at F
  obtain ⟨e0_0, e0_1, e0_2, e0_3, e0_4⟩ := cell5 M0_0.out
  obtain ⟨e1_0, e1_1, e1_2, e1_3, e1_4⟩ := cell5 M0_1.out
  refine GoG.one (i := 3) rfl (by kernel_rfl) (fun K hK => ?_)
  go_simp
  refine F.out.mono ?_
  rintro e u1 ⟨xp1, xc1, xb1, xd1, U1, rfl, hv, hn, bb, cp, cb, rn1, rn2⟩
  unfold verV
  have B1 := Lib.hid (B0.out.trans (bb.mono B0.out.size))
  have Z1 := Lib.hid (Nat.le_trans Z0.out bb.size)
  have ZR1 := Z0
  have HV1 := Lib.hid hv
  have HN1 := Lib.hid hn
  have HC1 := Lib.hid (And.intro cp cb)
  clear e0_0 e0_1 e0_2 e0_3 e0_4 e1_0 e1_1 e1_2 e1_3 e1_4
  have M1_0 := Lib.hid (M0_0.out.below bb)
  have M1_1 := Lib.hid (M0_1.out.below bb)
  have RP0u := Lib.hid (RP0.out.below bb)
  clear RP0
  have RB0u := Lib.hid (RB0.out.below bb)
  clear RB0
  have RP1 := Lib.hid rn1
  have RB1 := Lib.hid rn2
  clear bb hv hn cp cb rn1 rn2 F M0_0 M0_1 B0
  obtain ⟨e0_0, e0_1, e0_2, e0_3, e0_4⟩ := cell5 M1_0.out
  obtain ⟨e1_0, e1_1, e1_2, e1_3, e1_4⟩ := cell5 M1_1.out
  refine hK.out _ _ (Keeps.cons (by first | assumption | simp [*]) (Keeps.cons (by first | assumption | simp [*]) (Keeps.cons (by first | assumption | simp [*]) (Keeps.cons (by first | assumption | simp [*]) (Keeps.cons (by first | assumption | simp [*]) (Keeps.cons (by first | assumption | simp [*]) (Keeps.cons (by first | assumption | simp [*]) (Keeps.cons (by first | assumption | simp [*]) (Keeps.cons (by first | assumption | simp [*]) (Keeps.cons (by first | assumption | simp [*]) (Keeps.nil))))))))))) ?_
  clear hK K
  clear e0_0 e0_1 e0_2 e0_3 e0_4 e1_0 e1_1 e1_2 e1_3 e1_4
  obtain ⟨s0, hs0⟩ : ∃ s, (((((u1.setCell ⟨w.heap.size, 0, none⟩ (.int .i64 U0.ma)).setCell ⟨w.heap.size, 1, none⟩ (.int .i64 U0.mi)).setCell ⟨w.heap.size, 2, none⟩ (.int .i64 U0.pa)).setCell ⟨w.heap.size, 3, none⟩ (.slice xp0 U0.pre.length xc0)).setCell ⟨w.heap.size, 4, none⟩ (.slice xb0 U0.build.length xd0)) = s := ⟨_, rfl⟩
  obtain ⟨g1, g2, g3, g4, g5⟩ := set5_facts hs0
  have fr0 := M1_0.out.free 0
  have fr1 := M1_0.out.free 1
  have fr2 := M1_0.out.free 2
  have fr3 := M1_0.out.free 3
  have fr4 := M1_0.out.free 4
  obtain ⟨e0_0, e0_1, e0_2, e0_3, e0_4⟩ := cell5 M1_0.out
  obtain ⟨e1_0, e1_1, e1_2, e1_3, e1_4⟩ := cell5 M1_1.out
  have N0_0 := Lib.hid (set5_at g1 M1_0.out)
  have N0_1 := Lib.hid (g2 _ _ _ M1_1.out (by have := HZ.out; omega))
  have Q0 := Lib.hid (g4 _ _ B1.out (by have := HZ.out; omega))
  have RP0us := Lib.hid (g3 _ _ _ RP0u.out (by have := HZ.out; have := ZR0.out; omega))
  clear RP0u
  have RB0us := Lib.hid (g3 _ _ _ RB0u.out (by have := HZ.out; have := ZR0.out; omega))
  clear RB0u
  have RP1s := Lib.hid (g3 _ _ _ RP1.out (by have := HZ.out; have := ZR1.out; omega))
  clear RP1
  have RB1s := Lib.hid (g3 _ _ _ RB1.out (by have := HZ.out; have := ZR1.out; omega))
  clear RB1
  clear g1 g2 g3 g4 g5 B1 M1_0 M1_1
  refine GoG.one (i := 4) rfl (by kernel_rfl) (fun K hK => ?_)
  go_simp
  clear e0_0 e0_1 e0_2 e0_3 e0_4 e1_0 e1_1 e1_2 e1_3 e1_4
  clear fr0 fr1 fr2 fr3 fr4
  obtain ⟨e0_0, e0_1, e0_2, e0_3, e0_4⟩ := cell5 N0_0.out
  obtain ⟨e1_0, e1_1, e1_2, e1_3, e1_4⟩ := cell5 N0_1.out
  refine hK.out _ _ (Keeps.up (by rfl) (Keeps.up (by rfl) (Keeps.up (by rfl) (Keeps.up (by rfl) (Keeps.up (by rfl) (Keeps.cons (by first | assumption | simp [*]) (Keeps.cons (by first | assumption | simp [*]) (Keeps.cons (by first | assumption | simp [*]) (Keeps.cons (by first | assumption | simp [*]) (Keeps.cons (by first | assumption | simp [*]) (Keeps.nil))))))))))) ?_
  clear hK K hs0
  clear e0_0 e0_1 e0_2 e0_3 e0_4 e1_0 e1_1 e1_2 e1_3 e1_4
  obtain ⟨s1, hs1⟩ : ∃ s, (((((s0.setCell ⟨wa.heap.size, 0, none⟩ (.int .i64 U1.ma)).setCell ⟨wa.heap.size, 1, none⟩ (.int .i64 U1.mi)).setCell ⟨wa.heap.size, 2, none⟩ (.int .i64 U1.pa)).setCell ⟨wa.heap.size, 3, none⟩ (.slice xp1 U1.pre.length xc1)).setCell ⟨wa.heap.size, 4, none⟩ (.slice xb1 U1.build.length xd1)) = s := ⟨_, rfl⟩
  obtain ⟨g1, g2, g3, g4, g5⟩ := set5_facts hs1
  have fr0 := N0_1.out.free 0
  have fr1 := N0_1.out.free 1
  have fr2 := N0_1.out.free 2
  have fr3 := N0_1.out.free 3
  have fr4 := N0_1.out.free 4
  obtain ⟨e0_0, e0_1, e0_2, e0_3, e0_4⟩ := cell5 N0_0.out
  obtain ⟨e1_0, e1_1, e1_2, e1_3, e1_4⟩ := cell5 N0_1.out
  have N1_0 := Lib.hid (g2 _ _ _ N0_0.out (by have := HZ.out; omega))
  have N1_1 := Lib.hid (set5_at g1 N0_1.out)
  have Q1 := Lib.hid (g4 _ _ Q0.out (by have := HZ.out; omega))
  have RP0uss := Lib.hid (g3 _ _ _ RP0us.out (by have := HZ.out; have := ZR0.out; omega))
  clear RP0us
  have RB0uss := Lib.hid (g3 _ _ _ RB0us.out (by have := HZ.out; have := ZR0.out; omega))
  clear RB0us
  have RP1ss := Lib.hid (g3 _ _ _ RP1s.out (by have := HZ.out; have := ZR1.out; omega))
  clear RP1s
  have RB1ss := Lib.hid (g3 _ _ _ RB1s.out (by have := HZ.out; have := ZR1.out; omega))
  clear RB1s
  clear g1 g2 g3 g4 g5 Q0 N0_0 N0_1
  refine GoG.one (i := 5) rfl (by kernel_rfl) (fun K hK => ?_)
  go_simp
  clear e0_0 e0_1 e0_2 e0_3 e0_4 e1_0 e1_1 e1_2 e1_3 e1_4
  clear fr0 fr1 fr2 fr3 fr4
  obtain ⟨e0_0, e0_1, e0_2, e0_3, e0_4⟩ := cell5 N1_0.out
  obtain ⟨e1_0, e1_1, e1_2, e1_3, e1_4⟩ := cell5 N1_1.out
  refine hK.out _ _ (Keeps.up (by rfl) (Keeps.up (by rfl) (Keeps.up (by rfl) (Keeps.up (by rfl) (Keeps.up (by rfl) (Keeps.up (by rfl) (Keeps.up (by rfl) (Keeps.up (by rfl) (Keeps.up (by rfl) (Keeps.up (by rfl) (Keeps.nil))))))))))) ?_
  clear hK K hs1
  clear e0_0 e0_1 e0_2 e0_3 e0_4 e1_0 e1_1 e1_2 e1_3 e1_4
  refine GoG.done (by kernel_rfl) ?_ _
  have C0 := Lib.hid (show VerC s1 xp0 xb0 U0 from { HV0.out with pre := RP0uss.out.row, build := RB0uss.out.row })
  have GP0 := Lib.hid (show SRowN wb.heap.size s1 xp0 U0.pre from RP0uss.out.mono (by have := ZR0.out; omega))
  have GB0 := Lib.hid (show SRowN wb.heap.size s1 xb0 U0.build from RB0uss.out.mono (by have := ZR0.out; omega))
  clear HV0 RP0uss RB0uss
  have C1 := Lib.hid (show VerC s1 xp1 xb1 U1 from { HV1.out with pre := RP1ss.out.row, build := RB1ss.out.row })
  have GP1 := Lib.hid (show SRowN wb.heap.size s1 xp1 U1.pre from RP1ss.out.mono (by have := ZR1.out; omega))
  have GB1 := Lib.hid (show SRowN wb.heap.size s1 xb1 U1.build from RB1ss.out.mono (by have := ZR1.out; omega))
  clear HV1 RP1ss RB1ss
  have T0 := Lib.hid N1_0.out
  have T1 := Lib.hid N1_1.out
  have BS := Lib.hid Q1.out
  clear Q1 N1_0 N1_1
  have hk0 : (0 : Int) ≤ k := by omega
  have hk4 : k ≤ 3 := by omega
  have NB : U0.ma ≤ bigM ∧ U0.mi ≤ bigM ∧ U0.pa ≤ bigM := by have := C0.out.nums; unfold bigM; omega
  have NO : U1.ma ≤ bigM ∧ U1.mi ≤ bigM ∧ U1.pa ≤ bigM := by have := C1.out.nums; unfold bigM; omega
  have NBH := Lib.hid NB
  have NOH := Lib.hid NO
  clear NB NO
  have BB := Lib.hid (Below.refl s1.heap.size s1)
  cases r0 : rightB U0 <;> have R0 := Lib.hid r0 <;> clear r0
  · have M0 := next_bad U0 k xp0 xb0 xc0 xd0 s1 C0.out (HG.out.errs.below BS.out) (.inl R0.out)
    unfold verV relV at M0
    have M := Lib.hid M0
    clear M0
    obtain ⟨e0_0, e0_1, e0_2, e0_3, e0_4⟩ := cell5 T0.out
    go_wp2_with fail
    clear ht hk hk' ht1 ht2
    refine M.out.mono ?_
    rintro e y0 ⟨rfl, bb⟩
    have B0 := Lib.hid (BS.out.trans (bb.mono BS.out.size))
    have T0' := Lib.hid (T0.out.below bb)
    have C0' := Lib.hid (C0.out.below bb)
    clear bb e0_0 e0_1 e0_2 e0_3 e0_4 M BS T0 C0
    have bz : Below w.heap.size w (y0.alloc (.cells #[.int .i64 0, .int .i64 0, .int .i64 0, .slice none 0 0, .slice none 0 0] 24)) := B0.out.alloc B0.out.size _
    have bq : Below y0.heap.size y0 (y0.alloc (.cells #[.int .i64 0, .int .i64 0, .int .i64 0, .slice none 0 0, .slice none 0 0] 24)) := (Below.refl _ _).alloc (Nat.le_refl _) _
    have T2 := Lib.hid (T0'.out.below bq)
    have C2 := Lib.hid (C0'.out.below bq)
    have BZ := Lib.hid bz
    have HL := Lib.hid (alive_any _ (HG.out.below bz))
    clear bz bq B0 T0' C0'
    obtain ⟨e0_0, e0_1, e0_2, e0_3, e0_4⟩ := cell5 T2.out
    go_wp2_with fail
    refine HL.out.mono ?_
    rintro e y1 ⟨rfl, bb⟩
    have T3 := Lib.hid (T2.out.below bb)
    have B3 := Lib.hid (BZ.out.trans (bb.mono BZ.out.size))
    have M1 := right_any U0 xp0 xb0 xc0 xd0 y1 (C2.out.below bb) (HG.out.errs.below B3.out)
    rw [R0.out] at M1
    unfold verV at M1
    have M2 := Lib.hid M1
    clear bb M1 e0_0 e0_1 e0_2 e0_3 e0_4 T2 C2 BZ HL
    obtain ⟨e0_0, e0_1, e0_2, e0_3, e0_4⟩ := cell5 T3.out
    go_wp2_with fail
    refine M2.out.mono ?_
    rintro e y2 ⟨rfl, bb⟩
    have B4 := Lib.hid (B3.out.trans (bb.mono B3.out.size))
    clear bb
    go_wp2_with fail
    go_ret
    exact ⟨ret_bool (by first | rfl | decide), B4.out⟩
  have HNU := Lib.hid (nums_of R0.out NBH.out.1 NBH.out.2.1 NBH.out.2.2)
  have M0 := next_any U0 k xp0 xb0 xc0 xd0 s1 C0.out (HG.out.errs.below BS.out) R0.out (by omega) (by omega)
  cases hn : nextV U0 k with
  | none =>
    rw [hn] at M0
    unfold verV nextRes relV at M0
    have M := Lib.hid M0
    clear M0 hn
    obtain ⟨e0_0, e0_1, e0_2, e0_3, e0_4⟩ := cell5 T0.out
    go_wp2_with fail
    clear ht hk hk' ht1 ht2
    refine M.out.mono ?_
    rintro e y0 ⟨rfl, bb⟩
    have B0 := Lib.hid (BS.out.trans (bb.mono BS.out.size))
    clear bb e0_0 e0_1 e0_2 e0_3 e0_4 M BS T0 C0
    have bz : Below w.heap.size w (y0.alloc (.cells #[.int .i64 0, .int .i64 0, .int .i64 0, .slice none 0 0, .slice none 0 0] 24)) := B0.out.alloc B0.out.size _
    have BZ := Lib.hid bz
    have HL := Lib.hid (alive_any _ (HG.out.below bz))
    clear bz B0
    go_wp2_with fail
    refine HL.out.mono ?_
    rintro e y1 ⟨rfl, bb⟩
    have B3 := Lib.hid (BZ.out.trans (bb.mono BZ.out.size))
    clear bb
    go_wp2_with fail
    go_ret
    exact ⟨ret_bool (by first | rfl | decide), B3.out⟩
  | some n =>
    rw [hn] at M0
    have HN := Lib.hid hn
    have HNN := Lib.hid (next_nums HNU.out hn)
    have HAH := Lib.hid (next_ahead HNU.out hn)
    have HW := Lib.hid (nextV_ways hn)
    clear hn
    obtain ⟨na, ni, np, nq, nb⟩ := n
    have e1 : nq = [] := HW.out.1
    have e2 : nb = [] := HW.out.2.1
    subst e1
    subst e2
    unfold verV nextRes relV at M0
    simp only at M0
    have M := Lib.hid M0
    clear M0
    obtain ⟨e0_0, e0_1, e0_2, e0_3, e0_4⟩ := cell5 T0.out
    go_wp2_with fail
    clear ht hk hk' ht1 ht2
    refine M.out.mono ?_
    rintro e y0 ⟨rfl, bb⟩
    have B0 := Lib.hid (BS.out.trans (bb.mono BS.out.size))
    have BX := Lib.hid (BB.out.trans (bb.mono BB.out.size))
    have T0' := Lib.hid (T0.out.below bb)
    have T1' := Lib.hid (T1.out.below bb)
    clear bb e0_0 e0_1 e0_2 e0_3 e0_4 M BS T0 T1 BB
    have bz : Below w.heap.size w (y0.alloc (.cells #[.int .i64 na, .int .i64 ni, .int .i64 np, .slice none 0 0, .slice none 0 0] 24)) := B0.out.alloc B0.out.size _
    have bq : Below y0.heap.size y0 (y0.alloc (.cells #[.int .i64 na, .int .i64 ni, .int .i64 np, .slice none 0 0, .slice none 0 0] 24)) := (Below.refl _ _).alloc (Nat.le_refl _) _
    have TN := Lib.hid (BlockAt.new y0 #[.int .i64 na, .int .i64 ni, .int .i64 np, .slice none 0 0, .slice none 0 0] 24)
    have HY := Lib.hid (show wa.heap.size < y0.heap.size from T1'.out.lt)
    have TA := Lib.hid (T0'.out.below bq)
    have TB := Lib.hid (T1'.out.below bq)
    have BZ := Lib.hid bz
    have BY := Lib.hid (BX.out.trans (bq.mono BX.out.size))
    obtain ⟨a0, a1, a2, a3, a4⟩ := cell5 T0'.out
    have hl0 := T0'.out.lt
    clear bz bq B0 T0' T1' BX
    have hma : U0.ma = 0 ∨ 0 < U0.ma := by have := HNU.out.1; omega
    rcases hma with hma | hma
    · have hp1 : decide (0 < U0.ma) = false := by rw [hma]; rfl
      have e3 : np = 0 := by have h := HW.out.2.2; (try simp only at h); omega
      subst e3
      have HMA := Lib.hid hma
      clear hma
      have HRN := Lib.hid (right_rel (v := ⟨na, ni, 0, [], []⟩) rfl rfl HNN.out)
      have NR := Lib.hid (show (0 ≤ na ∧ na ≤ 9223372036854775807) ∧ (0 ≤ (ni : Int) ∧ (ni : Int) ≤ 9223372036854775807) ∧ (0 ≤ (0 : Int) ∧ (0 : Int) ≤ 9223372036854775807) from by have h := HNN.out; unfold NumsOk bigM at h; simp only at h; omega)
      go_wp2_with fail
      clear a0 a1 a2 a3 a4 hl0
      generalize y0.alloc (.cells #[.int .i64 na, .int .i64 ni, .int .i64 0, .slice none 0 0, .slice none 0 0] 24) = y1 at *
      have CN := fun w => Lib.hid (rel_verC w na ni 0 NR.out.1 NR.out.2.1 NR.out.2.2)
      have M1 := cmp_any ⟨na, ni, 0, [], []⟩ U0 none none xp0 xb0 0 0 xc0 xd0 y1 (CN y1).out (C0.out.below BY.out) (HG.out.errs.below BZ.out) true true HRN.out R0.out
      rw [HAH.out] at M1
      unfold verV at M1
      simp only [Bool.and_self, if_true, List.length_nil] at M1
      have M := Lib.hid M1
      clear M1
      obtain ⟨a0, a1, a2, a3, a4⟩ := cell5 TA.out
      obtain ⟨b0, b1, b2, b3, b4⟩ := cell5 TB.out
      obtain ⟨n0, n1, n2, n3, n4⟩ := cell5 TN.out
      refine M.out.mono ?_
      rintro e y2 ⟨rfl, bb⟩
      have tA := TA.out.below bb
      have tB := TB.out.below bb
      have tN := TN.out.below bb
      have bZ := BZ.out.trans (bb.mono BZ.out.size)
      have bY := BY.out.trans (bb.mono BY.out.size)
      clear a0 a1 a2 a3 a4 b0 b1 b2 b3 b4 n0 n1 n2 n3 n4
      clear bb M TA TB TN BZ BY
      have TA := Lib.hid tA
      have TB := Lib.hid tB
      have TN := Lib.hid tN
      have BZ := Lib.hid bZ
      have BY := Lib.hid bY
      clear tA tB tN bZ bY
      have M1 := right_any ⟨na, ni, 0, [], []⟩ none none 0 0 y2 (CN y2).out (HG.out.errs.below BZ.out)
      rw [HRN.out] at M1
      unfold verV at M1
      simp only [List.length_nil] at M1
      have M := Lib.hid M1
      clear M1
      obtain ⟨a0, a1, a2, a3, a4⟩ := cell5 TA.out
      obtain ⟨b0, b1, b2, b3, b4⟩ := cell5 TB.out
      obtain ⟨n0, n1, n2, n3, n4⟩ := cell5 TN.out
      go_wp2_with fail
      refine M.out.mono ?_
      rintro e y3 ⟨rfl, bb⟩
      have tA := TA.out.below bb
      have tB := TB.out.below bb
      have tN := TN.out.below bb
      have bZ := BZ.out.trans (bb.mono BZ.out.size)
      have bY := BY.out.trans (bb.mono BY.out.size)
      clear a0 a1 a2 a3 a4 b0 b1 b2 b3 b4 n0 n1 n2 n3 n4
      clear bb M TA TB TN BZ BY
      have TA := Lib.hid tA
      have TB := Lib.hid tB
      have TN := Lib.hid tN
      have BZ := Lib.hid bZ
      have BY := Lib.hid bY
      clear tA tB tN bZ bY
      have M := Lib.hid (alive_any y3 (HG.out.below BZ.out))
      obtain ⟨a0, a1, a2, a3, a4⟩ := cell5 TA.out
      obtain ⟨b0, b1, b2, b3, b4⟩ := cell5 TB.out
      obtain ⟨n0, n1, n2, n3, n4⟩ := cell5 TN.out
      go_wp2_with fail
      refine M.out.mono ?_
      rintro e y4 ⟨rfl, bb⟩
      have tA := TA.out.below bb
      have tB := TB.out.below bb
      have tN := TN.out.below bb
      have bZ := BZ.out.trans (bb.mono BZ.out.size)
      have bY := BY.out.trans (bb.mono BY.out.size)
      clear a0 a1 a2 a3 a4 b0 b1 b2 b3 b4 n0 n1 n2 n3 n4
      clear bb M TA TB TN BZ BY
      have TA := Lib.hid tA
      have TB := Lib.hid tB
      have TN := Lib.hid tN
      have BZ := Lib.hid bZ
      have BY := Lib.hid bY
      clear tA tB tN bZ bY
      have kB := (((TB.out.set 3 (.slice none 0 0)).set 4 (.slice none 0 0)).set 2 (.int .i64 0))
      simp only [List.setIfInBounds_toArray, List.set_cons_zero, List.set_cons_succ] at kB
      have kA := (((TA.out.other (c := wa.heap.size) (by have := HZ.out.1; omega) 3 (.slice none 0 0)).other (c := wa.heap.size) (by have := HZ.out.1; omega) 4 (.slice none 0 0)).other (c := wa.heap.size) (by have := HZ.out.1; omega) 2 (.int .i64 0))
      have kN := (((TN.out.other (c := wa.heap.size) (by have := HY.out; omega) 3 (.slice none 0 0)).other (c := wa.heap.size) (by have := HY.out; omega) 4 (.slice none 0 0)).other (c := wa.heap.size) (by have := HY.out; omega) 2 (.int .i64 0))
      have kZ := (((BZ.out.setCell (p := ⟨wa.heap.size, 3, none⟩) (by have := HZ.out.1; simp; omega) (.slice none 0 0)).setCell (p := ⟨wa.heap.size, 4, none⟩) (by have := HZ.out.1; simp; omega) (.slice none 0 0)).setCell (p := ⟨wa.heap.size, 2, none⟩) (by have := HZ.out.1; simp; omega) (.int .i64 0))
      have gp := (GP0.out.below BY.out)
      have gb := (GB0.out.below BY.out)
      have hz2 : wa.heap.size < wb.heap.size := by have := HZ.out.2.1; omega
      have gp := gp.set (k := 3) hz2 (.slice none 0 0)
      have gb := gb.set (k := 3) hz2 (.slice none 0 0)
      have gp := gp.set (k := 4) hz2 (.slice none 0 0)
      have gb := gb.set (k := 4) hz2 (.slice none 0 0)
      have gp := gp.set (k := 2) hz2 (.int .i64 0)
      have gb := gb.set (k := 2) hz2 (.int .i64 0)
      have fr3 := TB.out.free 3
      have fr4 := TB.out.free 4
      have fr2 := TB.out.free 2
      have fr1 := TB.out.free 1
      obtain ⟨a0, a1, a2, a3, a4⟩ := cell5 TA.out
      obtain ⟨b0, b1, b2, b3, b4⟩ := cell5 TB.out
      obtain ⟨n0, n1, n2, n3, n4⟩ := cell5 TN.out
      obtain ⟨v0, hv0⟩ : ∃ v, (((y4.setCell ⟨wa.heap.size, 3, none⟩ (.slice none 0 0)).setCell ⟨wa.heap.size, 4, none⟩ (.slice none 0 0)).setCell ⟨wa.heap.size, 2, none⟩ (.int .i64 0)) = v := ⟨_, rfl⟩
      rw [hv0] at kA kB kN kZ gp gb
      have C0v := Lib.hid (show VerC v0 xp0 xb0 U0 from { C0.out with pre := gp.row, build := gb.row })
      have SA := Lib.hid kA
      have SB := Lib.hid kB
      have SN := Lib.hid kN
      have SZ := Lib.hid kZ
      clear kA kB kN kZ gp gb
      obtain ⟨q0, q1, q2, q3, q4⟩ := cell5 SB.out
      go_wp2_with fail
      clear a0 a1 a2 a3 a4 b0 b1 b2 b3 b4 n0 n1 n2 n3 n4
      clear hv0 fr1 fr2 fr3 fr4 TA TB TN BZ BY q0 q1 q2 q3 q4
      clear hp1
      have TA := SA
      have TB := SB
      have TN := SN
      have BZ := SZ
      have BY := Lib.hid (Below.refl v0.heap.size v0)
      clear SA SB SN SZ
      have CO : ∀ w, VerC w none none ⟨U1.ma, U1.mi, 0, [], []⟩ := fun w => ⟨.inl rfl, .inl rfl, by simp, by simp, by simp, by simp, by have h := C1.out.nums; simp only; omega⟩
      have CO := Lib.hid CO
      have M1 := right_any ⟨U1.ma, U1.mi, 0, [], []⟩ none none 0 0 v0 (CO.out v0) (HG.out.errs.below BZ.out)
      cases ro : rightB ⟨U1.ma, U1.mi, 0, [], []⟩ <;> rw [ro] at M1 <;> have RO := Lib.hid ro <;> clear ro
      · unfold verV at M1
        simp only [List.length_nil] at M1
        have M := Lib.hid M1
        clear M1
        obtain ⟨a0, a1, a2, a3, a4⟩ := cell5 TA.out
        obtain ⟨b0, b1, b2, b3, b4⟩ := cell5 TB.out
        obtain ⟨n0, n1, n2, n3, n4⟩ := cell5 TN.out
        refine M.out.mono ?_
        rintro e v1 ⟨rfl, bb⟩
        have tA := TA.out.below bb
        have tB := TB.out.below bb
        have tN := TN.out.below bb
        have bZ := BZ.out.trans (bb.mono BZ.out.size)
        have bY := BY.out.trans (bb.mono BY.out.size)
        clear a0 a1 a2 a3 a4 b0 b1 b2 b3 b4 n0 n1 n2 n3 n4
        clear bb M TA TB TN BZ BY
        have TA := Lib.hid tA
        have TB := Lib.hid tB
        have TN := Lib.hid tN
        have BZ := Lib.hid bZ
        have BY := Lib.hid bY
        clear tA tB tN bZ bY
        go_wp2_with fail
        go_loopw [137] (fun i wr => ∃ j : Nat, (j : Int) ≤ k ∧ i = .int .i64 j ∧ Hid (Below v1.heap.size v1 wr)) (fun i _ => (k - intOf i).toNat)
        case atStart => exact ⟨0, by omega, rfl, Lib.hid (Below.refl _ _)⟩
        case round =>
          obtain ⟨j, hj, rfl, HBj⟩ := hrel
          have BJ := Lib.hid (BZ.out.trans (HBj.out.mono BZ.out.size))
          have BYJ := Lib.hid (BY.out.trans (HBj.out.mono BY.out.size))
          by_cases hlt : (j : Int) < k
          · have M0 := next_any U0 j xp0 xb0 xc0 xd0 wr (C0v.out.below BYJ.out) (HG.out.errs.below BJ.out) R0.out (by omega) (by omega)
            have jA := Lib.hid (TA.out.below HBj.out)
            have jN := Lib.hid (TN.out.below HBj.out)
            obtain ⟨a0, a1, a2, a3, a4⟩ := cell5 jA.out
            cases hm : nextV U0 j with
            | none =>
              rw [hm] at M0
              unfold verV nextRes relV at M0
              have M := Lib.hid M0
              clear M0 hm
              go_wp2_with fail
              refine M.out.mono ?_
              rintro e q0 ⟨rfl, bb⟩
              have BR := Lib.hid (show Below v1.heap.size v1 (q0.alloc (.cells #[.int .i64 0, .int .i64 0, .int .i64 0, .slice none 0 0, .slice none 0 0] 24)) from (HBj.out.trans (bb.mono HBj.out.size)).alloc (HBj.out.trans (bb.mono HBj.out.size)).size _)
              clear bb a0 a1 a2 a3 a4
              go_wp2_with fail
              go_roundw
              case rel => first | exact ⟨j + 1, by omega, by go_num, BR⟩ | ((repeat apply Exists.intro); exact ⟨⟨j + 1, by omega, by go_num, BR⟩, rfl⟩)
              case measure => simp [intOf]; omega
            | some m =>
              rw [hm] at M0
              have hz := next_class HNU.out HN.out hm (by omega) hlt
              have hmn := next_nums HNU.out hm
              have hmw := nextV_ways hm
              obtain ⟨ma, mi, mp, mq, mb⟩ := m
              have e5 : mq = [] := hmw.1
              have e6 : mb = [] := hmw.2.1
              subst e5
              subst e6
              have HRM := Lib.hid (right_rel (v := ⟨ma, mi, mp, [], []⟩) rfl rfl hmn)
              have MR := Lib.hid (show (0 ≤ ma ∧ ma ≤ 9223372036854775807) ∧ (0 ≤ mi ∧ mi ≤ 9223372036854775807) ∧ (0 ≤ mp ∧ mp ≤ 9223372036854775807) from by unfold NumsOk bigM at hmn; simp only at hmn; omega)
              obtain ⟨zc, hzc⟩ : ∃ zc, cmpV ⟨ma, mi, mp, [], []⟩ ⟨na, ni, 0, [], []⟩ = zc := ⟨_, rfl⟩
              rw [hzc] at hz
              have HZC := Lib.hid hzc
              unfold verV nextRes relV at M0
              simp only at M0
              have M := Lib.hid M0
              clear M0 hm hmn hmw hzc
              go_wp2_with fail
              refine M.out.mono ?_
              rintro e q0 ⟨rfl, bb⟩
              have bq : Below q0.heap.size q0 (q0.alloc (.cells #[.int .i64 ma, .int .i64 mi, .int .i64 mp, .slice none 0 0, .slice none 0 0] 24)) := (Below.refl _ _).alloc (Nat.le_refl _) _
              have b1 := HBj.out.trans (bb.mono HBj.out.size)
              have b2 := b1.trans (bq.mono b1.size)
              have mA := (jA.out.below bb).below bq
              have mN := (jN.out.below bb).below bq
              have mM := BlockAt.new q0 #[.int .i64 ma, .int .i64 mi, .int .i64 mp, .slice none 0 0, .slice none 0 0] 24
              obtain ⟨n0, n1, n2, n3, n4⟩ := cell5 (jN.out.below bb)
              have hln := (jN.out.below bb).lt
              go_wp2_with fail
              clear bb bq b1 a0 a1 a2 a3 a4 n0 n1 n2 n3 n4 hln
              generalize q0.alloc (.cells #[.int .i64 ma, .int .i64 mi, .int .i64 mp, .slice none 0 0, .slice none 0 0] 24) = q1 at *
              have BR := Lib.hid b2
              have BRJ := Lib.hid (BZ.out.trans (b2.mono BZ.out.size))
              have M1 := cmp_any ⟨ma, mi, mp, [], []⟩ ⟨na, ni, 0, [], []⟩ none none none none 0 0 0 0 q1 (rel_verC q1 ma mi mp MR.out.1 MR.out.2.1 MR.out.2.2) (CN q1).out (HG.out.errs.below BRJ.out) true true HRM.out HRN.out
              rw [HZC.out] at M1
              unfold verV at M1
              simp only [Bool.and_self, if_true, List.length_nil] at M1
              have M := Lib.hid M1
              have hz0 : decide (0 < zc) = false := decide_eq_false (by omega)
              obtain ⟨n0, n1, n2, n3, n4⟩ := cell5 mN
              obtain ⟨m0, m1, m2, m3, m4⟩ := cell5 mM
              clear M1 b2 mA mN mM
              refine M.out.mono ?_
              rintro e q2 ⟨rfl, bb⟩
              have BR2 := Lib.hid (BR.out.trans (bb.mono BR.out.size))
              clear bb n0 n1 n2 n3 n4 m0 m1 m2 m3 m4
              go_wp2_with fail
              go_roundw
              case rel => first | exact ⟨j + 1, by omega, by go_num, BR2⟩ | ((repeat apply Exists.intro); exact ⟨⟨j + 1, by omega, by go_num, BR2⟩, rfl⟩)
              case measure => simp [intOf]; omega
          · have hge : decide ((j : Int) < k) = false := decide_eq_false hlt
            go_wp2_with fail
            go_ret
            exact ⟨rfl, BJ.out⟩
      · have hma := HMA.out
        have hbt := next_between HNU.out HN.out (nums_of RO.out (by have h := NOH.out; simp only; first | exact h.1 | (unfold bigM at *; omega)) (by have h := NOH.out; simp only; unfold bigM at *; omega) (by have h := NOH.out; simp only; unfold bigM at *; omega)) rfl (by omega) (by first | (intro _; rfl) | (intro h; omega)) (by first | (intro _ _; rfl) | (intro h h2; omega))
        clear hma
        obtain ⟨x, hx⟩ : ∃ x, cmpV ⟨U1.ma, U1.mi, 0, [], []⟩ U0 = x := ⟨_, rfl⟩
        obtain ⟨y, hy⟩ : ∃ y, cmpV ⟨U1.ma, U1.mi, 0, [], []⟩ ⟨na, ni, 0, [], []⟩ = y := ⟨_, rfl⟩
        rw [hx, hy] at hbt
        have HX := Lib.hid hx
        have HYY := Lib.hid hy
        clear hx hy
        unfold verV at M1
        simp only [List.length_nil] at M1
        have M := Lib.hid M1
        clear M1
        obtain ⟨a0, a1, a2, a3, a4⟩ := cell5 TA.out
        obtain ⟨b0, b1, b2, b3, b4⟩ := cell5 TB.out
        obtain ⟨n0, n1, n2, n3, n4⟩ := cell5 TN.out
        refine M.out.mono ?_
        rintro e v1 ⟨rfl, bb⟩
        have tA := TA.out.below bb
        have tB := TB.out.below bb
        have tN := TN.out.below bb
        have bZ := BZ.out.trans (bb.mono BZ.out.size)
        have bY := BY.out.trans (bb.mono BY.out.size)
        clear a0 a1 a2 a3 a4 b0 b1 b2 b3 b4 n0 n1 n2 n3 n4
        clear bb M TA TB TN BZ BY
        have TA := Lib.hid tA
        have TB := Lib.hid tB
        have TN := Lib.hid tN
        have BZ := Lib.hid bZ
        have BY := Lib.hid bY
        clear tA tB tN bZ bY
        have M1 := cmp_any ⟨U1.ma, U1.mi, 0, [], []⟩ U0 none none xp0 xb0 0 0 xc0 xd0 v1 (CO.out v1) (C0v.out.below BY.out) (HG.out.errs.below BZ.out) true true RO.out R0.out
        rw [HX.out] at M1
        unfold verV at M1
        simp only [Bool.and_self, if_true, List.length_nil] at M1
        have M := Lib.hid M1
        clear M1
        obtain ⟨a0, a1, a2, a3, a4⟩ := cell5 TA.out
        obtain ⟨b0, b1, b2, b3, b4⟩ := cell5 TB.out
        obtain ⟨n0, n1, n2, n3, n4⟩ := cell5 TN.out
        go_wp2_with fail
        refine M.out.mono ?_
        rintro e v2 ⟨rfl, bb⟩
        have tA := TA.out.below bb
        have tB := TB.out.below bb
        have tN := TN.out.below bb
        have bZ := BZ.out.trans (bb.mono BZ.out.size)
        have bY := BY.out.trans (bb.mono BY.out.size)
        clear a0 a1 a2 a3 a4 b0 b1 b2 b3 b4 n0 n1 n2 n3 n4
        clear bb M TA TB TN BZ BY
        have TA := Lib.hid tA
        have TB := Lib.hid tB
        have TN := Lib.hid tN
        have BZ := Lib.hid bZ
        have BY := Lib.hid bY
        clear tA tB tN bZ bY
        have M1 := cmp_any ⟨U1.ma, U1.mi, 0, [], []⟩ ⟨na, ni, 0, [], []⟩ none none none none 0 0 0 0 v2 (CO.out v2) (CN v2).out (HG.out.errs.below BZ.out) true true RO.out HRN.out
        rw [HYY.out] at M1
        unfold verV at M1
        simp only [Bool.and_self, if_true, List.length_nil] at M1
        have M := Lib.hid M1
        clear M1
        obtain ⟨a0, a1, a2, a3, a4⟩ := cell5 TA.out
        obtain ⟨b0, b1, b2, b3, b4⟩ := cell5 TB.out
        obtain ⟨n0, n1, n2, n3, n4⟩ := cell5 TN.out
        go_wp2_with fail
        refine M.out.mono ?_
        rintro e v3 ⟨rfl, bb⟩
        have tA := TA.out.below bb
        have tB := TB.out.below bb
        have tN := TN.out.below bb
        have bZ := BZ.out.trans (bb.mono BZ.out.size)
        have bY := BY.out.trans (bb.mono BY.out.size)
        clear a0 a1 a2 a3 a4 b0 b1 b2 b3 b4 n0 n1 n2 n3 n4
        clear bb M TA TB TN BZ BY
        have TA := Lib.hid tA
        have TB := Lib.hid tB
        have TN := Lib.hid tN
        have BZ := Lib.hid bZ
        have BY := Lib.hid bY
        clear tA tB tN bZ bY
        by_cases hx1 : x = 1
        · have hy1 : (y == -1) = false := by rw [beq_eq_false_iff_ne]; exact fun e => hbt ⟨hx1, e⟩
          have hx2 : (x == 1) = true := by rw [beq_iff_eq]; exact hx1
          clear hbt hx1
          go_wp2_with fail
          clear hy1 hx2
          go_loopw [137] (fun i wr => ∃ j : Nat, (j : Int) ≤ k ∧ i = .int .i64 j ∧ Hid (Below v3.heap.size v3 wr)) (fun i _ => (k - intOf i).toNat)
          case atStart => exact ⟨0, by omega, rfl, Lib.hid (Below.refl _ _)⟩
          case round =>
            obtain ⟨j, hj, rfl, HBj⟩ := hrel
            have BJ := Lib.hid (BZ.out.trans (HBj.out.mono BZ.out.size))
            have BYJ := Lib.hid (BY.out.trans (HBj.out.mono BY.out.size))
            by_cases hlt : (j : Int) < k
            · have M0 := next_any U0 j xp0 xb0 xc0 xd0 wr (C0v.out.below BYJ.out) (HG.out.errs.below BJ.out) R0.out (by omega) (by omega)
              have jA := Lib.hid (TA.out.below HBj.out)
              have jN := Lib.hid (TN.out.below HBj.out)
              obtain ⟨a0, a1, a2, a3, a4⟩ := cell5 jA.out
              cases hm : nextV U0 j with
              | none =>
                rw [hm] at M0
                unfold verV nextRes relV at M0
                have M := Lib.hid M0
                clear M0 hm
                go_wp2_with fail
                refine M.out.mono ?_
                rintro e q0 ⟨rfl, bb⟩
                have BR := Lib.hid (show Below v3.heap.size v3 (q0.alloc (.cells #[.int .i64 0, .int .i64 0, .int .i64 0, .slice none 0 0, .slice none 0 0] 24)) from (HBj.out.trans (bb.mono HBj.out.size)).alloc (HBj.out.trans (bb.mono HBj.out.size)).size _)
                clear bb a0 a1 a2 a3 a4
                go_wp2_with fail
                go_roundw
                case rel => first | exact ⟨j + 1, by omega, by go_num, BR⟩ | ((repeat apply Exists.intro); exact ⟨⟨j + 1, by omega, by go_num, BR⟩, rfl⟩)
                case measure => simp [intOf]; omega
              | some m =>
                rw [hm] at M0
                have hz := next_class HNU.out HN.out hm (by omega) hlt
                have hmn := next_nums HNU.out hm
                have hmw := nextV_ways hm
                obtain ⟨ma, mi, mp, mq, mb⟩ := m
                have e5 : mq = [] := hmw.1
                have e6 : mb = [] := hmw.2.1
                subst e5
                subst e6
                have HRM := Lib.hid (right_rel (v := ⟨ma, mi, mp, [], []⟩) rfl rfl hmn)
                have MR := Lib.hid (show (0 ≤ ma ∧ ma ≤ 9223372036854775807) ∧ (0 ≤ mi ∧ mi ≤ 9223372036854775807) ∧ (0 ≤ mp ∧ mp ≤ 9223372036854775807) from by unfold NumsOk bigM at hmn; simp only at hmn; omega)
                obtain ⟨zc, hzc⟩ : ∃ zc, cmpV ⟨ma, mi, mp, [], []⟩ ⟨na, ni, 0, [], []⟩ = zc := ⟨_, rfl⟩
                rw [hzc] at hz
                have HZC := Lib.hid hzc
                unfold verV nextRes relV at M0
                simp only at M0
                have M := Lib.hid M0
                clear M0 hm hmn hmw hzc
                go_wp2_with fail
                refine M.out.mono ?_
                rintro e q0 ⟨rfl, bb⟩
                have bq : Below q0.heap.size q0 (q0.alloc (.cells #[.int .i64 ma, .int .i64 mi, .int .i64 mp, .slice none 0 0, .slice none 0 0] 24)) := (Below.refl _ _).alloc (Nat.le_refl _) _
                have b1 := HBj.out.trans (bb.mono HBj.out.size)
                have b2 := b1.trans (bq.mono b1.size)
                have mA := (jA.out.below bb).below bq
                have mN := (jN.out.below bb).below bq
                have mM := BlockAt.new q0 #[.int .i64 ma, .int .i64 mi, .int .i64 mp, .slice none 0 0, .slice none 0 0] 24
                obtain ⟨n0, n1, n2, n3, n4⟩ := cell5 (jN.out.below bb)
                have hln := (jN.out.below bb).lt
                go_wp2_with fail
                clear bb bq b1 a0 a1 a2 a3 a4 n0 n1 n2 n3 n4 hln
                generalize q0.alloc (.cells #[.int .i64 ma, .int .i64 mi, .int .i64 mp, .slice none 0 0, .slice none 0 0] 24) = q1 at *
                have BR := Lib.hid b2
                have BRJ := Lib.hid (BZ.out.trans (b2.mono BZ.out.size))
                have M1 := cmp_any ⟨ma, mi, mp, [], []⟩ ⟨na, ni, 0, [], []⟩ none none none none 0 0 0 0 q1 (rel_verC q1 ma mi mp MR.out.1 MR.out.2.1 MR.out.2.2) (CN q1).out (HG.out.errs.below BRJ.out) true true HRM.out HRN.out
                rw [HZC.out] at M1
                unfold verV at M1
                simp only [Bool.and_self, if_true, List.length_nil] at M1
                have M := Lib.hid M1
                have hz0 : decide (0 < zc) = false := decide_eq_false (by omega)
                obtain ⟨n0, n1, n2, n3, n4⟩ := cell5 mN
                obtain ⟨m0, m1, m2, m3, m4⟩ := cell5 mM
                clear M1 b2 mA mN mM
                refine M.out.mono ?_
                rintro e q2 ⟨rfl, bb⟩
                have BR2 := Lib.hid (BR.out.trans (bb.mono BR.out.size))
                clear bb n0 n1 n2 n3 n4 m0 m1 m2 m3 m4
                go_wp2_with fail
                go_roundw
                case rel => first | exact ⟨j + 1, by omega, by go_num, BR2⟩ | ((repeat apply Exists.intro); exact ⟨⟨j + 1, by omega, by go_num, BR2⟩, rfl⟩)
                case measure => simp [intOf]; omega
            · have hge : decide ((j : Int) < k) = false := decide_eq_false hlt
              go_wp2_with fail
              go_ret
              exact ⟨rfl, BJ.out⟩
        · have hx2 : (x == 1) = false := by rw [beq_eq_false_iff_ne]; exact hx1
          clear hbt hx1
          go_wp2_with fail
          clear hx2
          go_loopw [137] (fun i wr => ∃ j : Nat, (j : Int) ≤ k ∧ i = .int .i64 j ∧ Hid (Below v3.heap.size v3 wr)) (fun i _ => (k - intOf i).toNat)
          case atStart => exact ⟨0, by omega, rfl, Lib.hid (Below.refl _ _)⟩
          case round =>
            obtain ⟨j, hj, rfl, HBj⟩ := hrel
            have BJ := Lib.hid (BZ.out.trans (HBj.out.mono BZ.out.size))
            have BYJ := Lib.hid (BY.out.trans (HBj.out.mono BY.out.size))
            by_cases hlt : (j : Int) < k
            · have M0 := next_any U0 j xp0 xb0 xc0 xd0 wr (C0v.out.below BYJ.out) (HG.out.errs.below BJ.out) R0.out (by omega) (by omega)
              have jA := Lib.hid (TA.out.below HBj.out)
              have jN := Lib.hid (TN.out.below HBj.out)
              obtain ⟨a0, a1, a2, a3, a4⟩ := cell5 jA.out
              cases hm : nextV U0 j with
              | none =>
                rw [hm] at M0
                unfold verV nextRes relV at M0
                have M := Lib.hid M0
                clear M0 hm
                go_wp2_with fail
                refine M.out.mono ?_
                rintro e q0 ⟨rfl, bb⟩
                have BR := Lib.hid (show Below v3.heap.size v3 (q0.alloc (.cells #[.int .i64 0, .int .i64 0, .int .i64 0, .slice none 0 0, .slice none 0 0] 24)) from (HBj.out.trans (bb.mono HBj.out.size)).alloc (HBj.out.trans (bb.mono HBj.out.size)).size _)
                clear bb a0 a1 a2 a3 a4
                go_wp2_with fail
                go_roundw
                case rel => first | exact ⟨j + 1, by omega, by go_num, BR⟩ | ((repeat apply Exists.intro); exact ⟨⟨j + 1, by omega, by go_num, BR⟩, rfl⟩)
                case measure => simp [intOf]; omega
              | some m =>
                rw [hm] at M0
                have hz := next_class HNU.out HN.out hm (by omega) hlt
                have hmn := next_nums HNU.out hm
                have hmw := nextV_ways hm
                obtain ⟨ma, mi, mp, mq, mb⟩ := m
                have e5 : mq = [] := hmw.1
                have e6 : mb = [] := hmw.2.1
                subst e5
                subst e6
                have HRM := Lib.hid (right_rel (v := ⟨ma, mi, mp, [], []⟩) rfl rfl hmn)
                have MR := Lib.hid (show (0 ≤ ma ∧ ma ≤ 9223372036854775807) ∧ (0 ≤ mi ∧ mi ≤ 9223372036854775807) ∧ (0 ≤ mp ∧ mp ≤ 9223372036854775807) from by unfold NumsOk bigM at hmn; simp only at hmn; omega)
                obtain ⟨zc, hzc⟩ : ∃ zc, cmpV ⟨ma, mi, mp, [], []⟩ ⟨na, ni, 0, [], []⟩ = zc := ⟨_, rfl⟩
                rw [hzc] at hz
                have HZC := Lib.hid hzc
                unfold verV nextRes relV at M0
                simp only at M0
                have M := Lib.hid M0
                clear M0 hm hmn hmw hzc
                go_wp2_with fail
                refine M.out.mono ?_
                rintro e q0 ⟨rfl, bb⟩
                have bq : Below q0.heap.size q0 (q0.alloc (.cells #[.int .i64 ma, .int .i64 mi, .int .i64 mp, .slice none 0 0, .slice none 0 0] 24)) := (Below.refl _ _).alloc (Nat.le_refl _) _
                have b1 := HBj.out.trans (bb.mono HBj.out.size)
                have b2 := b1.trans (bq.mono b1.size)
                have mA := (jA.out.below bb).below bq
                have mN := (jN.out.below bb).below bq
                have mM := BlockAt.new q0 #[.int .i64 ma, .int .i64 mi, .int .i64 mp, .slice none 0 0, .slice none 0 0] 24
                obtain ⟨n0, n1, n2, n3, n4⟩ := cell5 (jN.out.below bb)
                have hln := (jN.out.below bb).lt
                go_wp2_with fail
                clear bb bq b1 a0 a1 a2 a3 a4 n0 n1 n2 n3 n4 hln
                generalize q0.alloc (.cells #[.int .i64 ma, .int .i64 mi, .int .i64 mp, .slice none 0 0, .slice none 0 0] 24) = q1 at *
                have BR := Lib.hid b2
                have BRJ := Lib.hid (BZ.out.trans (b2.mono BZ.out.size))
                have M1 := cmp_any ⟨ma, mi, mp, [], []⟩ ⟨na, ni, 0, [], []⟩ none none none none 0 0 0 0 q1 (rel_verC q1 ma mi mp MR.out.1 MR.out.2.1 MR.out.2.2) (CN q1).out (HG.out.errs.below BRJ.out) true true HRM.out HRN.out
                rw [HZC.out] at M1
                unfold verV at M1
                simp only [Bool.and_self, if_true, List.length_nil] at M1
                have M := Lib.hid M1
                have hz0 : decide (0 < zc) = false := decide_eq_false (by omega)
                obtain ⟨n0, n1, n2, n3, n4⟩ := cell5 mN
                obtain ⟨m0, m1, m2, m3, m4⟩ := cell5 mM
                clear M1 b2 mA mN mM
                refine M.out.mono ?_
                rintro e q2 ⟨rfl, bb⟩
                have BR2 := Lib.hid (BR.out.trans (bb.mono BR.out.size))
                clear bb n0 n1 n2 n3 n4 m0 m1 m2 m3 m4
                go_wp2_with fail
                go_roundw
                case rel => first | exact ⟨j + 1, by omega, by go_num, BR2⟩ | ((repeat apply Exists.intro); exact ⟨⟨j + 1, by omega, by go_num, BR2⟩, rfl⟩)
                case measure => simp [intOf]; omega
            · have hge : decide ((j : Int) < k) = false := decide_eq_false hlt
              go_wp2_with fail
              go_ret
              exact ⟨rfl, BJ.out⟩
    · have hp1 : decide (0 < U0.ma) = true := by exact decide_eq_true hma
      have e3 : np = 0 := by have h := HW.out.2.2; (try simp only at h); omega
      subst e3
      have e4 : ni = 0 := by have h := HW.out.2.2; (try simp only at h); omega
      subst e4
      have HMA := Lib.hid hma
      clear hma
      have HRN := Lib.hid (right_rel (v := ⟨na, 0, 0, [], []⟩) rfl rfl HNN.out)
      have NR := Lib.hid (show (0 ≤ na ∧ na ≤ 9223372036854775807) ∧ (0 ≤ (0 : Int) ∧ (0 : Int) ≤ 9223372036854775807) ∧ (0 ≤ (0 : Int) ∧ (0 : Int) ≤ 9223372036854775807) from by have h := HNN.out; unfold NumsOk bigM at h; simp only at h; omega)
      go_wp2_with fail
      clear a0 a1 a2 a3 a4 hl0
      generalize y0.alloc (.cells #[.int .i64 na, .int .i64 0, .int .i64 0, .slice none 0 0, .slice none 0 0] 24) = y1 at *
      have CN := fun w => Lib.hid (rel_verC w na 0 0 NR.out.1 NR.out.2.1 NR.out.2.2)
      have M1 := cmp_any ⟨na, 0, 0, [], []⟩ U0 none none xp0 xb0 0 0 xc0 xd0 y1 (CN y1).out (C0.out.below BY.out) (HG.out.errs.below BZ.out) true true HRN.out R0.out
      rw [HAH.out] at M1
      unfold verV at M1
      simp only [Bool.and_self, if_true, List.length_nil] at M1
      have M := Lib.hid M1
      clear M1
      obtain ⟨a0, a1, a2, a3, a4⟩ := cell5 TA.out
      obtain ⟨b0, b1, b2, b3, b4⟩ := cell5 TB.out
      obtain ⟨n0, n1, n2, n3, n4⟩ := cell5 TN.out
      refine M.out.mono ?_
      rintro e y2 ⟨rfl, bb⟩
      have tA := TA.out.below bb
      have tB := TB.out.below bb
      have tN := TN.out.below bb
      have bZ := BZ.out.trans (bb.mono BZ.out.size)
      have bY := BY.out.trans (bb.mono BY.out.size)
      clear a0 a1 a2 a3 a4 b0 b1 b2 b3 b4 n0 n1 n2 n3 n4
      clear bb M TA TB TN BZ BY
      have TA := Lib.hid tA
      have TB := Lib.hid tB
      have TN := Lib.hid tN
      have BZ := Lib.hid bZ
      have BY := Lib.hid bY
      clear tA tB tN bZ bY
      have M1 := right_any ⟨na, 0, 0, [], []⟩ none none 0 0 y2 (CN y2).out (HG.out.errs.below BZ.out)
      rw [HRN.out] at M1
      unfold verV at M1
      simp only [List.length_nil] at M1
      have M := Lib.hid M1
      clear M1
      obtain ⟨a0, a1, a2, a3, a4⟩ := cell5 TA.out
      obtain ⟨b0, b1, b2, b3, b4⟩ := cell5 TB.out
      obtain ⟨n0, n1, n2, n3, n4⟩ := cell5 TN.out
      go_wp2_with fail
      refine M.out.mono ?_
      rintro e y3 ⟨rfl, bb⟩
      have tA := TA.out.below bb
      have tB := TB.out.below bb
      have tN := TN.out.below bb
      have bZ := BZ.out.trans (bb.mono BZ.out.size)
      have bY := BY.out.trans (bb.mono BY.out.size)
      clear a0 a1 a2 a3 a4 b0 b1 b2 b3 b4 n0 n1 n2 n3 n4
      clear bb M TA TB TN BZ BY
      have TA := Lib.hid tA
      have TB := Lib.hid tB
      have TN := Lib.hid tN
      have BZ := Lib.hid bZ
      have BY := Lib.hid bY
      clear tA tB tN bZ bY
      have M := Lib.hid (alive_any y3 (HG.out.below BZ.out))
      obtain ⟨a0, a1, a2, a3, a4⟩ := cell5 TA.out
      obtain ⟨b0, b1, b2, b3, b4⟩ := cell5 TB.out
      obtain ⟨n0, n1, n2, n3, n4⟩ := cell5 TN.out
      go_wp2_with fail
      refine M.out.mono ?_
      rintro e y4 ⟨rfl, bb⟩
      have tA := TA.out.below bb
      have tB := TB.out.below bb
      have tN := TN.out.below bb
      have bZ := BZ.out.trans (bb.mono BZ.out.size)
      have bY := BY.out.trans (bb.mono BY.out.size)
      clear a0 a1 a2 a3 a4 b0 b1 b2 b3 b4 n0 n1 n2 n3 n4
      clear bb M TA TB TN BZ BY
      have TA := Lib.hid tA
      have TB := Lib.hid tB
      have TN := Lib.hid tN
      have BZ := Lib.hid bZ
      have BY := Lib.hid bY
      clear tA tB tN bZ bY
      have kB := ((((TB.out.set 3 (.slice none 0 0)).set 4 (.slice none 0 0)).set 2 (.int .i64 0)).set 1 (.int .i64 0))
      simp only [List.setIfInBounds_toArray, List.set_cons_zero, List.set_cons_succ] at kB
      have kA := ((((TA.out.other (c := wa.heap.size) (by have := HZ.out.1; omega) 3 (.slice none 0 0)).other (c := wa.heap.size) (by have := HZ.out.1; omega) 4 (.slice none 0 0)).other (c := wa.heap.size) (by have := HZ.out.1; omega) 2 (.int .i64 0)).other (c := wa.heap.size) (by have := HZ.out.1; omega) 1 (.int .i64 0))
      have kN := ((((TN.out.other (c := wa.heap.size) (by have := HY.out; omega) 3 (.slice none 0 0)).other (c := wa.heap.size) (by have := HY.out; omega) 4 (.slice none 0 0)).other (c := wa.heap.size) (by have := HY.out; omega) 2 (.int .i64 0)).other (c := wa.heap.size) (by have := HY.out; omega) 1 (.int .i64 0))
      have kZ := ((((BZ.out.setCell (p := ⟨wa.heap.size, 3, none⟩) (by have := HZ.out.1; simp; omega) (.slice none 0 0)).setCell (p := ⟨wa.heap.size, 4, none⟩) (by have := HZ.out.1; simp; omega) (.slice none 0 0)).setCell (p := ⟨wa.heap.size, 2, none⟩) (by have := HZ.out.1; simp; omega) (.int .i64 0)).setCell (p := ⟨wa.heap.size, 1, none⟩) (by have := HZ.out.1; simp; omega) (.int .i64 0))
      have gp := (GP0.out.below BY.out)
      have gb := (GB0.out.below BY.out)
      have hz2 : wa.heap.size < wb.heap.size := by have := HZ.out.2.1; omega
      have gp := gp.set (k := 3) hz2 (.slice none 0 0)
      have gb := gb.set (k := 3) hz2 (.slice none 0 0)
      have gp := gp.set (k := 4) hz2 (.slice none 0 0)
      have gb := gb.set (k := 4) hz2 (.slice none 0 0)
      have gp := gp.set (k := 2) hz2 (.int .i64 0)
      have gb := gb.set (k := 2) hz2 (.int .i64 0)
      have gp := gp.set (k := 1) hz2 (.int .i64 0)
      have gb := gb.set (k := 1) hz2 (.int .i64 0)
      have fr3 := TB.out.free 3
      have fr4 := TB.out.free 4
      have fr2 := TB.out.free 2
      have fr1 := TB.out.free 1
      obtain ⟨a0, a1, a2, a3, a4⟩ := cell5 TA.out
      obtain ⟨b0, b1, b2, b3, b4⟩ := cell5 TB.out
      obtain ⟨n0, n1, n2, n3, n4⟩ := cell5 TN.out
      obtain ⟨v0, hv0⟩ : ∃ v, ((((y4.setCell ⟨wa.heap.size, 3, none⟩ (.slice none 0 0)).setCell ⟨wa.heap.size, 4, none⟩ (.slice none 0 0)).setCell ⟨wa.heap.size, 2, none⟩ (.int .i64 0)).setCell ⟨wa.heap.size, 1, none⟩ (.int .i64 0)) = v := ⟨_, rfl⟩
      rw [hv0] at kA kB kN kZ gp gb
      have C0v := Lib.hid (show VerC v0 xp0 xb0 U0 from { C0.out with pre := gp.row, build := gb.row })
      have SA := Lib.hid kA
      have SB := Lib.hid kB
      have SN := Lib.hid kN
      have SZ := Lib.hid kZ
      clear kA kB kN kZ gp gb
      obtain ⟨q0, q1, q2, q3, q4⟩ := cell5 SB.out
      go_wp2_with fail
      clear a0 a1 a2 a3 a4 b0 b1 b2 b3 b4 n0 n1 n2 n3 n4
      clear hv0 fr1 fr2 fr3 fr4 TA TB TN BZ BY q0 q1 q2 q3 q4
      clear hp1
      have TA := SA
      have TB := SB
      have TN := SN
      have BZ := SZ
      have BY := Lib.hid (Below.refl v0.heap.size v0)
      clear SA SB SN SZ
      have CO : ∀ w, VerC w none none ⟨U1.ma, 0, 0, [], []⟩ := fun w => ⟨.inl rfl, .inl rfl, by simp, by simp, by simp, by simp, by have h := C1.out.nums; simp only; omega⟩
      have CO := Lib.hid CO
      have M1 := right_any ⟨U1.ma, 0, 0, [], []⟩ none none 0 0 v0 (CO.out v0) (HG.out.errs.below BZ.out)
      cases ro : rightB ⟨U1.ma, 0, 0, [], []⟩ <;> rw [ro] at M1 <;> have RO := Lib.hid ro <;> clear ro
      · unfold verV at M1
        simp only [List.length_nil] at M1
        have M := Lib.hid M1
        clear M1
        obtain ⟨a0, a1, a2, a3, a4⟩ := cell5 TA.out
        obtain ⟨b0, b1, b2, b3, b4⟩ := cell5 TB.out
        obtain ⟨n0, n1, n2, n3, n4⟩ := cell5 TN.out
        refine M.out.mono ?_
        rintro e v1 ⟨rfl, bb⟩
        have tA := TA.out.below bb
        have tB := TB.out.below bb
        have tN := TN.out.below bb
        have bZ := BZ.out.trans (bb.mono BZ.out.size)
        have bY := BY.out.trans (bb.mono BY.out.size)
        clear a0 a1 a2 a3 a4 b0 b1 b2 b3 b4 n0 n1 n2 n3 n4
        clear bb M TA TB TN BZ BY
        have TA := Lib.hid tA
        have TB := Lib.hid tB
        have TN := Lib.hid tN
        have BZ := Lib.hid bZ
        have BY := Lib.hid bY
        clear tA tB tN bZ bY
        go_wp2_with fail
        go_loopw [137] (fun i wr => ∃ j : Nat, (j : Int) ≤ k ∧ i = .int .i64 j ∧ Hid (Below v1.heap.size v1 wr)) (fun i _ => (k - intOf i).toNat)
        case atStart => exact ⟨0, by omega, rfl, Lib.hid (Below.refl _ _)⟩
        case round =>
          obtain ⟨j, hj, rfl, HBj⟩ := hrel
          have BJ := Lib.hid (BZ.out.trans (HBj.out.mono BZ.out.size))
          have BYJ := Lib.hid (BY.out.trans (HBj.out.mono BY.out.size))
          by_cases hlt : (j : Int) < k
          · have M0 := next_any U0 j xp0 xb0 xc0 xd0 wr (C0v.out.below BYJ.out) (HG.out.errs.below BJ.out) R0.out (by omega) (by omega)
            have jA := Lib.hid (TA.out.below HBj.out)
            have jN := Lib.hid (TN.out.below HBj.out)
            obtain ⟨a0, a1, a2, a3, a4⟩ := cell5 jA.out
            cases hm : nextV U0 j with
            | none =>
              rw [hm] at M0
              unfold verV nextRes relV at M0
              have M := Lib.hid M0
              clear M0 hm
              go_wp2_with fail
              refine M.out.mono ?_
              rintro e q0 ⟨rfl, bb⟩
              have BR := Lib.hid (show Below v1.heap.size v1 (q0.alloc (.cells #[.int .i64 0, .int .i64 0, .int .i64 0, .slice none 0 0, .slice none 0 0] 24)) from (HBj.out.trans (bb.mono HBj.out.size)).alloc (HBj.out.trans (bb.mono HBj.out.size)).size _)
              clear bb a0 a1 a2 a3 a4
              go_wp2_with fail
              go_roundw
              case rel => first | exact ⟨j + 1, by omega, by go_num, BR⟩ | ((repeat apply Exists.intro); exact ⟨⟨j + 1, by omega, by go_num, BR⟩, rfl⟩)
              case measure => simp [intOf]; omega
            | some m =>
              rw [hm] at M0
              have hz := next_class HNU.out HN.out hm (by omega) hlt
              have hmn := next_nums HNU.out hm
              have hmw := nextV_ways hm
              obtain ⟨ma, mi, mp, mq, mb⟩ := m
              have e5 : mq = [] := hmw.1
              have e6 : mb = [] := hmw.2.1
              subst e5
              subst e6
              have HRM := Lib.hid (right_rel (v := ⟨ma, mi, mp, [], []⟩) rfl rfl hmn)
              have MR := Lib.hid (show (0 ≤ ma ∧ ma ≤ 9223372036854775807) ∧ (0 ≤ mi ∧ mi ≤ 9223372036854775807) ∧ (0 ≤ mp ∧ mp ≤ 9223372036854775807) from by unfold NumsOk bigM at hmn; simp only at hmn; omega)
              obtain ⟨zc, hzc⟩ : ∃ zc, cmpV ⟨ma, mi, mp, [], []⟩ ⟨na, 0, 0, [], []⟩ = zc := ⟨_, rfl⟩
              rw [hzc] at hz
              have HZC := Lib.hid hzc
              unfold verV nextRes relV at M0
              simp only at M0
              have M := Lib.hid M0
              clear M0 hm hmn hmw hzc
              go_wp2_with fail
              refine M.out.mono ?_
              rintro e q0 ⟨rfl, bb⟩
              have bq : Below q0.heap.size q0 (q0.alloc (.cells #[.int .i64 ma, .int .i64 mi, .int .i64 mp, .slice none 0 0, .slice none 0 0] 24)) := (Below.refl _ _).alloc (Nat.le_refl _) _
              have b1 := HBj.out.trans (bb.mono HBj.out.size)
              have b2 := b1.trans (bq.mono b1.size)
              have mA := (jA.out.below bb).below bq
              have mN := (jN.out.below bb).below bq
              have mM := BlockAt.new q0 #[.int .i64 ma, .int .i64 mi, .int .i64 mp, .slice none 0 0, .slice none 0 0] 24
              obtain ⟨n0, n1, n2, n3, n4⟩ := cell5 (jN.out.below bb)
              have hln := (jN.out.below bb).lt
              go_wp2_with fail
              clear bb bq b1 a0 a1 a2 a3 a4 n0 n1 n2 n3 n4 hln
              generalize q0.alloc (.cells #[.int .i64 ma, .int .i64 mi, .int .i64 mp, .slice none 0 0, .slice none 0 0] 24) = q1 at *
              have BR := Lib.hid b2
              have BRJ := Lib.hid (BZ.out.trans (b2.mono BZ.out.size))
              have M1 := cmp_any ⟨ma, mi, mp, [], []⟩ ⟨na, 0, 0, [], []⟩ none none none none 0 0 0 0 q1 (rel_verC q1 ma mi mp MR.out.1 MR.out.2.1 MR.out.2.2) (CN q1).out (HG.out.errs.below BRJ.out) true true HRM.out HRN.out
              rw [HZC.out] at M1
              unfold verV at M1
              simp only [Bool.and_self, if_true, List.length_nil] at M1
              have M := Lib.hid M1
              have hz0 : decide (0 < zc) = false := decide_eq_false (by omega)
              obtain ⟨n0, n1, n2, n3, n4⟩ := cell5 mN
              obtain ⟨m0, m1, m2, m3, m4⟩ := cell5 mM
              clear M1 b2 mA mN mM
              refine M.out.mono ?_
              rintro e q2 ⟨rfl, bb⟩
              have BR2 := Lib.hid (BR.out.trans (bb.mono BR.out.size))
              clear bb n0 n1 n2 n3 n4 m0 m1 m2 m3 m4
              go_wp2_with fail
              go_roundw
              case rel => first | exact ⟨j + 1, by omega, by go_num, BR2⟩ | ((repeat apply Exists.intro); exact ⟨⟨j + 1, by omega, by go_num, BR2⟩, rfl⟩)
              case measure => simp [intOf]; omega
          · have hge : decide ((j : Int) < k) = false := decide_eq_false hlt
            go_wp2_with fail
            go_ret
            exact ⟨rfl, BJ.out⟩
      · have hma := HMA.out
        have hbt := next_between HNU.out HN.out (nums_of RO.out (by have h := NOH.out; simp only; first | exact h.1 | (unfold bigM at *; omega)) (by have h := NOH.out; simp only; unfold bigM at *; omega) (by have h := NOH.out; simp only; unfold bigM at *; omega)) rfl (by omega) (by first | (intro _; rfl) | (intro h; omega)) (by first | (intro _ _; rfl) | (intro h h2; omega))
        clear hma
        obtain ⟨x, hx⟩ : ∃ x, cmpV ⟨U1.ma, 0, 0, [], []⟩ U0 = x := ⟨_, rfl⟩
        obtain ⟨y, hy⟩ : ∃ y, cmpV ⟨U1.ma, 0, 0, [], []⟩ ⟨na, 0, 0, [], []⟩ = y := ⟨_, rfl⟩
        rw [hx, hy] at hbt
        have HX := Lib.hid hx
        have HYY := Lib.hid hy
        clear hx hy
        unfold verV at M1
        simp only [List.length_nil] at M1
        have M := Lib.hid M1
        clear M1
        obtain ⟨a0, a1, a2, a3, a4⟩ := cell5 TA.out
        obtain ⟨b0, b1, b2, b3, b4⟩ := cell5 TB.out
        obtain ⟨n0, n1, n2, n3, n4⟩ := cell5 TN.out
        refine M.out.mono ?_
        rintro e v1 ⟨rfl, bb⟩
        have tA := TA.out.below bb
        have tB := TB.out.below bb
        have tN := TN.out.below bb
        have bZ := BZ.out.trans (bb.mono BZ.out.size)
        have bY := BY.out.trans (bb.mono BY.out.size)
        clear a0 a1 a2 a3 a4 b0 b1 b2 b3 b4 n0 n1 n2 n3 n4
        clear bb M TA TB TN BZ BY
        have TA := Lib.hid tA
        have TB := Lib.hid tB
        have TN := Lib.hid tN
        have BZ := Lib.hid bZ
        have BY := Lib.hid bY
        clear tA tB tN bZ bY
        have M1 := cmp_any ⟨U1.ma, 0, 0, [], []⟩ U0 none none xp0 xb0 0 0 xc0 xd0 v1 (CO.out v1) (C0v.out.below BY.out) (HG.out.errs.below BZ.out) true true RO.out R0.out
        rw [HX.out] at M1
        unfold verV at M1
        simp only [Bool.and_self, if_true, List.length_nil] at M1
        have M := Lib.hid M1
        clear M1
        obtain ⟨a0, a1, a2, a3, a4⟩ := cell5 TA.out
        obtain ⟨b0, b1, b2, b3, b4⟩ := cell5 TB.out
        obtain ⟨n0, n1, n2, n3, n4⟩ := cell5 TN.out
        go_wp2_with fail
        refine M.out.mono ?_
        rintro e v2 ⟨rfl, bb⟩
        have tA := TA.out.below bb
        have tB := TB.out.below bb
        have tN := TN.out.below bb
        have bZ := BZ.out.trans (bb.mono BZ.out.size)
        have bY := BY.out.trans (bb.mono BY.out.size)
        clear a0 a1 a2 a3 a4 b0 b1 b2 b3 b4 n0 n1 n2 n3 n4
        clear bb M TA TB TN BZ BY
        have TA := Lib.hid tA
        have TB := Lib.hid tB
        have TN := Lib.hid tN
        have BZ := Lib.hid bZ
        have BY := Lib.hid bY
        clear tA tB tN bZ bY
        have M1 := cmp_any ⟨U1.ma, 0, 0, [], []⟩ ⟨na, 0, 0, [], []⟩ none none none none 0 0 0 0 v2 (CO.out v2) (CN v2).out (HG.out.errs.below BZ.out) true true RO.out HRN.out
        rw [HYY.out] at M1
        unfold verV at M1
        simp only [Bool.and_self, if_true, List.length_nil] at M1
        have M := Lib.hid M1
        clear M1
        obtain ⟨a0, a1, a2, a3, a4⟩ := cell5 TA.out
        obtain ⟨b0, b1, b2, b3, b4⟩ := cell5 TB.out
        obtain ⟨n0, n1, n2, n3, n4⟩ := cell5 TN.out
        go_wp2_with fail
        refine M.out.mono ?_
        rintro e v3 ⟨rfl, bb⟩
        have tA := TA.out.below bb
        have tB := TB.out.below bb
        have tN := TN.out.below bb
        have bZ := BZ.out.trans (bb.mono BZ.out.size)
        have bY := BY.out.trans (bb.mono BY.out.size)
        clear a0 a1 a2 a3 a4 b0 b1 b2 b3 b4 n0 n1 n2 n3 n4
        clear bb M TA TB TN BZ BY
        have TA := Lib.hid tA
        have TB := Lib.hid tB
        have TN := Lib.hid tN
        have BZ := Lib.hid bZ
        have BY := Lib.hid bY
        clear tA tB tN bZ bY
        by_cases hx1 : x = 1
        · have hy1 : (y == -1) = false := by rw [beq_eq_false_iff_ne]; exact fun e => hbt ⟨hx1, e⟩
          have hx2 : (x == 1) = true := by rw [beq_iff_eq]; exact hx1
          clear hbt hx1
          go_wp2_with fail
          clear hy1 hx2
          go_loopw [137] (fun i wr => ∃ j : Nat, (j : Int) ≤ k ∧ i = .int .i64 j ∧ Hid (Below v3.heap.size v3 wr)) (fun i _ => (k - intOf i).toNat)
          case atStart => exact ⟨0, by omega, rfl, Lib.hid (Below.refl _ _)⟩
          case round =>
            obtain ⟨j, hj, rfl, HBj⟩ := hrel
            have BJ := Lib.hid (BZ.out.trans (HBj.out.mono BZ.out.size))
            have BYJ := Lib.hid (BY.out.trans (HBj.out.mono BY.out.size))
            by_cases hlt : (j : Int) < k
            · have M0 := next_any U0 j xp0 xb0 xc0 xd0 wr (C0v.out.below BYJ.out) (HG.out.errs.below BJ.out) R0.out (by omega) (by omega)
              have jA := Lib.hid (TA.out.below HBj.out)
              have jN := Lib.hid (TN.out.below HBj.out)
              obtain ⟨a0, a1, a2, a3, a4⟩ := cell5 jA.out
              cases hm : nextV U0 j with
              | none =>
                rw [hm] at M0
                unfold verV nextRes relV at M0
                have M := Lib.hid M0
                clear M0 hm
                go_wp2_with fail
                refine M.out.mono ?_
                rintro e q0 ⟨rfl, bb⟩
                have BR := Lib.hid (show Below v3.heap.size v3 (q0.alloc (.cells #[.int .i64 0, .int .i64 0, .int .i64 0, .slice none 0 0, .slice none 0 0] 24)) from (HBj.out.trans (bb.mono HBj.out.size)).alloc (HBj.out.trans (bb.mono HBj.out.size)).size _)
                clear bb a0 a1 a2 a3 a4
                go_wp2_with fail
                go_roundw
                case rel => first | exact ⟨j + 1, by omega, by go_num, BR⟩ | ((repeat apply Exists.intro); exact ⟨⟨j + 1, by omega, by go_num, BR⟩, rfl⟩)
                case measure => simp [intOf]; omega
              | some m =>
                rw [hm] at M0
                have hz := next_class HNU.out HN.out hm (by omega) hlt
                have hmn := next_nums HNU.out hm
                have hmw := nextV_ways hm
                obtain ⟨ma, mi, mp, mq, mb⟩ := m
                have e5 : mq = [] := hmw.1
                have e6 : mb = [] := hmw.2.1
                subst e5
                subst e6
                have HRM := Lib.hid (right_rel (v := ⟨ma, mi, mp, [], []⟩) rfl rfl hmn)
                have MR := Lib.hid (show (0 ≤ ma ∧ ma ≤ 9223372036854775807) ∧ (0 ≤ mi ∧ mi ≤ 9223372036854775807) ∧ (0 ≤ mp ∧ mp ≤ 9223372036854775807) from by unfold NumsOk bigM at hmn; simp only at hmn; omega)
                obtain ⟨zc, hzc⟩ : ∃ zc, cmpV ⟨ma, mi, mp, [], []⟩ ⟨na, 0, 0, [], []⟩ = zc := ⟨_, rfl⟩
                rw [hzc] at hz
                have HZC := Lib.hid hzc
                unfold verV nextRes relV at M0
                simp only at M0
                have M := Lib.hid M0
                clear M0 hm hmn hmw hzc
                go_wp2_with fail
                refine M.out.mono ?_
                rintro e q0 ⟨rfl, bb⟩
                have bq : Below q0.heap.size q0 (q0.alloc (.cells #[.int .i64 ma, .int .i64 mi, .int .i64 mp, .slice none 0 0, .slice none 0 0] 24)) := (Below.refl _ _).alloc (Nat.le_refl _) _
                have b1 := HBj.out.trans (bb.mono HBj.out.size)
                have b2 := b1.trans (bq.mono b1.size)
                have mA := (jA.out.below bb).below bq
                have mN := (jN.out.below bb).below bq
                have mM := BlockAt.new q0 #[.int .i64 ma, .int .i64 mi, .int .i64 mp, .slice none 0 0, .slice none 0 0] 24
                obtain ⟨n0, n1, n2, n3, n4⟩ := cell5 (jN.out.below bb)
                have hln := (jN.out.below bb).lt
                go_wp2_with fail
                clear bb bq b1 a0 a1 a2 a3 a4 n0 n1 n2 n3 n4 hln
                generalize q0.alloc (.cells #[.int .i64 ma, .int .i64 mi, .int .i64 mp, .slice none 0 0, .slice none 0 0] 24) = q1 at *
                have BR := Lib.hid b2
                have BRJ := Lib.hid (BZ.out.trans (b2.mono BZ.out.size))
                have M1 := cmp_any ⟨ma, mi, mp, [], []⟩ ⟨na, 0, 0, [], []⟩ none none none none 0 0 0 0 q1 (rel_verC q1 ma mi mp MR.out.1 MR.out.2.1 MR.out.2.2) (CN q1).out (HG.out.errs.below BRJ.out) true true HRM.out HRN.out
                rw [HZC.out] at M1
                unfold verV at M1
                simp only [Bool.and_self, if_true, List.length_nil] at M1
                have M := Lib.hid M1
                have hz0 : decide (0 < zc) = false := decide_eq_false (by omega)
                obtain ⟨n0, n1, n2, n3, n4⟩ := cell5 mN
                obtain ⟨m0, m1, m2, m3, m4⟩ := cell5 mM
                clear M1 b2 mA mN mM
                refine M.out.mono ?_
                rintro e q2 ⟨rfl, bb⟩
                have BR2 := Lib.hid (BR.out.trans (bb.mono BR.out.size))
                clear bb n0 n1 n2 n3 n4 m0 m1 m2 m3 m4
                go_wp2_with fail
                go_roundw
                case rel => first | exact ⟨j + 1, by omega, by go_num, BR2⟩ | ((repeat apply Exists.intro); exact ⟨⟨j + 1, by omega, by go_num, BR2⟩, rfl⟩)
                case measure => simp [intOf]; omega
            · have hge : decide ((j : Int) < k) = false := decide_eq_false hlt
              go_wp2_with fail
              go_ret
              exact ⟨rfl, BJ.out⟩
        · have hx2 : (x == 1) = false := by rw [beq_eq_false_iff_ne]; exact hx1
          clear hbt hx1
          go_wp2_with fail
          clear hx2
          go_loopw [137] (fun i wr => ∃ j : Nat, (j : Int) ≤ k ∧ i = .int .i64 j ∧ Hid (Below v3.heap.size v3 wr)) (fun i _ => (k - intOf i).toNat)
          case atStart => exact ⟨0, by omega, rfl, Lib.hid (Below.refl _ _)⟩
          case round =>
            obtain ⟨j, hj, rfl, HBj⟩ := hrel
            have BJ := Lib.hid (BZ.out.trans (HBj.out.mono BZ.out.size))
            have BYJ := Lib.hid (BY.out.trans (HBj.out.mono BY.out.size))
            by_cases hlt : (j : Int) < k
            · have M0 := next_any U0 j xp0 xb0 xc0 xd0 wr (C0v.out.below BYJ.out) (HG.out.errs.below BJ.out) R0.out (by omega) (by omega)
              have jA := Lib.hid (TA.out.below HBj.out)
              have jN := Lib.hid (TN.out.below HBj.out)
              obtain ⟨a0, a1, a2, a3, a4⟩ := cell5 jA.out
              cases hm : nextV U0 j with
              | none =>
                rw [hm] at M0
                unfold verV nextRes relV at M0
                have M := Lib.hid M0
                clear M0 hm
                go_wp2_with fail
                refine M.out.mono ?_
                rintro e q0 ⟨rfl, bb⟩
                have BR := Lib.hid (show Below v3.heap.size v3 (q0.alloc (.cells #[.int .i64 0, .int .i64 0, .int .i64 0, .slice none 0 0, .slice none 0 0] 24)) from (HBj.out.trans (bb.mono HBj.out.size)).alloc (HBj.out.trans (bb.mono HBj.out.size)).size _)
                clear bb a0 a1 a2 a3 a4
                go_wp2_with fail
                go_roundw
                case rel => first | exact ⟨j + 1, by omega, by go_num, BR⟩ | ((repeat apply Exists.intro); exact ⟨⟨j + 1, by omega, by go_num, BR⟩, rfl⟩)
                case measure => simp [intOf]; omega
              | some m =>
                rw [hm] at M0
                have hz := next_class HNU.out HN.out hm (by omega) hlt
                have hmn := next_nums HNU.out hm
                have hmw := nextV_ways hm
                obtain ⟨ma, mi, mp, mq, mb⟩ := m
                have e5 : mq = [] := hmw.1
                have e6 : mb = [] := hmw.2.1
                subst e5
                subst e6
                have HRM := Lib.hid (right_rel (v := ⟨ma, mi, mp, [], []⟩) rfl rfl hmn)
                have MR := Lib.hid (show (0 ≤ ma ∧ ma ≤ 9223372036854775807) ∧ (0 ≤ mi ∧ mi ≤ 9223372036854775807) ∧ (0 ≤ mp ∧ mp ≤ 9223372036854775807) from by unfold NumsOk bigM at hmn; simp only at hmn; omega)
                obtain ⟨zc, hzc⟩ : ∃ zc, cmpV ⟨ma, mi, mp, [], []⟩ ⟨na, 0, 0, [], []⟩ = zc := ⟨_, rfl⟩
                rw [hzc] at hz
                have HZC := Lib.hid hzc
                unfold verV nextRes relV at M0
                simp only at M0
                have M := Lib.hid M0
                clear M0 hm hmn hmw hzc
                go_wp2_with fail
                refine M.out.mono ?_
                rintro e q0 ⟨rfl, bb⟩
                have bq : Below q0.heap.size q0 (q0.alloc (.cells #[.int .i64 ma, .int .i64 mi, .int .i64 mp, .slice none 0 0, .slice none 0 0] 24)) := (Below.refl _ _).alloc (Nat.le_refl _) _
                have b1 := HBj.out.trans (bb.mono HBj.out.size)
                have b2 := b1.trans (bq.mono b1.size)
                have mA := (jA.out.below bb).below bq
                have mN := (jN.out.below bb).below bq
                have mM := BlockAt.new q0 #[.int .i64 ma, .int .i64 mi, .int .i64 mp, .slice none 0 0, .slice none 0 0] 24
                obtain ⟨n0, n1, n2, n3, n4⟩ := cell5 (jN.out.below bb)
                have hln := (jN.out.below bb).lt
                go_wp2_with fail
                clear bb bq b1 a0 a1 a2 a3 a4 n0 n1 n2 n3 n4 hln
                generalize q0.alloc (.cells #[.int .i64 ma, .int .i64 mi, .int .i64 mp, .slice none 0 0, .slice none 0 0] 24) = q1 at *
                have BR := Lib.hid b2
                have BRJ := Lib.hid (BZ.out.trans (b2.mono BZ.out.size))
                have M1 := cmp_any ⟨ma, mi, mp, [], []⟩ ⟨na, 0, 0, [], []⟩ none none none none 0 0 0 0 q1 (rel_verC q1 ma mi mp MR.out.1 MR.out.2.1 MR.out.2.2) (CN q1).out (HG.out.errs.below BRJ.out) true true HRM.out HRN.out
                rw [HZC.out] at M1
                unfold verV at M1
                simp only [Bool.and_self, if_true, List.length_nil] at M1
                have M := Lib.hid M1
                have hz0 : decide (0 < zc) = false := decide_eq_false (by omega)
                obtain ⟨n0, n1, n2, n3, n4⟩ := cell5 mN
                obtain ⟨m0, m1, m2, m3, m4⟩ := cell5 mM
                clear M1 b2 mA mN mM
                refine M.out.mono ?_
                rintro e q2 ⟨rfl, bb⟩
                have BR2 := Lib.hid (BR.out.trans (bb.mono BR.out.size))
                clear bb n0 n1 n2 n3 n4 m0 m1 m2 m3 m4
                go_wp2_with fail
                go_roundw
                case rel => first | exact ⟨j + 1, by omega, by go_num, BR2⟩ | ((repeat apply Exists.intro); exact ⟨⟨j + 1, by omega, by go_num, BR2⟩, rfl⟩)
                case measure => simp [intOf]; omega
            · have hge : decide ((j : Int) < k) = false := decide_eq_false hlt
              go_wp2_with fail
              go_ret
              exact ⟨rfl, BJ.out⟩
theorem least_walk (V0 : Vr) (po0 bo0 : Option Addr) (pc0 bc0 : Nat) (V1 : Vr) (po1 bo1 : Option Addr) (pc1 bc1 : Nat) (c : Int) (w : World) (h0 : VerIn w po0 bo0 pc0 bc0 V0) (h1 : VerIn w po1 bo1 pc1 bc1 V1) (hc : (Lit.int .i64 c).wf = true) (hV : Vars w) :
    Calls Tryd.prog 6 #[verV V0 po0 pc0 bo0 bc0, verV V1 po1 pc1 bo1 bc1, .int .i64 c] w fun e w' => e = .returned (.bool true) ∧ Below w.heap.size w w' := by
  have hr := i64_range c hc
  have hm : (c.tmod 4 + 4) % 4 = 0 ∨ (c.tmod 4 + 4) % 4 = 1 ∨ (2 ≤ (c.tmod 4 + 4) % 4 ∧ (c.tmod 4 + 4) % 4 ≤ 3) := by omega
  rcases hm with h | h | h
  · exact least_0 V0 po0 bo0 pc0 bc0 V1 po1 bo1 pc1 bc1 c w h0 h1 hr hV h
  · exact least_1 V0 po0 bo0 pc0 bc0 V1 po1 bo1 pc1 bc1 c w h0 h1 hr hV h
  · exact least_2 V0 po0 bo0 pc0 bc0 V1 po1 bo1 pc1 bc1 c w h0 h1 hr hV _ h.1 h.2 rfl
end Go.Proofs.YtbdhmelebedpiaaDoor
