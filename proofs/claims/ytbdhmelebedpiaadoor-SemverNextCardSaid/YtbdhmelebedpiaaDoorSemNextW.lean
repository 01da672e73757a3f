/- The law SemverNext: its walk. -/
import Derived.Test.YtbdhmelebedpiaaDoorSemRefNext
namespace Go.Proofs.YtbdhmelebedpiaaDoor
open Go.RowKit
set_option linter.unusedSimpArgs false
set_option linter.unusedVariables false

theorem cmp_none {V A : Vr} (hp : A.pre = []) (e : EqN A V) (h : preN V = false) : cmpV A V ≤ 0 := by
  rcases cmpV_rel A V hp with ⟨_, h2 | ⟨_, h2⟩⟩ | ⟨h1, _⟩ | ⟨h1, _⟩
  · unfold GtN at h2; unfold EqN at e; omega
  · rw [← preN_iff, h] at h2; cases h2
  · omega
  · omega
theorem cmp_pre {V A : Vr} (hp : A.pre = []) (e : EqN A V) (h : preN V = true) : ¬ cmpV A V ≤ 0 := by
  rcases cmpV_rel A V hp with ⟨h1, _⟩ | ⟨_, _, h2⟩ | ⟨_, h2⟩
  · omega
  · exact absurd h2 (preN_iff.1 h)
  · unfold GtN at h2; unfold EqN at e; omega
theorem cmp_gt {V A : Vr} (hp : A.pre = []) (e : GtN A V) : ¬ cmpV A V ≤ 0 := by
  rcases cmpV_rel A V hp with ⟨h1, _⟩ | ⟨_, h2, _⟩ | ⟨_, h2⟩
  · omega
  · unfold EqN at h2; unfold GtN at e; omega
  · unfold GtN at h2 e; omega
theorem refnext_any (V : Vr) (c : Int) (po bo : Option Addr) (pc bc : Nat) (w : World) (hV : VerC w po bo V) (hr : rightB V = true) (h0 : 0 ≤ c) (h3 : c ≤ 3) :
    Calls Tryd.prog 15 #[verV V po pc bo bc, .int .i64 c] w fun e w' => e = .returned (refRes (nextV V c)) ∧ Below w.heap.size w w' := by
  have hN : NumsOk V := nums_of hr (by have := hV.nums; unfold bigM; omega) (by have := hV.nums; unfold bigM; omega) (by have := hV.nums; unfold bigM; omega)
  have hN' := hN
  unfold NumsOk bigM at hN'
  obtain ⟨n1, n2, n3, n4, n5, n6⟩ := hN'
  have C0 : ∀ w', VerC w' none none ⟨V.ma, V.mi, V.pa, [], []⟩ := fun w' => rel_verC w' _ _ _ ⟨n1, n4⟩ ⟨n2, n5⟩ ⟨n3, n6⟩
  have q0 : EqN ⟨V.ma, V.mi, V.pa, [], []⟩ V := ⟨rfl, rfl, rfl⟩
  have z0 : (0 : Int) ≤ 0 ∧ (0 : Int) ≤ 9223372036854775807 := by decide
  by_cases k0 : c = 0
  · subst k0
    rcases pre_cases V with hp | hp
    · rw [show nextV V 0 = some ⟨V.ma, V.mi, V.pa, [], []⟩ from by unfold nextV; rw [if_pos rfl, if_pos hp]]
      by_cases hm : V.pa = bigM
      · exact refnext_0ot V po bo pc bc w hV hr hm (fun w' h => suits_zero ⟨V.ma, V.mi, V.pa, [], []⟩ V 0 po bo pc bc w' (C0 w') rfl rfl (hV.below h) hr (cmp_pre rfl q0 hp) rfl)
      · exact refnext_0rt V po bo pc bc w hV hr hm (fun w' h => suits_zero ⟨V.ma, V.mi, V.pa, [], []⟩ V 0 po bo pc bc w' (C0 w') rfl rfl (hV.below h) hr (cmp_pre rfl q0 hp) rfl)
    · by_cases hm : V.pa = bigM
      · rw [show nextV V 0 = none from by unfold nextV; rw [if_pos rfl, if_neg (by rw [hp]; decide)]; rw [if_pos hm]]
        exact refnext_0of V po bo pc bc w hV hr hm (fun w' h => suits_le ⟨V.ma, V.mi, V.pa, [], []⟩ V 0 po bo pc bc w' (C0 w') rfl rfl (hV.below h) hr (cmp_none rfl q0 hp))
      · rw [show nextV V 0 = some ⟨V.ma, V.mi, V.pa + 1, [], []⟩ from by unfold nextV; rw [if_pos rfl, if_neg (by rw [hp]; decide)]; rw [if_neg hm]]
        have hm0 : V.pa ≠ 9223372036854775807 := hm
        exact refnext_0rf V po bo pc bc w hV hr hm (fun w' h => suits_le ⟨V.ma, V.mi, V.pa, [], []⟩ V 0 po bo pc bc w' (C0 w') rfl rfl (hV.below h) hr (cmp_none rfl q0 hp)) (fun w' h => suits_zero ⟨V.ma, V.mi, V.pa + 1, [], []⟩ V 0 po bo pc bc w' (rel_verC w' _ _ _ ⟨by omega, by omega⟩ ⟨by omega, by omega⟩ ⟨by omega, by omega⟩) rfl rfl (hV.below h) hr (cmp_gt rfl (.inr ⟨rfl, .inr ⟨rfl, Int.lt_succ V.pa⟩⟩)) rfl)
  by_cases k1 : c = 1
  · subst k1
    rcases pre_cases V with hp | hp
    · by_cases hz : V.pa = 0
      · have e : (⟨V.ma, V.mi, 0, [], []⟩ : Vr) = ⟨V.ma, V.mi, V.pa, [], []⟩ := by rw [hz]
        rw [show nextV V 1 = some ⟨V.ma, V.mi, 0, [], []⟩ from by unfold nextV; rw [if_neg (by decide), if_pos (.inl rfl)]; rw [if_pos ⟨hp, hz⟩]]
        rw [e]
        by_cases hm : V.mi = bigM
        · exact refnext_1ot V po bo pc bc w hV hr hm (fun w' h => suits_one ⟨V.ma, V.mi, V.pa, [], []⟩ V 1 po bo pc bc w' (C0 w') rfl rfl (hV.below h) hr (cmp_pre rfl q0 hp) rfl hz)
        · exact refnext_1rt V po bo pc bc w hV hr hm (fun w' h => suits_one ⟨V.ma, V.mi, V.pa, [], []⟩ V 1 po bo pc bc w' (C0 w') rfl rfl (hV.below h) hr (cmp_pre rfl q0 hp) rfl hz)
      · by_cases hm : V.mi = bigM
        · rw [show nextV V 1 = none from by unfold nextV; rw [if_neg (by decide), if_pos (.inl rfl)]; rw [if_neg (fun h => hz h.2)]; rw [if_pos hm]]
          exact refnext_1of V po bo pc bc w hV hr hm (fun w' h => suits_pa ⟨V.ma, V.mi, V.pa, [], []⟩ V 1 po bo pc bc w' (C0 w') rfl rfl (hV.below h) hr (cmp_pre rfl q0 hp) (by decide) hz)
        · rw [show nextV V 1 = some ⟨V.ma, V.mi + 1, 0, [], []⟩ from by unfold nextV; rw [if_neg (by decide), if_pos (.inl rfl)]; rw [if_neg (fun h => hz h.2)]; rw [if_neg hm]]
          have hm0 : V.mi ≠ 9223372036854775807 := hm
          exact refnext_1rf V po bo pc bc w hV hr hm (fun w' h => suits_pa ⟨V.ma, V.mi, V.pa, [], []⟩ V 1 po bo pc bc w' (C0 w') rfl rfl (hV.below h) hr (cmp_pre rfl q0 hp) (by decide) hz) (fun w' h => suits_one ⟨V.ma, V.mi + 1, 0, [], []⟩ V 1 po bo pc bc w' (rel_verC w' _ _ _ ⟨by omega, by omega⟩ ⟨by omega, by omega⟩ z0) rfl rfl (hV.below h) hr (cmp_gt rfl (.inr ⟨rfl, .inl (Int.lt_succ V.mi)⟩)) rfl rfl)
    · by_cases hm : V.mi = bigM
      · rw [show nextV V 1 = none from by unfold nextV; rw [if_neg (by decide), if_pos (.inl rfl)]; rw [if_neg (fun h => by rw [hp] at h; exact absurd h.1 (by decide))]; rw [if_pos hm]]
        exact refnext_1of V po bo pc bc w hV hr hm (fun w' h => suits_le ⟨V.ma, V.mi, V.pa, [], []⟩ V 1 po bo pc bc w' (C0 w') rfl rfl (hV.below h) hr (cmp_none rfl q0 hp))
      · rw [show nextV V 1 = some ⟨V.ma, V.mi + 1, 0, [], []⟩ from by unfold nextV; rw [if_neg (by decide), if_pos (.inl rfl)]; rw [if_neg (fun h => by rw [hp] at h; exact absurd h.1 (by decide))]; rw [if_neg hm]]
        have hm0 : V.mi ≠ 9223372036854775807 := hm
        exact refnext_1rf V po bo pc bc w hV hr hm (fun w' h => suits_le ⟨V.ma, V.mi, V.pa, [], []⟩ V 1 po bo pc bc w' (C0 w') rfl rfl (hV.below h) hr (cmp_none rfl q0 hp)) (fun w' h => suits_one ⟨V.ma, V.mi + 1, 0, [], []⟩ V 1 po bo pc bc w' (rel_verC w' _ _ _ ⟨by omega, by omega⟩ ⟨by omega, by omega⟩ z0) rfl rfl (hV.below h) hr (cmp_gt rfl (.inr ⟨rfl, .inl (Int.lt_succ V.mi)⟩)) rfl rfl)
  have h2 : 2 ≤ c := by omega
  by_cases hma : V.ma = 0
  · rcases pre_cases V with hp | hp
    · by_cases hz : V.pa = 0
      · have e : (⟨V.ma, V.mi, 0, [], []⟩ : Vr) = ⟨V.ma, V.mi, V.pa, [], []⟩ := by rw [hz]
        rw [show nextV V c = some ⟨V.ma, V.mi, 0, [], []⟩ from by unfold nextV; rw [if_neg k0, if_pos (.inr hma)]; rw [if_pos ⟨hp, hz⟩]]
        rw [e]
        by_cases hm : V.mi = bigM
        · exact refnext_zot V c po bo pc bc w hV hr h2 h3 hma hm (fun w' h => suits_maz ⟨V.ma, V.mi, V.pa, [], []⟩ V c po bo pc bc w' (C0 w') rfl rfl (hV.below h) hr (cmp_pre rfl q0 hp) h2 hz hma)
        · exact refnext_zrt V c po bo pc bc w hV hr h2 h3 hma hm (fun w' h => suits_maz ⟨V.ma, V.mi, V.pa, [], []⟩ V c po bo pc bc w' (C0 w') rfl rfl (hV.below h) hr (cmp_pre rfl q0 hp) h2 hz hma)
      · by_cases hm : V.mi = bigM
        · rw [show nextV V c = none from by unfold nextV; rw [if_neg k0, if_pos (.inr hma)]; rw [if_neg (fun h => hz h.2)]; rw [if_pos hm]]
          exact refnext_zof V c po bo pc bc w hV hr h2 h3 hma hm (fun w' h => suits_pa ⟨V.ma, V.mi, V.pa, [], []⟩ V c po bo pc bc w' (C0 w') rfl rfl (hV.below h) hr (cmp_pre rfl q0 hp) (by omega) hz)
        · rw [show nextV V c = some ⟨V.ma, V.mi + 1, 0, [], []⟩ from by unfold nextV; rw [if_neg k0, if_pos (.inr hma)]; rw [if_neg (fun h => hz h.2)]; rw [if_neg hm]]
          have hm0 : V.mi ≠ 9223372036854775807 := hm
          exact refnext_zrf V c po bo pc bc w hV hr h2 h3 hma hm (fun w' h => suits_pa ⟨V.ma, V.mi, V.pa, [], []⟩ V c po bo pc bc w' (C0 w') rfl rfl (hV.below h) hr (cmp_pre rfl q0 hp) (by omega) hz) (fun w' h => suits_maz ⟨V.ma, V.mi + 1, 0, [], []⟩ V c po bo pc bc w' (rel_verC w' _ _ _ ⟨by omega, by omega⟩ ⟨by omega, by omega⟩ z0) rfl rfl (hV.below h) hr (cmp_gt rfl (.inr ⟨rfl, .inl (Int.lt_succ V.mi)⟩)) h2 rfl hma)
    · by_cases hm : V.mi = bigM
      · rw [show nextV V c = none from by unfold nextV; rw [if_neg k0, if_pos (.inr hma)]; rw [if_neg (fun h => by rw [hp] at h; exact absurd h.1 (by decide))]; rw [if_pos hm]]
        exact refnext_zof V c po bo pc bc w hV hr h2 h3 hma hm (fun w' h => suits_le ⟨V.ma, V.mi, V.pa, [], []⟩ V c po bo pc bc w' (C0 w') rfl rfl (hV.below h) hr (cmp_none rfl q0 hp))
      · rw [show nextV V c = some ⟨V.ma, V.mi + 1, 0, [], []⟩ from by unfold nextV; rw [if_neg k0, if_pos (.inr hma)]; rw [if_neg (fun h => by rw [hp] at h; exact absurd h.1 (by decide))]; rw [if_neg hm]]
        have hm0 : V.mi ≠ 9223372036854775807 := hm
        exact refnext_zrf V c po bo pc bc w hV hr h2 h3 hma hm (fun w' h => suits_le ⟨V.ma, V.mi, V.pa, [], []⟩ V c po bo pc bc w' (C0 w') rfl rfl (hV.below h) hr (cmp_none rfl q0 hp)) (fun w' h => suits_maz ⟨V.ma, V.mi + 1, 0, [], []⟩ V c po bo pc bc w' (rel_verC w' _ _ _ ⟨by omega, by omega⟩ ⟨by omega, by omega⟩ z0) rfl rfl (hV.below h) hr (cmp_gt rfl (.inr ⟨rfl, .inl (Int.lt_succ V.mi)⟩)) h2 rfl hma)
  · rcases pre_cases V with hp | hp
    · by_cases hz : V.pa = 0
      · by_cases hi : V.mi = 0
        · have e : (⟨V.ma, 0, 0, [], []⟩ : Vr) = ⟨V.ma, V.mi, V.pa, [], []⟩ := by rw [hz, hi]
          rw [show nextV V c = some ⟨V.ma, 0, 0, [], []⟩ from by unfold nextV; rw [if_neg k0, if_neg (fun h => h.elim k1 hma)]; rw [if_pos ⟨hp, hi, hz⟩]]
          rw [e]
          by_cases hm : V.ma = bigM
          · exact refnext_mot V c po bo pc bc w hV hr h2 h3 hma hm (fun w' h => suits_miz ⟨V.ma, V.mi, V.pa, [], []⟩ V c po bo pc bc w' (C0 w') rfl rfl (hV.below h) hr (cmp_pre rfl q0 hp) h2 hz hma hi)
          · exact refnext_mrt V c po bo pc bc w hV hr h2 h3 hma hm (fun w' h => suits_miz ⟨V.ma, V.mi, V.pa, [], []⟩ V c po bo pc bc w' (C0 w') rfl rfl (hV.below h) hr (cmp_pre rfl q0 hp) h2 hz hma hi)
        · by_cases hm : V.ma = bigM
          · rw [show nextV V c = none from by unfold nextV; rw [if_neg k0, if_neg (fun h => h.elim k1 hma)]; rw [if_neg (fun h => hi h.2.1)]; rw [if_pos hm]]
            exact refnext_mof V c po bo pc bc w hV hr h2 h3 hma hm (fun w' h => suits_min ⟨V.ma, V.mi, V.pa, [], []⟩ V c po bo pc bc w' (C0 w') rfl rfl (hV.below h) hr (cmp_pre rfl q0 hp) h2 hz hma hi)
          · rw [show nextV V c = some ⟨V.ma + 1, 0, 0, [], []⟩ from by unfold nextV; rw [if_neg k0, if_neg (fun h => h.elim k1 hma)]; rw [if_neg (fun h => hi h.2.1)]; rw [if_neg hm]]
            have hm0 : V.ma ≠ 9223372036854775807 := hm
            exact refnext_mrf V c po bo pc bc w hV hr h2 h3 hma hm (fun w' h => suits_min ⟨V.ma, V.mi, V.pa, [], []⟩ V c po bo pc bc w' (C0 w') rfl rfl (hV.below h) hr (cmp_pre rfl q0 hp) h2 hz hma hi) (fun w' h => suits_miz ⟨V.ma + 1, 0, 0, [], []⟩ V c po bo pc bc w' (rel_verC w' _ _ _ ⟨by omega, by omega⟩ z0 z0) rfl rfl (hV.below h) hr (cmp_gt rfl (.inl (Int.lt_succ V.ma))) h2 rfl hma rfl)
      · by_cases hm : V.ma = bigM
        · rw [show nextV V c = none from by unfold nextV; rw [if_neg k0, if_neg (fun h => h.elim k1 hma)]; rw [if_neg (fun h => hz h.2.2)]; rw [if_pos hm]]
          exact refnext_mof V c po bo pc bc w hV hr h2 h3 hma hm (fun w' h => suits_pa ⟨V.ma, V.mi, V.pa, [], []⟩ V c po bo pc bc w' (C0 w') rfl rfl (hV.below h) hr (cmp_pre rfl q0 hp) (by omega) hz)
        · rw [show nextV V c = some ⟨V.ma + 1, 0, 0, [], []⟩ from by unfold nextV; rw [if_neg k0, if_neg (fun h => h.elim k1 hma)]; rw [if_neg (fun h => hz h.2.2)]; rw [if_neg hm]]
          have hm0 : V.ma ≠ 9223372036854775807 := hm
          exact refnext_mrf V c po bo pc bc w hV hr h2 h3 hma hm (fun w' h => suits_pa ⟨V.ma, V.mi, V.pa, [], []⟩ V c po bo pc bc w' (C0 w') rfl rfl (hV.below h) hr (cmp_pre rfl q0 hp) (by omega) hz) (fun w' h => suits_miz ⟨V.ma + 1, 0, 0, [], []⟩ V c po bo pc bc w' (rel_verC w' _ _ _ ⟨by omega, by omega⟩ z0 z0) rfl rfl (hV.below h) hr (cmp_gt rfl (.inl (Int.lt_succ V.ma))) h2 rfl hma rfl)
    · by_cases hm : V.ma = bigM
      · rw [show nextV V c = none from by unfold nextV; rw [if_neg k0, if_neg (fun h => h.elim k1 hma)]; rw [if_neg (fun h => by rw [hp] at h; exact absurd h.1 (by decide))]; rw [if_pos hm]]
        exact refnext_mof V c po bo pc bc w hV hr h2 h3 hma hm (fun w' h => suits_le ⟨V.ma, V.mi, V.pa, [], []⟩ V c po bo pc bc w' (C0 w') rfl rfl (hV.below h) hr (cmp_none rfl q0 hp))
      · rw [show nextV V c = some ⟨V.ma + 1, 0, 0, [], []⟩ from by unfold nextV; rw [if_neg k0, if_neg (fun h => h.elim k1 hma)]; rw [if_neg (fun h => by rw [hp] at h; exact absurd h.1 (by decide))]; rw [if_neg hm]]
        have hm0 : V.ma ≠ 9223372036854775807 := hm
        exact refnext_mrf V c po bo pc bc w hV hr h2 h3 hma hm (fun w' h => suits_le ⟨V.ma, V.mi, V.pa, [], []⟩ V c po bo pc bc w' (C0 w') rfl rfl (hV.below h) hr (cmp_none rfl q0 hp)) (fun w' h => suits_miz ⟨V.ma + 1, 0, 0, [], []⟩ V c po bo pc bc w' (rel_verC w' _ _ _ ⟨by omega, by omega⟩ z0 z0) rfl rfl (hV.below h) hr (cmp_gt rfl (.inl (Int.lt_succ V.ma))) h2 rfl hma rfl)
set_option maxHeartbeats 64000000 in
set_option maxRecDepth 100000 in
theorem nextlaw_walk (V0 : Vr) (po0 bo0 : Option Addr) (pc0 bc0 : Nat) (c : Int) (w : World) (h0 : VerIn w po0 bo0 pc0 bc0 V0) (_hc : (Lit.int .i64 c).wf = true) (hV : Vars w) :
    Calls Tryd.prog 4 #[verV V0 po0 pc0 bo0 bc0, .int .i64 c] w fun e w' => e = .returned (.bool true) ∧ Below w.heap.size w w' := by
  have HG := Lib.hid hV
  clear hV _hc
  unfold verV
  have H0 := Lib.hid h0
  obtain ⟨wa, hw0⟩ : ∃ x, w.alloc (.cells #[.int .i64 V0.ma, .int .i64 V0.mi, .int .i64 V0.pa, .slice po0 V0.pre.length pc0, .slice bo0 V0.build.length bc0] 24) = x := ⟨_, rfl⟩
  obtain ⟨k0, q0, z0⟩ := box_new hw0
  have K0 := Lib.hid k0
  have BW := Lib.hid q0
  have HZ := Lib.hid (show wa.heap.size = w.heap.size + 1 ∧ True from ⟨z0, trivial⟩)
  clear h0 k0 q0 z0
  have F0 := few_base V0 po0 bo0 pc0 bc0 wa (H0.out.below BW.out)
  unfold verV at F0
  have F := Lib.hid F0
  clear F0
  obtain ⟨e0, e1, e2, e3, e4⟩ := cell5 K0.out
  go_enter Tryd.func4, Tryd.ntmps4
  go_wp2_with fail
  clear hw0
  refine F.out.mono ?_
  rintro e u0 ⟨xp, xc, xb, xd, U, rfl, hv, hn, bb, -, -, rn1, rn2⟩
  unfold verV
  have B0 := Lib.hid (BW.out.trans (bb.mono BW.out.size))
  have KU := Lib.hid (K0.out.below bb)
  obtain ⟨s0, hs0⟩ : ∃ s, ((((u0.setCell ⟨w.heap.size, 0, none⟩ (.int .i64 U.ma)).setCell ⟨w.heap.size, 1, none⟩ (.int .i64 U.mi)).setCell ⟨w.heap.size, 2, none⟩ (.int .i64 U.pa)).setCell ⟨w.heap.size, 3, none⟩ (.slice xp U.pre.length xc)).setCell ⟨w.heap.size, 4, none⟩ (.slice xb U.build.length xd) = s := ⟨_, rfl⟩
  obtain ⟨g1, g2, g3, g4, g5⟩ := set5_facts hs0
  have TA := Lib.hid (set5_at g1 KU.out)
  have BS := Lib.hid (g4 _ _ B0.out (Nat.le_refl _))
  have CV := Lib.hid (show VerC s0 xp xb U from { hv with pre := (g3 _ _ _ rn1 (by have := HZ.out.1; omega)).row, build := (g3 _ _ _ rn2 (by have := HZ.out.1; omega)).row })
  have fr0 := KU.out.free 0
  have fr1 := KU.out.free 1
  have fr2 := KU.out.free 2
  have fr3 := KU.out.free 3
  have fr4 := KU.out.free 4
  clear g1 g2 g3 g4 g5 e0 e1 e2 e3 e4 hv hn bb rn1 rn2 F K0 BW
  obtain ⟨e0, e1, e2, e3, e4⟩ := cell5 KU.out
  obtain ⟨a0, a1, a2, a3, a4⟩ := cell5 TA.out
  go_wp2_with fail
  clear hs0 fr0 fr1 fr2 fr3 fr4 e0 e1 e2 e3 e4 a0 a1 a2 a3 a4
  have BY := Lib.hid (Below.refl s0.heap.size s0)
  cases r0 : rightB U <;> have R0 := Lib.hid r0 <;> clear r0
  · have M0 := next_bad U c xp xb xc xd s0 CV.out (HG.out.errs.below BS.out) (.inl R0.out)
    unfold verV relV at M0
    have M := Lib.hid M0
    clear M0
    refine M.out.mono ?_
    rintro e y0 ⟨rfl, bb⟩
    have bq : Below y0.heap.size y0 (y0.alloc (.cells #[.int .i64 0, .int .i64 0, .int .i64 0, .slice none 0 0, .slice none 0 0] 24)) := (Below.refl _ _).alloc (Nat.le_refl _) _
    have tA := (TA.out.below bb)
    obtain ⟨a0, a1, a2, a3, a4⟩ := cell5 tA
    have hla := tA.lt
    have bS := BS.out.trans (bb.mono BS.out.size)
    have bS2 := bS.trans (bq.mono bS.size)
    have bY := BY.out.trans (bb.mono BY.out.size)
    have bY2 := bY.trans (bq.mono bY.size)
    have tA2 := tA.below bq
    have tN := BlockAt.new y0 #[.int .i64 0, .int .i64 0, .int .i64 0, .slice none 0 0, .slice none 0 0] 24
    go_wp2_with fail
    clear a0 a1 a2 a3 a4 hla bb bq bS bY tA M TA BS BY
    generalize y0.alloc (.cells #[.int .i64 0, .int .i64 0, .int .i64 0, .slice none 0 0, .slice none 0 0] 24) = y1 at *
    have TA := Lib.hid tA2
    clear tA2
    have TN := Lib.hid tN
    clear tN
    have BS := Lib.hid bS2
    clear bS2
    have BY := Lib.hid bY2
    clear bY2
    have M0 := refright_any U xp xb xc xd y1 (CV.out.below BY.out)
    rw [R0.out] at M0
    unfold verV at M0
    have M := Lib.hid M0
    clear M0
    refine M.out.mono ?_
    rintro e y2 ⟨rfl, bb⟩
    have tTA := TA.out.below bb
    have tTN := TN.out.below bb
    have bS := BS.out.trans (bb.mono BS.out.size)
    have bY := BY.out.trans (bb.mono BY.out.size)
    clear bb M BS BY TA TN
    have TA := Lib.hid tTA
    clear tTA
    have TN := Lib.hid tTN
    clear tTN
    have BS := Lib.hid bS
    have BY := Lib.hid bY
    clear bS bY
    have M0 := alive_any y2 (HG.out.below BS.out)
    have M := Lib.hid M0
    clear M0
    go_wp2_with fail
    refine M.out.mono ?_
    rintro e y3 ⟨rfl, bb⟩
    have tTA := TA.out.below bb
    have tTN := TN.out.below bb
    have bS := BS.out.trans (bb.mono BS.out.size)
    have bY := BY.out.trans (bb.mono BY.out.size)
    clear bb M BS BY TA TN
    have TA := Lib.hid tTA
    clear tTA
    have TN := Lib.hid tTN
    clear tTN
    have BS := Lib.hid bS
    have BY := Lib.hid bY
    clear bS bY
    have ZV := fun w => rel_verC w 0 0 0 (by decide) (by decide) (by decide)
    have M0 := reflike_any ⟨0, 0, 0, [], []⟩ ⟨0, 0, 0, [], []⟩ none none none none 0 0 0 0 y3 (ZV y3) (ZV y3)
    unfold verV at M0
    simp only [List.length_nil] at M0
    rw [show likeVB ⟨0, 0, 0, [], []⟩ ⟨0, 0, 0, [], []⟩ = true from rfl] at M0
    have M := Lib.hid M0
    clear M0
    obtain ⟨n0, n1, n2, n3, n4⟩ := cell5 TN.out
    go_wp2_with fail
    clear n0 n1 n2 n3 n4
    refine M.out.mono ?_
    rintro e y4 ⟨rfl, bb⟩
    have tTA := TA.out.below bb
    have tTN := TN.out.below bb
    have bS := BS.out.trans (bb.mono BS.out.size)
    have bY := BY.out.trans (bb.mono BY.out.size)
    clear bb M BS BY TA TN
    have TA := Lib.hid tTA
    clear tTA
    have TN := Lib.hid tTN
    clear tTN
    have BS := Lib.hid bS
    have BY := Lib.hid bY
    clear bS bY
    go_wp2_with fail
    go_ret
    exact ⟨ret_bool (by first | rfl | decide), BS.out⟩
  have hcw : c < 0 ∨ 3 < c ∨ (0 ≤ c ∧ c ≤ 3) := by omega
  rcases hcw with hcw | hcw | ⟨hc0, hc3⟩
  · have M0 := next_bad U c xp xb xc xd s0 CV.out (HG.out.errs.below BS.out) (.inr (.inl hcw))
    unfold verV relV at M0
    have M := Lib.hid M0
    clear M0
    refine M.out.mono ?_
    rintro e y0 ⟨rfl, bb⟩
    have bq : Below y0.heap.size y0 (y0.alloc (.cells #[.int .i64 0, .int .i64 0, .int .i64 0, .slice none 0 0, .slice none 0 0] 24)) := (Below.refl _ _).alloc (Nat.le_refl _) _
    have tA := (TA.out.below bb)
    obtain ⟨a0, a1, a2, a3, a4⟩ := cell5 tA
    have hla := tA.lt
    have bS := BS.out.trans (bb.mono BS.out.size)
    have bS2 := bS.trans (bq.mono bS.size)
    have bY := BY.out.trans (bb.mono BY.out.size)
    have bY2 := bY.trans (bq.mono bY.size)
    have tA2 := tA.below bq
    have tN := BlockAt.new y0 #[.int .i64 0, .int .i64 0, .int .i64 0, .slice none 0 0, .slice none 0 0] 24
    go_wp2_with fail
    clear a0 a1 a2 a3 a4 hla bb bq bS bY tA M TA BS BY
    generalize y0.alloc (.cells #[.int .i64 0, .int .i64 0, .int .i64 0, .slice none 0 0, .slice none 0 0] 24) = y1 at *
    have TA := Lib.hid tA2
    clear tA2
    have TN := Lib.hid tN
    clear tN
    have BS := Lib.hid bS2
    clear bS2
    have BY := Lib.hid bY2
    clear bY2
    have M0 := refright_any U xp xb xc xd y1 (CV.out.below BY.out)
    rw [R0.out] at M0
    unfold verV at M0
    have M := Lib.hid M0
    clear M0
    refine M.out.mono ?_
    rintro e y2 ⟨rfl, bb⟩
    have tTA := TA.out.below bb
    have tTN := TN.out.below bb
    have bS := BS.out.trans (bb.mono BS.out.size)
    have bY := BY.out.trans (bb.mono BY.out.size)
    clear bb M BS BY TA TN
    have TA := Lib.hid tTA
    clear tTA
    have TN := Lib.hid tTN
    clear tTN
    have BS := Lib.hid bS
    have BY := Lib.hid bY
    clear bS bY
    have M0 := alive_any y2 (HG.out.below BS.out)
    have M := Lib.hid M0
    clear M0
    go_wp2_with fail
    refine M.out.mono ?_
    rintro e y3 ⟨rfl, bb⟩
    have tTA := TA.out.below bb
    have tTN := TN.out.below bb
    have bS := BS.out.trans (bb.mono BS.out.size)
    have bY := BY.out.trans (bb.mono BY.out.size)
    clear bb M BS BY TA TN
    have TA := Lib.hid tTA
    clear tTA
    have TN := Lib.hid tTN
    clear tTN
    have BS := Lib.hid bS
    have BY := Lib.hid bY
    clear bS bY
    have ZV := fun w => rel_verC w 0 0 0 (by decide) (by decide) (by decide)
    have M0 := reflike_any ⟨0, 0, 0, [], []⟩ ⟨0, 0, 0, [], []⟩ none none none none 0 0 0 0 y3 (ZV y3) (ZV y3)
    unfold verV at M0
    simp only [List.length_nil] at M0
    rw [show likeVB ⟨0, 0, 0, [], []⟩ ⟨0, 0, 0, [], []⟩ = true from rfl] at M0
    have M := Lib.hid M0
    clear M0
    obtain ⟨n0, n1, n2, n3, n4⟩ := cell5 TN.out
    go_wp2_with fail
    clear n0 n1 n2 n3 n4
    refine M.out.mono ?_
    rintro e y4 ⟨rfl, bb⟩
    have tTA := TA.out.below bb
    have tTN := TN.out.below bb
    have bS := BS.out.trans (bb.mono BS.out.size)
    have bY := BY.out.trans (bb.mono BY.out.size)
    clear bb M BS BY TA TN
    have TA := Lib.hid tTA
    clear tTA
    have TN := Lib.hid tTN
    clear tTN
    have BS := Lib.hid bS
    have BY := Lib.hid bY
    clear bS bY
    go_wp2_with fail
    go_ret
    exact ⟨ret_bool (by first | rfl | decide), BS.out⟩
  · have hcn : ¬ c < 0 := by omega
    have M0 := next_bad U c xp xb xc xd s0 CV.out (HG.out.errs.below BS.out) (.inr (.inr hcw))
    unfold verV relV at M0
    have M := Lib.hid M0
    clear M0
    refine M.out.mono ?_
    rintro e y0 ⟨rfl, bb⟩
    have bq : Below y0.heap.size y0 (y0.alloc (.cells #[.int .i64 0, .int .i64 0, .int .i64 0, .slice none 0 0, .slice none 0 0] 24)) := (Below.refl _ _).alloc (Nat.le_refl _) _
    have tA := (TA.out.below bb)
    obtain ⟨a0, a1, a2, a3, a4⟩ := cell5 tA
    have hla := tA.lt
    have bS := BS.out.trans (bb.mono BS.out.size)
    have bS2 := bS.trans (bq.mono bS.size)
    have bY := BY.out.trans (bb.mono BY.out.size)
    have bY2 := bY.trans (bq.mono bY.size)
    have tA2 := tA.below bq
    have tN := BlockAt.new y0 #[.int .i64 0, .int .i64 0, .int .i64 0, .slice none 0 0, .slice none 0 0] 24
    go_wp2_with fail
    clear a0 a1 a2 a3 a4 hla bb bq bS bY tA M TA BS BY
    generalize y0.alloc (.cells #[.int .i64 0, .int .i64 0, .int .i64 0, .slice none 0 0, .slice none 0 0] 24) = y1 at *
    have TA := Lib.hid tA2
    clear tA2
    have TN := Lib.hid tN
    clear tN
    have BS := Lib.hid bS2
    clear bS2
    have BY := Lib.hid bY2
    clear bY2
    have M0 := refright_any U xp xb xc xd y1 (CV.out.below BY.out)
    rw [R0.out] at M0
    unfold verV at M0
    have M := Lib.hid M0
    clear M0
    refine M.out.mono ?_
    rintro e y2 ⟨rfl, bb⟩
    have tTA := TA.out.below bb
    have tTN := TN.out.below bb
    have bS := BS.out.trans (bb.mono BS.out.size)
    have bY := BY.out.trans (bb.mono BY.out.size)
    clear bb M BS BY TA TN
    have TA := Lib.hid tTA
    clear tTA
    have TN := Lib.hid tTN
    clear tTN
    have BS := Lib.hid bS
    have BY := Lib.hid bY
    clear bS bY
    have M0 := alive_any y2 (HG.out.below BS.out)
    have M := Lib.hid M0
    clear M0
    go_wp2_with fail
    refine M.out.mono ?_
    rintro e y3 ⟨rfl, bb⟩
    have tTA := TA.out.below bb
    have tTN := TN.out.below bb
    have bS := BS.out.trans (bb.mono BS.out.size)
    have bY := BY.out.trans (bb.mono BY.out.size)
    clear bb M BS BY TA TN
    have TA := Lib.hid tTA
    clear tTA
    have TN := Lib.hid tTN
    clear tTN
    have BS := Lib.hid bS
    have BY := Lib.hid bY
    clear bS bY
    have ZV := fun w => rel_verC w 0 0 0 (by decide) (by decide) (by decide)
    have M0 := reflike_any ⟨0, 0, 0, [], []⟩ ⟨0, 0, 0, [], []⟩ none none none none 0 0 0 0 y3 (ZV y3) (ZV y3)
    unfold verV at M0
    simp only [List.length_nil] at M0
    rw [show likeVB ⟨0, 0, 0, [], []⟩ ⟨0, 0, 0, [], []⟩ = true from rfl] at M0
    have M := Lib.hid M0
    clear M0
    obtain ⟨n0, n1, n2, n3, n4⟩ := cell5 TN.out
    go_wp2_with fail
    clear n0 n1 n2 n3 n4
    refine M.out.mono ?_
    rintro e y4 ⟨rfl, bb⟩
    have tTA := TA.out.below bb
    have tTN := TN.out.below bb
    have bS := BS.out.trans (bb.mono BS.out.size)
    have bY := BY.out.trans (bb.mono BY.out.size)
    clear bb M BS BY TA TN
    have TA := Lib.hid tTA
    clear tTA
    have TN := Lib.hid tTN
    clear tTN
    have BS := Lib.hid bS
    have BY := Lib.hid bY
    clear bS bY
    go_wp2_with fail
    go_ret
    exact ⟨ret_bool (by first | rfl | decide), BS.out⟩
  · have hcn : ¬ c < 0 := by omega
    have hcm : ¬ 3 < c := by omega
    cases hn : nextV U c with
    | none =>
      have M0 := next_any U c xp xb xc xd s0 CV.out (HG.out.errs.below BS.out) R0.out hc0 hc3
      rw [hn] at M0
      unfold verV nextRes relV at M0
      try simp only at M0
      have M := Lib.hid M0
      clear M0
      have HN := Lib.hid hn
      clear hn
      refine M.out.mono ?_
      rintro e y0 ⟨rfl, bb⟩
      have bq : Below y0.heap.size y0 (y0.alloc (.cells #[.int .i64 0, .int .i64 0, .int .i64 0, .slice none 0 0, .slice none 0 0] 24)) := (Below.refl _ _).alloc (Nat.le_refl _) _
      have tA := (TA.out.below bb)
      obtain ⟨a0, a1, a2, a3, a4⟩ := cell5 tA
      have hla := tA.lt
      have bS := BS.out.trans (bb.mono BS.out.size)
      have bS2 := bS.trans (bq.mono bS.size)
      have bY := BY.out.trans (bb.mono BY.out.size)
      have bY2 := bY.trans (bq.mono bY.size)
      have tA2 := tA.below bq
      have tN := BlockAt.new y0 #[.int .i64 0, .int .i64 0, .int .i64 0, .slice none 0 0, .slice none 0 0] 24
      go_wp2_with fail
      clear a0 a1 a2 a3 a4 hla bb bq bS bY tA M TA BS BY
      generalize y0.alloc (.cells #[.int .i64 0, .int .i64 0, .int .i64 0, .slice none 0 0, .slice none 0 0] 24) = y1 at *
      have TA := Lib.hid tA2
      clear tA2
      have TN := Lib.hid tN
      clear tN
      have BS := Lib.hid bS2
      clear bS2
      have BY := Lib.hid bY2
      clear bY2
      have M0 := refright_any U xp xb xc xd y1 (CV.out.below BY.out)
      rw [R0.out] at M0
      unfold verV at M0
      have M := Lib.hid M0
      clear M0
      refine M.out.mono ?_
      rintro e y2 ⟨rfl, bb⟩
      have tTA := TA.out.below bb
      have tTN := TN.out.below bb
      have bS := BS.out.trans (bb.mono BS.out.size)
      have bY := BY.out.trans (bb.mono BY.out.size)
      clear bb M BS BY TA TN
      have TA := Lib.hid tTA
      clear tTA
      have TN := Lib.hid tTN
      clear tTN
      have BS := Lib.hid bS
      have BY := Lib.hid bY
      clear bS bY
      have M0 := refnext_any U c xp xb xc xd y2 (CV.out.below BY.out) R0.out hc0 hc3
      rw [HN.out] at M0
      unfold verV refRes at M0
      try simp only at M0
      have M := Lib.hid M0
      clear M0
      obtain ⟨a0, a1, a2, a3, a4⟩ := cell5 TA.out
      go_wp2_with fail
      clear a0 a1 a2 a3 a4
      refine M.out.mono ?_
      rintro e y3 ⟨rfl, bb⟩
      have bq : Below y3.heap.size y3 (y3.alloc (.cells #[.int .i64 0, .int .i64 0, .int .i64 0, .slice none 0 0, .slice none 0 0, .int .i64 2] 29)) := (Below.refl _ _).alloc (Nat.le_refl _) _
      have bS := BS.out.trans (bb.mono BS.out.size)
      have bS2 := bS.trans (bq.mono bS.size)
      have tN := (TN.out.below bb).below bq
      have tT := BlockAt.new y3 #[.int .i64 0, .int .i64 0, .int .i64 0, .slice none 0 0, .slice none 0 0, .int .i64 2] 29
      go_wp2_with fail
      clear bb bq bS M TN TA BS BY
      generalize y3.alloc (.cells #[.int .i64 0, .int .i64 0, .int .i64 0, .slice none 0 0, .slice none 0 0, .int .i64 2] 29) = y4 at *
      have TN := Lib.hid tN
      clear tN
      have TT := Lib.hid tT
      clear tT
      have BS := Lib.hid bS2
      clear bS2
      have M0 := alive_any y4 (HG.out.below BS.out)
      have M := Lib.hid M0
      clear M0
      refine M.out.mono ?_
      rintro e y5 ⟨rfl, bb⟩
      have BS2 := Lib.hid (BS.out.trans (bb.mono BS.out.size))
      have TN2 := Lib.hid (TN.out.below bb)
      have TT2 := Lib.hid (TT.out.below bb)
      clear bb M BS TN TT
      have NC := fun w => rel_verC w 0 0 0 (by decide) (by decide) (by decide)
      have M0 := reflike_any ⟨0, 0, 0, [], []⟩ ⟨0, 0, 0, [], []⟩ none none none none 0 0 0 0 y5 (NC y5) (NC y5)
      unfold verV at M0
      simp only [List.length_nil] at M0
      rw [show likeVB ⟨0, 0, 0, [], []⟩ ⟨0, 0, 0, [], []⟩ = true from by unfold likeVB; simp] at M0
      have M := Lib.hid M0
      clear M0
      obtain ⟨n0, n1, n2, n3, n4⟩ := cell5 TN2.out
      obtain ⟨t0, t1, t2, t3, t4, t5⟩ := cell6 TT2.out
      clear NC
      go_wp2_with fail
      refine M.out.mono ?_
      rintro e y6 ⟨rfl, bb⟩
      have B9 := Lib.hid (BS2.out.trans (bb.mono BS2.out.size))
      clear bb
      go_wp2_with fail
      go_ret
      exact ⟨ret_bool (by first | rfl | decide), B9.out⟩
    | some n =>
      have hNN := next_nums (nums_of R0.out (by have := CV.out.nums; unfold bigM; omega) (by have := CV.out.nums; unfold bigM; omega) (by have := CV.out.nums; unfold bigM; omega)) hn
      have hW := nextV_ways hn
      obtain ⟨na, ni, np, nq, nb⟩ := n
      have e1 : nq = [] := hW.1
      have e2 : nb = [] := hW.2.1
      subst e1
      subst e2
      clear hW
      have NR := Lib.hid (show (0 ≤ na ∧ na ≤ 9223372036854775807) ∧ (0 ≤ ni ∧ ni ≤ 9223372036854775807) ∧ (0 ≤ np ∧ np ≤ 9223372036854775807) from by unfold NumsOk bigM at hNN; (try simp only at hNN); omega)
      clear hNN
      have M0 := next_any U c xp xb xc xd s0 CV.out (HG.out.errs.below BS.out) R0.out hc0 hc3
      rw [hn] at M0
      unfold verV nextRes relV at M0
      try simp only at M0
      have M := Lib.hid M0
      clear M0
      have HN := Lib.hid hn
      clear hn
      refine M.out.mono ?_
      rintro e y0 ⟨rfl, bb⟩
      have bq : Below y0.heap.size y0 (y0.alloc (.cells #[.int .i64 na, .int .i64 ni, .int .i64 np, .slice none 0 0, .slice none 0 0] 24)) := (Below.refl _ _).alloc (Nat.le_refl _) _
      have tA := (TA.out.below bb)
      obtain ⟨a0, a1, a2, a3, a4⟩ := cell5 tA
      have hla := tA.lt
      have bS := BS.out.trans (bb.mono BS.out.size)
      have bS2 := bS.trans (bq.mono bS.size)
      have bY := BY.out.trans (bb.mono BY.out.size)
      have bY2 := bY.trans (bq.mono bY.size)
      have tA2 := tA.below bq
      have tN := BlockAt.new y0 #[.int .i64 na, .int .i64 ni, .int .i64 np, .slice none 0 0, .slice none 0 0] 24
      go_wp2_with fail
      clear a0 a1 a2 a3 a4 hla bb bq bS bY tA M TA BS BY
      generalize y0.alloc (.cells #[.int .i64 na, .int .i64 ni, .int .i64 np, .slice none 0 0, .slice none 0 0] 24) = y1 at *
      have TA := Lib.hid tA2
      clear tA2
      have TN := Lib.hid tN
      clear tN
      have BS := Lib.hid bS2
      clear bS2
      have BY := Lib.hid bY2
      clear bY2
      have M0 := refright_any U xp xb xc xd y1 (CV.out.below BY.out)
      rw [R0.out] at M0
      unfold verV at M0
      have M := Lib.hid M0
      clear M0
      refine M.out.mono ?_
      rintro e y2 ⟨rfl, bb⟩
      have tTA := TA.out.below bb
      have tTN := TN.out.below bb
      have bS := BS.out.trans (bb.mono BS.out.size)
      have bY := BY.out.trans (bb.mono BY.out.size)
      clear bb M BS BY TA TN
      have TA := Lib.hid tTA
      clear tTA
      have TN := Lib.hid tTN
      clear tTN
      have BS := Lib.hid bS
      have BY := Lib.hid bY
      clear bS bY
      have M0 := refnext_any U c xp xb xc xd y2 (CV.out.below BY.out) R0.out hc0 hc3
      rw [HN.out] at M0
      unfold verV refRes at M0
      try simp only at M0
      have M := Lib.hid M0
      clear M0
      obtain ⟨a0, a1, a2, a3, a4⟩ := cell5 TA.out
      go_wp2_with fail
      clear a0 a1 a2 a3 a4
      refine M.out.mono ?_
      rintro e y3 ⟨rfl, bb⟩
      have bq : Below y3.heap.size y3 (y3.alloc (.cells #[.int .i64 na, .int .i64 ni, .int .i64 np, .slice none 0 0, .slice none 0 0, .int .i64 0] 29)) := (Below.refl _ _).alloc (Nat.le_refl _) _
      have bS := BS.out.trans (bb.mono BS.out.size)
      have bS2 := bS.trans (bq.mono bS.size)
      have tN := (TN.out.below bb).below bq
      have tT := BlockAt.new y3 #[.int .i64 na, .int .i64 ni, .int .i64 np, .slice none 0 0, .slice none 0 0, .int .i64 0] 29
      go_wp2_with fail
      clear bb bq bS M TN TA BS BY
      generalize y3.alloc (.cells #[.int .i64 na, .int .i64 ni, .int .i64 np, .slice none 0 0, .slice none 0 0, .int .i64 0] 29) = y4 at *
      have TN := Lib.hid tN
      clear tN
      have TT := Lib.hid tT
      clear tT
      have BS := Lib.hid bS2
      clear bS2
      have M0 := alive_any y4 (HG.out.below BS.out)
      have M := Lib.hid M0
      clear M0
      refine M.out.mono ?_
      rintro e y5 ⟨rfl, bb⟩
      have BS2 := Lib.hid (BS.out.trans (bb.mono BS.out.size))
      have TN2 := Lib.hid (TN.out.below bb)
      have TT2 := Lib.hid (TT.out.below bb)
      clear bb M BS TN TT
      have NC := fun w => rel_verC w na ni np NR.out.1 NR.out.2.1 NR.out.2.2
      have M0 := reflike_any ⟨na, ni, np, [], []⟩ ⟨na, ni, np, [], []⟩ none none none none 0 0 0 0 y5 (NC y5) (NC y5)
      unfold verV at M0
      simp only [List.length_nil] at M0
      rw [show likeVB ⟨na, ni, np, [], []⟩ ⟨na, ni, np, [], []⟩ = true from by unfold likeVB; simp] at M0
      have M := Lib.hid M0
      clear M0
      obtain ⟨n0, n1, n2, n3, n4⟩ := cell5 TN2.out
      obtain ⟨t0, t1, t2, t3, t4, t5⟩ := cell6 TT2.out
      clear NC
      go_wp2_with fail
      refine M.out.mono ?_
      rintro e y6 ⟨rfl, bb⟩
      have B9 := Lib.hid (BS2.out.trans (bb.mono BS2.out.size))
      clear bb
      go_wp2_with fail
      go_ret
      exact ⟨ret_bool (by first | rfl | decide), B9.out⟩
end Go.Proofs.YtbdhmelebedpiaaDoor
