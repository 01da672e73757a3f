/- The law TypAdds: its walk. -/
import Derived.Test.YthgdceikmipppaaDoorTypW
import Derived.Test.YthgdceikmipppaaDoorTypFewN
import Derived.Test.YthgdceikmipppaaDoorTypRefAdd
namespace Go.Proofs.YthgdceikmipppaaDoor
open Go.RowKit
set_option linter.unusedSimpArgs false
set_option linter.unusedVariables false

theorem set5_facts {w s : World} {b : Nat} {v0 v1 v2 v3 v4 : Value} (h : ((((w.setCell ⟨b, 0, none⟩ v0).setCell ⟨b, 1, none⟩ v1).setCell ⟨b, 2, none⟩ v2).setCell ⟨b, 3, none⟩ v3).setCell ⟨b, 4, none⟩ v4 = s) :
    (∀ a0 a1 a2 a3 a4 T, BlockAt w b #[a0, a1, a2, a3, a4] T → BlockAt s b #[v0, v1, v2, v3, v4] T) ∧ (∀ B a, Below B a w → B ≤ b → Below B a s) ∧ SameA b w s := by
  subst h
  refine ⟨fun a0 a1 a2 a3 a4 T h => ?_, fun B a h hb => ((((h.setCell (by simpa using hb) _).setCell (by simpa using hb) _).setCell (by simpa using hb) _).setCell (by simpa using hb) _).setCell (by simpa using hb) _, ?_⟩
  · have := ((((h.set 0 v0).set 1 v1).set 2 v2).set 3 v3).set 4 v4
    simpa using this
  · exact ((((SameA.set _ _ _ _).trans (SameA.set _ _ _ _)).trans (SameA.set _ _ _ _)).trans (SameA.set _ _ _ _)).trans (SameA.set _ _ _ _)
theorem add_len (l : List Ty) (t : Ty) : (addT l t).1.length ≤ l.length + 1 := by
  unfold addT
  repeat' split
  all_goals simp
set_option maxHeartbeats 16000000 in
set_option maxRecDepth 100000 in
theorem adds_walk (ao : Option Addr) (l : List Ty) (cap : Nat) (t : Ty) (wo ko : Option Addr) (wc kc : Nat) (w : World) (hl : CameT w ao l cap) (ht : TyIn w wo ko wc kc t) (hE : Env w) :
    Calls Tryd.prog 4 #[.slice ao l.length cap, tyV t wo wc ko kc] w fun e w' => e = .returned (.bool true) ∧ Below w.heap.size w w' := by
  unfold tyV
  have HI := Lib.hid hl
  have HT := Lib.hid ht
  have HE := Lib.hid hE
  obtain ⟨w1, h1⟩ : ∃ w1, w.alloc (.cells #[.int .i64 t.kind, .string t.name, .int .i64 t.n, .slice wo t.words.length wc, .slice ko t.kids.length kc] 31) = w1 := ⟨_, rfl⟩
  obtain ⟨k1, q1, z1⟩ := box_new h1
  have BW := Lib.hid q1
  have K1 := Lib.hid k1
  have Z1 := Lib.hid z1
  clear hl ht hE k1 q1 z1
  go_enter Tryd.func4, Tryd.ntmps4
  go_wp2_with fail
  clear h1
  obtain ⟨c0, c1, c2, c3, c4⟩ := cell5 K1.out
  refine GoG.start [(5, ⟨w.heap.size, 0, none⟩, .int .i64 t.kind), (5, ⟨w.heap.size, 1, none⟩, .string t.name), (5, ⟨w.heap.size, 2, none⟩, .int .i64 t.n), (5, ⟨w.heap.size, 3, none⟩, .slice wo t.words.length wc), (5, ⟨w.heap.size, 4, none⟩, .slice ko t.kids.length kc)] (by kernel_rfl) ?_ ?_
  · exact (Keeps.cons (by first | assumption | simp [*]) (Keeps.cons (by first | assumption | simp [*]) (Keeps.cons (by first | assumption | simp [*]) (Keeps.cons (by first | assumption | simp [*]) (Keeps.cons (by first | assumption | simp [*]) (Keeps.nil))))))
  refine GoG.take (i := 0) (v := ?_) [] rfl (by kernel_rfl) (by kernel_rfl) (by kernel_rfl) (by kernel_rfl) (by kernel_rfl) (by kernel_rfl) (fun _ _ _ h => h) (yields_free (by rfl) (fun w => ?_)) ?_
  rotate_left
  · go_simp; try (with_reducible rfl)
  try simp only [Act.put, List.getElem_toArray, List.getElem_cons_succ, List.getElem_cons_zero, List.setIfInBounds_toArray, List.set_cons_zero, List.set_cons_succ]
  refine GoG.take (i := 2) (v := ?_) [3, 5] rfl (by kernel_rfl) (by kernel_rfl) (by kernel_rfl) (by kernel_rfl) (by kernel_rfl) (by kernel_rfl) (fun _ _ _ h => h) (.inl ⟨by rfl, fun wz hS => ?_⟩) ?_
  rotate_left
  · have g0 : wz.cell? ⟨w.heap.size, 0, none⟩ = some (.int .i64 t.kind) := hS (5, ⟨w.heap.size, 0, none⟩, .int .i64 t.kind) (by simp) (by simp)
    have g1 : wz.cell? ⟨w.heap.size, 1, none⟩ = some (.string t.name) := hS (5, ⟨w.heap.size, 1, none⟩, .string t.name) (by simp) (by simp)
    have g2 : wz.cell? ⟨w.heap.size, 2, none⟩ = some (.int .i64 t.n) := hS (5, ⟨w.heap.size, 2, none⟩, .int .i64 t.n) (by simp) (by simp)
    have g3 : wz.cell? ⟨w.heap.size, 3, none⟩ = some (.slice wo t.words.length wc) := hS (5, ⟨w.heap.size, 3, none⟩, .slice wo t.words.length wc) (by simp) (by simp)
    have g4 : wz.cell? ⟨w.heap.size, 4, none⟩ = some (.slice ko t.kids.length kc) := hS (5, ⟨w.heap.size, 4, none⟩, .slice ko t.kids.length kc) (by simp) (by simp)
    clear hS
    go_simp; try (with_reducible rfl)
  try simp only [Act.put, List.getElem_toArray, List.getElem_cons_succ, List.getElem_cons_zero, List.setIfInBounds_toArray, List.set_cons_zero, List.set_cons_succ]
  have BD := Lib.hid (show Below w.heap.size w w1.drew from BW.out.drew)
  have KD := Lib.hid (show BlockAt w1.drew w.heap.size _ _ from K1.out.below ((Below.refl _ _).drew))
  have HF := Lib.hid (few_apart w.heap.size w l ao cap 402 w1.drew HI.out.2.2 BD.out (Nat.le_refl _) (by have := Z1.out; show w.heap.size < w1.heap.size; omega) HI.out.1 HI.out.2.1 (by decide))
  have ZD := Lib.hid (show w.heap.size < w1.drew.heap.size from by have := Z1.out; show w.heap.size < w1.heap.size; omega)
  clear c0 c1 c2 c3 c4
  refine GoG.one (i := 1) rfl (by kernel_rfl) (fun K hK => ?_)
  go_simp
  refine HF.out.mono ?_
  rintro e u1 ⟨yo, yc, us, rfl, ra, hyc, hym, bb⟩
  have B1 := Lib.hid (BD.out.trans (bb.mono BD.out.size))
  have KU := Lib.hid (KD.out.below bb)
  have RA := Lib.hid ra
  have HY := Lib.hid (And.intro hyc hym)
  have ZU := Lib.hid (Nat.lt_of_lt_of_le ZD.out bb.size)
  have HO := Lib.hid (one_any t wo ko wc kc u1 (HT.out.below B1.out))
  unfold tyV at HO
  clear ra hyc hym bb HF BD KD ZD K1 BW
  obtain ⟨c0, c1, c2, c3, c4⟩ := cell5 KU.out
  refine hK.out _ _ (Keeps.cons (by first | assumption | simp [*]) (Keeps.cons (by first | assumption | simp [*]) (Keeps.cons (by first | assumption | simp [*]) (Keeps.cons (by first | assumption | simp [*]) (Keeps.cons (by first | assumption | simp [*]) (Keeps.nil)))))) ?_
  clear hK K c0 c1 c2 c3 c4
  try simp only [Act.put, List.getElem_toArray, List.getElem_cons_succ, List.getElem_cons_zero, List.setIfInBounds_toArray, List.set_cons_zero, List.set_cons_succ]
  refine GoG.one (i := 3) rfl (by kernel_rfl) (fun K hK => ?_)
  go_simp
  refine HO.out.mono ?_
  rintro e u2 ⟨uw, uwc, ukc, U, rfl, hs, ⟨j, hj⟩, hw1, hk1, hok, bb⟩
  unfold tyV
  have B2 := Lib.hid (B1.out.trans (bb.mono B1.out.size))
  have KV := Lib.hid (KU.out.below bb)
  have RB := Lib.hid (RA.out.same (SameA.below bb))
  have TU := Lib.hid (show TyCA w.heap.size u2 uw ko U from ⟨by
    rcases hs with h | ⟨b, off, e, hge, hlt, hcc⟩
    · exact .inl h
    · exact .inr ⟨b, off, e, hlt, by (have := ZU.out; omega), hcc⟩, by
    rcases (HT.out.kids).take j with h | ⟨b, off, e, hlt, hcc⟩
    · exact .inl (by rw [hj]; exact h)
    · exact .inr ⟨b, off, e, Nat.lt_of_lt_of_le hlt B2.out.size, by omega, fun i hi => by rw [hj] at hi ⊢; exact (B2.out.cell (p := ⟨b, off + i, none⟩) hlt).trans (hcc i hi)⟩, hok⟩)
  have HU := Lib.hid (And.intro hw1 hk1)
  clear hs hj hw1 hk1 hok bb HO B1 KU RA ZU
  obtain ⟨c0, c1, c2, c3, c4⟩ := cell5 KV.out
  refine hK.out _ _ (Keeps.cons (by first | assumption | simp [*]) (Keeps.cons (by first | assumption | simp [*]) (Keeps.cons (by first | assumption | simp [*]) (Keeps.cons (by first | assumption | simp [*]) (Keeps.cons (by first | assumption | simp [*]) (Keeps.nil)))))) ?_
  clear hK K c0 c1 c2 c3 c4
  try simp only [Act.put, List.getElem_toArray, List.getElem_cons_succ, List.getElem_cons_zero, List.setIfInBounds_toArray, List.set_cons_zero, List.set_cons_succ]
  refine GoG.take (i := 4) (v := ?_) [] rfl (by kernel_rfl) (by kernel_rfl) (by kernel_rfl) (by kernel_rfl) (by kernel_rfl) (by kernel_rfl) (fun _ _ _ h => h) (yields_free (by rfl) (fun w => ?_)) ?_
  rotate_left
  · go_simp; try (with_reducible rfl)
  try simp only [Act.put, List.getElem_toArray, List.getElem_cons_succ, List.getElem_cons_zero, List.setIfInBounds_toArray, List.set_cons_zero, List.set_cons_succ]
  obtain ⟨s, hs⟩ : ∃ s, (((((u2.setCell ⟨w.heap.size, 0, none⟩ (.int .i64 U.kind)).setCell ⟨w.heap.size, 1, none⟩ (.string U.name)).setCell ⟨w.heap.size, 2, none⟩ (.int .i64 U.n)).setCell ⟨w.heap.size, 3, none⟩ (.slice uw U.words.length uwc)).setCell ⟨w.heap.size, 4, none⟩ (.slice ko U.kids.length ukc)) = s := ⟨_, rfl⟩
  obtain ⟨g1, g2, g3⟩ := set5_facts hs
  have fr0 := KV.out.free 0
  have fr1 := KV.out.free 1
  have fr2 := KV.out.free 2
  have fr3 := KV.out.free 3
  have fr4 := KV.out.free 4
  obtain ⟨c0, c1, c2, c3, c4⟩ := cell5 KV.out
  have KS := Lib.hid (g1 _ _ _ _ _ _ KV.out)
  have BS := Lib.hid (g2 _ _ B2.out (Nat.le_refl _))
  have RS := Lib.hid (RB.out.same g3)
  have TS := Lib.hid (TU.out.same g3)
  clear g1 g2 g3 B2 KV RB TU
  refine GoG.one (i := 5) rfl (by kernel_rfl) (fun K hK => ?_)
  go_simp
  clear c0 c1 c2 c3 c4 fr0 fr1 fr2 fr3 fr4
  refine hK.out _ _ (Keeps.up (by rfl) (Keeps.up (by rfl) (Keeps.up (by rfl) (Keeps.up (by rfl) (Keeps.up (by rfl) (Keeps.nil)))))) ?_
  clear hK K hs
  refine GoG.done (by kernel_rfl) ?_ _
  have HE1 := Lib.hid (HE.out.below BS.out)
  obtain ⟨c0, c1, c2, c3, c4⟩ := cell5 KS.out
  have HP0 := padd_any us yo yc U uw ko uwc ukc s RS.out.out (by have := HY.out; omega) HY.out.1 HE1.out TS.out.out HU.out.1 HU.out.2
  unfold tyV at HP0
  by_cases hr : rightT us = true
  · obtain ⟨R, hR⟩ : ∃ R, addT us U = R := ⟨_, rfl⟩
    have hpR : paddT us U = R := by unfold paddT; rw [if_pos hr, hR]
    rw [hpR] at HP0
    have hRl : R.1.length ≤ 1000 := by have := add_len us U; rw [hR] at this; have := HY.out; omega
    have HRL := Lib.hid hRl
    have h22 : 0 < us.length := by have := (right_step hr).1.1; omega
    have H22 := Lib.hid h22
    obtain ⟨RL, RP, RE⟩ := R
    have HRT := Lib.hid hr
    have HAR := Lib.hid hR
    have HP := Lib.hid HP0
    clear HP0 hr hR hpR hRl h22
    go_wp2_with fail
    refine HP.out.mono ?_
    rintro e w2 ⟨po, pc, rfl, rp, hpc, b2⟩
    have RP0 := Lib.hid rp
    have B2 := Lib.hid (BS.out.trans (b2.mono BS.out.size))
    have KS2 := Lib.hid (KS.out.below b2)
    have RS2 := Lib.hid (RS.out.out.below b2)
    have TS2 := Lib.hid (TS.out.out.below b2)
    have HE2 := Lib.hid (HE1.out.below b2)
    have HRR := Lib.hid (refright_any us yo yc w2 RS2.out (by have := HY.out; omega) HY.out.1)
    rw [HRT.out] at HRR
    clear rp hpc b2 c0 c1 c2 c3 c4 HP BS KS RS TS HE1
    go_wp2_with fail
    refine HRR.out.mono ?_
    rintro e w3 ⟨rfl, b3⟩
    have RP3 := Lib.hid (RP0.out.below b3)
    have B3 := Lib.hid (B2.out.trans (b3.mono B2.out.size))
    have KS3 := Lib.hid (KS2.out.below b3)
    have HE3 := Lib.hid (HE2.out.below b3)
    have HAD := Lib.hid (refadd_any us yo yc U uw ko uwc ukc w3 (RS2.out.below b3) (TS2.out.below b3) (by have := HY.out; omega) H22.out HU.out.1 HU.out.2)
    rw [HAR.out] at HAD
    unfold tyV at HAD
    obtain ⟨c0, c1, c2, c3, c4⟩ := cell5 KS3.out
    clear b3 HRR RP0 B2 KS2 RS2 TS2 HE2
    go_wp2_with fail
    refine HAD.out.mono ?_
    rintro e w4 ⟨qo, qc, rfl, rq, b4⟩
    obtain ⟨w5, h5⟩ : ∃ w5, w4.alloc (.cells #[.slice qo RL.length qc, .int .i64 RP, .int .i64 RE] 37) = w5 := ⟨_, rfl⟩
    obtain ⟨k5, q5, z5⟩ := box_new h5
    have RP5 := Lib.hid ((RP3.out.below b4).below q5)
    have RQ5 := Lib.hid (rq.below q5)
    have B5 := Lib.hid (B3.out.trans (((b4.trans (q5.mono b4.size))).mono B3.out.size))
    have HE5 := Lib.hid ((HE3.out.below b4).below q5)
    have HA := Lib.hid (alive_any w5 HE5.out)
    have K5 := Lib.hid k5
    clear rq b4 k5 q5 z5 RP3 B3 HE3 KS3 c0 c1 c2 c3 c4 HAD
    go_wp2_with fail
    refine HA.out.mono ?_
    rintro e w6 ⟨rfl, b6⟩
    have HAA := Lib.hid (arenas_any RL RL po qo pc qc w6 (RP5.out.below b6) (RQ5.out.below b6) HRL.out HRL.out)
    rw [decide_eq_true (rfl : RL = RL)] at HAA
    have B6 := Lib.hid (B5.out.trans (b6.mono B5.out.size))
    have d0 := (K5.out.below b6).cell 0
    have d1 := (K5.out.below b6).cell 1
    have d2 := (K5.out.below b6).cell 2
    try simp only [List.getElem_toArray, List.getElem_cons_succ, List.getElem_cons_zero] at d0 d1 d2
    clear b6 HA h5 B5 RP5 RQ5 HE5
    go_wp2_with fail
    refine HAA.out.mono ?_
    rintro e w7 ⟨rfl, b7⟩
    have B7 := Lib.hid (B6.out.trans (b7.mono B6.out.size))
    clear b7 d0 d1 d2
    go_wp2_with fail
    go_ret
    exact ⟨by first | rfl | (simp; done), B7.out⟩
  · have hr : rightT us = false := by simpa using hr
    rw [padd_wrong hr] at HP0
    have HP := Lib.hid HP0
    have HRT := Lib.hid hr
    clear HP0 hr
    go_wp2_with fail
    refine HP.out.mono ?_
    rintro e w2 ⟨po, pc, rfl, rp, hpc, b2⟩
    have B2 := Lib.hid (BS.out.trans (b2.mono BS.out.size))
    have RS2 := Lib.hid (RS.out.out.below b2)
    have HE2 := Lib.hid (HE1.out.below b2)
    have HRR := Lib.hid (refright_any us yo yc w2 RS2.out (by have := HY.out; omega) HY.out.1)
    rw [HRT.out] at HRR
    clear rp hpc b2 c0 c1 c2 c3 c4 HP BS KS RS TS HE1
    go_wp2_with fail
    refine HRR.out.mono ?_
    rintro e w3 ⟨rfl, b3⟩
    have B3 := Lib.hid (B2.out.trans (b3.mono B2.out.size))
    have HA := Lib.hid (alive_any w3 (HE2.out.below b3))
    clear b3 HRR B2 RS2 HE2
    go_wp2_with fail
    refine HA.out.mono ?_
    rintro e w4 ⟨rfl, b4⟩
    have B4 := Lib.hid (B3.out.trans (b4.mono B3.out.size))
    clear b4
    go_wp2_with fail
    go_ret
    exact ⟨by first | rfl | (simp; done), B4.out⟩
end Go.Proofs.YthgdceikmipppaaDoor
