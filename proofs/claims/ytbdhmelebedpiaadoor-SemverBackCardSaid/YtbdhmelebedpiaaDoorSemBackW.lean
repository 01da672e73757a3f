/- The law SemverBack: its walk. -/
import Derived.Test.YtbdhmelebedpiaaDoorSemBackN
import Derived.Test.YtbdhmelebedpiaaDoorSemLike
namespace Go.Proofs.YtbdhmelebedpiaaDoor
open Go.RowKit
set_option linter.unusedSimpArgs false
set_option linter.unusedVariables false

set_option maxHeartbeats 64000000 in
set_option maxRecDepth 100000 in
theorem back_walk (s : ByteArray) (V1 : Vr) (po1 bo1 : Option Addr) (pc1 bc1 : Nat) (w : World) (hs : s.size ≤ maxLen) (h1 : VerIn w po1 bo1 pc1 bc1 V1) (hV : Vars w) :
    Calls Tryd.prog 5 #[.string s, verV V1 po1 pc1 bo1 bc1] w fun e w' => e = .returned (.bool true) ∧ Below w.heap.size w w' := by
  unfold maxLen at hs
  have HG := Lib.hid hV
  have H1 := Lib.hid h1
  obtain ⟨q, hq⟩ : ∃ q : Nat, min s.size 900 = q := ⟨_, rfl⟩
  have q1' : q ≤ s.size := by omega
  have q2' : q ≤ 900 := by omega
  have Hq : ∀ (ts : Array TypeId) (t : TypeId) (W : World), (Builtin.min_ ts t #[.int .i64 (s.size : Int), .int .i64 900]).run Tryd.prog W = .ok (.int .i64 (q : Int)) W := fun ts t W => by rw [run_min_int2, show (if (900 : Int) < (s.size : Int) then (900 : Int) else (s.size : Int)) = (q : Int) by split <;> omega]
  unfold verV
  obtain ⟨wa, hw0⟩ : ∃ x, w.alloc (.cells #[.int .i64 V1.ma, .int .i64 V1.mi, .int .i64 V1.pa, .slice po1 V1.pre.length pc1, .slice bo1 V1.build.length bc1] 24) = x := ⟨_, rfl⟩
  obtain ⟨k0, q0, z0⟩ := box_new hw0
  have K0 := Lib.hid k0
  have BW := Lib.hid q0
  have HZ := Lib.hid z0
  clear hV hq h1 k0 q0 z0
  obtain ⟨e0, e1, e2, e3, e4⟩ := cell5 K0.out
  go_enter Tryd.func5, Tryd.ntmps5
  go_wp2_with fail
  clear hw0
  refine GoG.start [(8, ⟨w.heap.size, 0, none⟩, .int .i64 V1.ma), (8, ⟨w.heap.size, 1, none⟩, .int .i64 V1.mi), (8, ⟨w.heap.size, 2, none⟩, .int .i64 V1.pa), (8, ⟨w.heap.size, 3, none⟩, .slice po1 V1.pre.length pc1), (8, ⟨w.heap.size, 4, none⟩, .slice bo1 V1.build.length bc1)] (by kernel_rfl) ?_ ?_
  · exact Keeps.cons (by first | assumption | simp [*]) (Keeps.cons (by first | assumption | simp [*]) (Keeps.cons (by first | assumption | simp [*]) (Keeps.cons (by first | assumption | simp [*]) (Keeps.cons (by first | assumption | simp [*]) (Keeps.nil)))))
  refine GoG.take (i := 0) (v := ?_) [] rfl (by kernel_rfl) (by kernel_rfl) (by kernel_rfl) (by kernel_rfl) (by kernel_rfl) (by kernel_rfl) (fun _ _ _ h => h) (yields_free (by rfl) (fun w => ?_)) ?_
  rotate_left
  · go_simp; try (with_reducible rfl)
  try simp only [Act.put, List.setIfInBounds_toArray, List.set_cons_zero, List.set_cons_succ]
  refine GoG.take (i := 1) (v := ?_) [] rfl (by kernel_rfl) (by kernel_rfl) (by kernel_rfl) (by kernel_rfl) (by kernel_rfl) (by kernel_rfl) (fun _ _ _ h => h) (yields_free (by rfl) (fun w => ?_)) ?_
  rotate_left
  · go_simp; try (with_reducible rfl)
  try simp only [Act.put, List.setIfInBounds_toArray, List.set_cons_zero, List.set_cons_succ]
  refine GoG.take (i := 2) (v := ?_) [] rfl (by kernel_rfl) (by kernel_rfl) (by kernel_rfl) (by kernel_rfl) (by kernel_rfl) (by kernel_rfl) (fun _ _ _ h => h) (yields_free (by rfl) (fun w => ?_)) ?_
  rotate_left
  · go_simp; try (with_reducible rfl)
  try simp only [Act.put, List.setIfInBounds_toArray, List.set_cons_zero, List.set_cons_succ]
  refine GoG.take (i := 3) (v := ?_) [] rfl (by kernel_rfl) (by kernel_rfl) (by kernel_rfl) (by kernel_rfl) (by kernel_rfl) (by kernel_rfl) (fun _ _ _ h => h) (yields_free (by rfl) (fun w => ?_)) ?_
  rotate_left
  · go_simp; try (with_reducible rfl)
  try simp only [Act.put, List.setIfInBounds_toArray, List.set_cons_zero, List.set_cons_succ]
  refine GoG.take (i := 4) (v := ?_) [] rfl (by kernel_rfl) (by kernel_rfl) (by kernel_rfl) (by kernel_rfl) (by kernel_rfl) (by kernel_rfl) (fun _ _ _ h => h) (yields_free (by rfl) (fun w => ?_)) ?_
  rotate_left
  · go_simp; try (with_reducible rfl)
  try simp only [Act.put, List.setIfInBounds_toArray, List.set_cons_zero, List.set_cons_succ]
  refine GoG.take (i := 5) (v := ?_) [6, 8] rfl (by kernel_rfl) (by kernel_rfl) (by kernel_rfl) (by kernel_rfl) (by kernel_rfl) (by kernel_rfl) (fun _ _ _ h => h) (.inl ⟨by rfl, fun wz hS => ?_⟩) ?_
  rotate_left
  · have y0 := hS (8, ⟨w.heap.size, 0, none⟩, .int .i64 V1.ma) (by simp) (by simp)
    have y1 := hS (8, ⟨w.heap.size, 1, none⟩, .int .i64 V1.mi) (by simp) (by simp)
    have y2 := hS (8, ⟨w.heap.size, 2, none⟩, .int .i64 V1.pa) (by simp) (by simp)
    have y3 := hS (8, ⟨w.heap.size, 3, none⟩, .slice po1 V1.pre.length pc1) (by simp) (by simp)
    have y4 := hS (8, ⟨w.heap.size, 4, none⟩, .slice bo1 V1.build.length bc1) (by simp) (by simp)
    clear hS
    simp only at y0 y1 y2 y3 y4
    go_simp; try (with_reducible rfl)
  try simp only [Act.put, List.setIfInBounds_toArray, List.set_cons_zero, List.set_cons_succ]
  have BD := Lib.hid (show Below w.heap.size w wa.drew from BW.out.drew)
  have KD := Lib.hid (show BlockAt wa.drew w.heap.size _ _ from K0.out.below ((Below.refl _ _).drew))
  have F0 := few_base V1 po1 bo1 pc1 bc1 wa.drew (H1.out.below BD.out)
  unfold verV at F0
  have F := Lib.hid F0
  clear F0
  refine GoG.one (i := 6) rfl (by kernel_rfl) (fun K hK => ?_)
  go_simp
  refine F.out.mono ?_
  rintro e u0 ⟨xp, xc, xb, xd, U, rfl, hv, hn, bb, cp, cb, rn1, rn2⟩
  unfold verV
  have B0 := Lib.hid (BD.out.trans (bb.mono BD.out.size))
  have KU := Lib.hid (KD.out.below bb)
  have HCP := Lib.hid (And.intro cp cb)
  clear e0 e1 e2 e3 e4
  obtain ⟨e0, e1, e2, e3, e4⟩ := cell5 KU.out
  refine hK.out _ _ (Keeps.cons (by first | assumption | simp [*]) (Keeps.cons (by first | assumption | simp [*]) (Keeps.cons (by first | assumption | simp [*]) (Keeps.cons (by first | assumption | simp [*]) (Keeps.cons (by first | assumption | simp [*]) (Keeps.nil)))))) ?_
  clear hK K
  refine GoG.take (i := 7) (v := ?_) [] rfl (by kernel_rfl) (by kernel_rfl) (by kernel_rfl) (by kernel_rfl) (by kernel_rfl) (by kernel_rfl) (fun _ _ _ h => h) (yields_free (by rfl) (fun w => ?_)) ?_
  rotate_left
  · go_simp; try (with_reducible rfl)
  try simp only [Act.put, List.setIfInBounds_toArray, List.set_cons_zero, List.set_cons_succ]
  obtain ⟨s0, hs0⟩ : ∃ s, ((((u0.setCell ⟨w.heap.size, 0, none⟩ (.int .i64 U.ma)).setCell ⟨w.heap.size, 1, none⟩ (.int .i64 U.mi)).setCell ⟨w.heap.size, 2, none⟩ (.int .i64 U.pa)).setCell ⟨w.heap.size, 3, none⟩ (.slice xp U.pre.length xc)).setCell ⟨w.heap.size, 4, none⟩ (.slice xb U.build.length xd) = s := ⟨_, rfl⟩
  obtain ⟨g1, g2, g3, g4, g5⟩ := set5_facts hs0
  have TA := Lib.hid (set5_at g1 KU.out)
  have BS := Lib.hid (g4 _ _ B0.out (Nat.le_refl _))
  have hltw : w.heap.size < wa.drew.heap.size := by have := HZ.out; simp; omega
  have CV := Lib.hid (show VerC s0 xp xb U from { hv with pre := (g3 _ _ _ rn1 hltw).row, build := (g3 _ _ _ rn2 hltw).row })
  have fr0 := KU.out.free 0
  have fr1 := KU.out.free 1
  have fr2 := KU.out.free 2
  have fr3 := KU.out.free 3
  have fr4 := KU.out.free 4
  clear g1 g2 g3 g4 g5 hv hn bb rn1 rn2 F K0 BW BD KD hltw cp cb
  refine GoG.one (i := 8) rfl (by kernel_rfl) (fun K hK => ?_)
  go_simp
  refine hK.out _ _ (Keeps.up (by rfl) (Keeps.up (by rfl) (Keeps.up (by rfl) (Keeps.up (by rfl) (Keeps.up (by rfl) (Keeps.nil)))))) ?_
  clear hK K hs0 fr0 fr1 fr2 fr3 fr4 e0 e1 e2 e3 e4
  refine GoG.done (by kernel_rfl) ?_ _
  have BY := Lib.hid (Below.refl s0.heap.size s0)
  obtain ⟨sx, hsx⟩ : ∃ sx, s.extract 0 q = sx := ⟨_, rfl⟩
  have hz : sx.size ≤ 900 := by rw [← hsx, ByteArray.size_extract]; omega
  try rw [hsx]
  clear hsx Hq q1' q2' hs
  have HP := Lib.hid (parseV_any sx s0 (by omega) (HG.out.max.below BS.out) (HG.out.errs.below BS.out))
  have HQ := Lib.hid (fun h => back_text (s := sx) h)
  by_cases hE : parseE sx = 0
  · have ht := HQ.out hE
    obtain ⟨X, hX⟩ : ∃ X, parseV sx = X := ⟨_, rfl⟩
    have HP2 := HP.out
    rw [hX] at ht HP2
    have HT := Lib.hid ht
    have HP3 := Lib.hid HP2
    have HEE := Lib.hid hE
    clear HP HQ hE ht HP2 hX
    go_wp2_with fail
    refine HP3.out.mono ?_
    rintro e y0 ⟨bb, ⟨-, zp, zc, zb, zd, rfl, zv, zcp, zcb⟩ | ⟨h, -⟩⟩
    · unfold verV
      have bq : Below y0.heap.size y0 (y0.alloc (.cells #[.int .i64 X.ma, .int .i64 X.mi, .int .i64 X.pa, .slice zp X.pre.length zc, .slice zb X.build.length zd] 24)) := (Below.refl _ _).alloc (Nat.le_refl _) _
      have bS := BS.out.trans (bb.mono BS.out.size)
      have bS2 := bS.trans (bq.mono bS.size)
      have bY := BY.out.trans (bb.mono BY.out.size)
      have bY2 := bY.trans (bq.mono bY.size)
      have tA := (TA.out.below bb).below bq
      have tN := BlockAt.new y0 #[.int .i64 X.ma, .int .i64 X.mi, .int .i64 X.pa, .slice zp X.pre.length zc, .slice zb X.build.length zd] 24
      have ZV := Lib.hid (zv.below bq)
      have ZCP := Lib.hid (And.intro zcp zcb)
      go_wp2_with fail
      clear bb bq bS bY HP3 TA BS BY zv zcp zcb
      generalize y0.alloc (.cells #[.int .i64 X.ma, .int .i64 X.mi, .int .i64 X.pa, .slice zp X.pre.length zc, .slice zb X.build.length zd] 24) = y1 at *
      have TA := Lib.hid tA
      clear tA
      have TN := Lib.hid tN
      clear tN
      have BS := Lib.hid bS2
      clear bS2
      have BY := Lib.hid bY2
      clear bY2
      have M0 := text_any X zp zb zc zd y1 ZV.out (HG.out.errs.below BS.out) (HG.out.pow.below BS.out) HT.out.2 ZCP.out.1 ZCP.out.2
      rw [HT.out.1] at M0
      unfold verV at M0
      have M := Lib.hid M0
      clear M0
      refine M.out.mono ?_
      rintro e y2 ⟨rfl, bb⟩
      have ZV2 := Lib.hid (ZV.out.below bb)
      have tTA := TA.out.below bb
      have tTN := TN.out.below bb
      have bS := BS.out.trans (bb.mono BS.out.size)
      have bY := BY.out.trans (bb.mono BY.out.size)
      clear bb M TA TN BS BY ZV
      have TA := Lib.hid tTA
      clear tTA
      have TN := Lib.hid tTN
      clear tTN
      have BS := Lib.hid bS
      clear bS
      have BY := Lib.hid bY
      clear bY
      have M0 := right_any X zp zb zc zd y2 ZV2.out (HG.out.errs.below BS.out)
      rw [HT.out.2] at M0
      unfold verV at M0
      have M := Lib.hid M0
      clear M0
      have hself : (sx.toList == sx.toList) = true := beq_self_eq_true _
      obtain ⟨n0, n1, n2, n3, n4⟩ := cell5 TN.out
      go_wp2_with fail
      clear n0 n1 n2 n3 n4 hself
      refine M.out.mono ?_
      rintro e y3 ⟨rfl, bb⟩
      have tTA := TA.out.below bb
      have bS := BS.out.trans (bb.mono BS.out.size)
      have bY := BY.out.trans (bb.mono BY.out.size)
      clear bb M BS BY TA
      have TA := Lib.hid tTA
      clear tTA
      have BS := Lib.hid bS
      have BY := Lib.hid bY
      clear bS bY
      cases r0 : rightB U <;> have R0 := Lib.hid r0 <;> clear r0
      · have M0 := text_bad U xp xb xc xd y3 (CV.out.below BY.out) (HG.out.errs.below BS.out) R0.out
        unfold verV at M0
        have M := Lib.hid M0
        clear M0
        obtain ⟨a0, a1, a2, a3, a4⟩ := cell5 TA.out
        go_wp2_with fail
        clear a0 a1 a2 a3 a4
        refine M.out.mono ?_
        rintro e t0 ⟨rfl, bb⟩
        have tTA := TA.out.below bb
        have bS := BS.out.trans (bb.mono BS.out.size)
        have bY := BY.out.trans (bb.mono BY.out.size)
        clear bb M BS BY TA
        have TA := Lib.hid tTA
        clear tTA
        have BS := Lib.hid bS
        have BY := Lib.hid bY
        clear bS bY
        have M0 := alive_any t0 (HG.out.below BS.out)
        have M := Lib.hid M0
        clear M0
        go_wp2_with fail
        refine M.out.mono ?_
        rintro e t1 ⟨rfl, bb⟩
        have tTA := TA.out.below bb
        have bS := BS.out.trans (bb.mono BS.out.size)
        have bY := BY.out.trans (bb.mono BY.out.size)
        clear bb M BS BY TA
        have TA := Lib.hid tTA
        clear tTA
        have BS := Lib.hid bS
        have BY := Lib.hid bY
        clear bS bY
        have M0 := right_any U xp xb xc xd t1 (CV.out.below BY.out) (HG.out.errs.below BS.out)
        rw [R0.out] at M0
        unfold verV at M0
        have M := Lib.hid M0
        clear M0
        obtain ⟨a0, a1, a2, a3, a4⟩ := cell5 TA.out
        go_wp2_with fail
        clear a0 a1 a2 a3 a4
        refine M.out.mono ?_
        rintro e t2 ⟨rfl, bb⟩
        have tTA := TA.out.below bb
        have bS := BS.out.trans (bb.mono BS.out.size)
        have bY := BY.out.trans (bb.mono BY.out.size)
        clear bb M BS BY TA
        have TA := Lib.hid tTA
        clear tTA
        have BS := Lib.hid bS
        have BY := Lib.hid bY
        clear bS bY
        go_wp2_with fail
        go_ret
        exact ⟨ret_bool (by first | rfl | decide), BS.out⟩
      · have nb := CV.out.nums
        obtain ⟨pe, pv⟩ := text_back R0.out nb.1.2 nb.2.1.2 nb.2.2.2
        have tz := textS_size R0.out nb.1.2 nb.2.1.2 nb.2.2.2
        have M0 := text_any U xp xb xc xd y3 (CV.out.below BY.out) (HG.out.errs.below BS.out) (HG.out.pow.below BS.out) R0.out HCP.out.1 HCP.out.2
        obtain ⟨tx, htx⟩ : ∃ tx, textS U = tx := ⟨_, rfl⟩
        rw [htx] at M0 pe pv tz
        unfold verV at M0
        have M := Lib.hid M0
        have PE := Lib.hid (And.intro pe pv)
        clear M0 htx pe pv nb
        obtain ⟨a0, a1, a2, a3, a4⟩ := cell5 TA.out
        go_wp2_with fail
        clear a0 a1 a2 a3 a4
        refine M.out.mono ?_
        rintro e t0 ⟨rfl, bb⟩
        have tTA := TA.out.below bb
        have bS := BS.out.trans (bb.mono BS.out.size)
        have bY := BY.out.trans (bb.mono BY.out.size)
        clear bb M BS BY TA
        have TA := Lib.hid tTA
        clear tTA
        have BS := Lib.hid bS
        have BY := Lib.hid bY
        clear bS bY
        have M0 := parseV_any tx t0 tz (HG.out.max.below BS.out) (HG.out.errs.below BS.out)
        rw [PE.out.1, PE.out.2] at M0
        have M := Lib.hid M0
        clear M0
        go_wp2_with fail
        refine M.out.mono ?_
        rintro e t1 ⟨bb, ⟨-, zp, zc, zb, zd, rfl, zv, -, -⟩ | ⟨h, -⟩⟩
        · unfold verV
          have bq : Below t1.heap.size t1 (t1.alloc (.cells #[.int .i64 U.ma, .int .i64 U.mi, .int .i64 U.pa, .slice zp U.pre.length zc, .slice zb U.build.length zd] 24)) := (Below.refl _ _).alloc (Nat.le_refl _) _
          have bS := BS.out.trans (bb.mono BS.out.size)
          have bS2 := bS.trans (bq.mono bS.size)
          have bY := BY.out.trans (bb.mono BY.out.size)
          have bY2 := bY.trans (bq.mono bY.size)
          have tA := (TA.out.below bb).below bq
          have tN := BlockAt.new t1 #[.int .i64 U.ma, .int .i64 U.mi, .int .i64 U.pa, .slice zp U.pre.length zc, .slice zb U.build.length zd] 24
          have ZV := Lib.hid (zv.below bq)
          go_wp2_with fail
          clear bb bq bS bY M TA BS BY zv
          generalize t1.alloc (.cells #[.int .i64 U.ma, .int .i64 U.mi, .int .i64 U.pa, .slice zp U.pre.length zc, .slice zb U.build.length zd] 24) = t2 at *
          have TA := Lib.hid tA
          clear tA
          have TN := Lib.hid tN
          clear tN
          have BS := Lib.hid bS2
          clear bS2
          have BY := Lib.hid bY2
          clear bY2
          have M0 := alive_any t2 (HG.out.below BS.out)
          have M := Lib.hid M0
          clear M0
          refine M.out.mono ?_
          rintro e t3 ⟨rfl, bb⟩
          have ZV2 := ZV.out.below bb
          have CV2 := CV.out.below (BY.out.trans (bb.mono BY.out.size))
          have bS := BS.out.trans (bb.mono BS.out.size)
          have tA := TA.out.below bb
          have tN := TN.out.below bb
          have M0 := reflike_any U U zp zb xp xb zc zd xc xd t3 ZV2 CV2
          rw [show likeVB U U = true from by unfold likeVB; simp] at M0
          unfold verV at M0
          clear M bb TA TN ZV2 CV2 BS
          have M := Lib.hid M0
          have TA := Lib.hid tA
          have TN := Lib.hid tN
          have BS := Lib.hid bS
          clear M0 tA tN bS
          obtain ⟨a0, a1, a2, a3, a4⟩ := cell5 TA.out
          obtain ⟨n0, n1, n2, n3, n4⟩ := cell5 TN.out
          go_wp2_with fail
          refine M.out.mono ?_
          rintro e t4 ⟨rfl, bb⟩
          have B9 := Lib.hid (BS.out.trans (bb.mono BS.out.size))
          clear bb a0 a1 a2 a3 a4 n0 n1 n2 n3 n4
          go_wp2_with fail
          go_ret
          exact ⟨ret_bool (by first | rfl | decide), B9.out⟩
        · exact absurd rfl h
    · exact absurd HEE.out h
  · have HEE := Lib.hid hE
    clear hE HQ
    go_wp2_with fail
    refine HP.out.mono ?_
    rintro e y0 ⟨bb, ⟨h, -⟩ | ⟨-, rfl⟩⟩
    · exact absurd h HEE.out
    · unfold relV
      obtain ⟨er, her⟩ : ∃ er, parseE sx = er := ⟨_, rfl⟩
      have hne : (er == 0) = false := by rw [beq_eq_false_iff_ne, ← her]; exact HEE.out
      rw [her]
      clear her
      have bq : Below y0.heap.size y0 (y0.alloc (.cells #[.int .i64 0, .int .i64 0, .int .i64 0, .slice none 0 0, .slice none 0 0] 24)) := (Below.refl _ _).alloc (Nat.le_refl _) _
      have bS := BS.out.trans (bb.mono BS.out.size)
      have bS2 := bS.trans (bq.mono bS.size)
      have bY := BY.out.trans (bb.mono BY.out.size)
      have bY2 := bY.trans (bq.mono bY.size)
      have tA := (TA.out.below bb).below bq
      obtain ⟨a0, a1, a2, a3, a4⟩ := cell5 (TA.out.below bb)
      have hla := (TA.out.below bb).lt
      go_wp2_with fail
      clear bb bq bS bY HP TA BS BY a0 a1 a2 a3 a4 hla hne
      generalize y0.alloc (.cells #[.int .i64 0, .int .i64 0, .int .i64 0, .slice none 0 0, .slice none 0 0] 24) = y1 at *
      have TA := Lib.hid tA
      clear tA
      have BS := Lib.hid bS2
      clear bS2
      have BY := Lib.hid bY2
      clear bY2
      cases r0 : rightB U <;> have R0 := Lib.hid r0 <;> clear r0
      · have M0 := text_bad U xp xb xc xd y1 (CV.out.below BY.out) (HG.out.errs.below BS.out) R0.out
        unfold verV at M0
        have M := Lib.hid M0
        clear M0
        obtain ⟨a0, a1, a2, a3, a4⟩ := cell5 TA.out
        go_wp2_with fail
        clear a0 a1 a2 a3 a4
        refine M.out.mono ?_
        rintro e t0 ⟨rfl, bb⟩
        have tTA := TA.out.below bb
        have bS := BS.out.trans (bb.mono BS.out.size)
        have bY := BY.out.trans (bb.mono BY.out.size)
        clear bb M BS BY TA
        have TA := Lib.hid tTA
        clear tTA
        have BS := Lib.hid bS
        have BY := Lib.hid bY
        clear bS bY
        have M0 := alive_any t0 (HG.out.below BS.out)
        have M := Lib.hid M0
        clear M0
        go_wp2_with fail
        refine M.out.mono ?_
        rintro e t1 ⟨rfl, bb⟩
        have tTA := TA.out.below bb
        have bS := BS.out.trans (bb.mono BS.out.size)
        have bY := BY.out.trans (bb.mono BY.out.size)
        clear bb M BS BY TA
        have TA := Lib.hid tTA
        clear tTA
        have BS := Lib.hid bS
        have BY := Lib.hid bY
        clear bS bY
        have M0 := right_any U xp xb xc xd t1 (CV.out.below BY.out) (HG.out.errs.below BS.out)
        rw [R0.out] at M0
        unfold verV at M0
        have M := Lib.hid M0
        clear M0
        obtain ⟨a0, a1, a2, a3, a4⟩ := cell5 TA.out
        go_wp2_with fail
        clear a0 a1 a2 a3 a4
        refine M.out.mono ?_
        rintro e t2 ⟨rfl, bb⟩
        have tTA := TA.out.below bb
        have bS := BS.out.trans (bb.mono BS.out.size)
        have bY := BY.out.trans (bb.mono BY.out.size)
        clear bb M BS BY TA
        have TA := Lib.hid tTA
        clear tTA
        have BS := Lib.hid bS
        have BY := Lib.hid bY
        clear bS bY
        go_wp2_with fail
        go_ret
        exact ⟨ret_bool (by first | rfl | decide), BS.out⟩
      · have nb := CV.out.nums
        obtain ⟨pe, pv⟩ := text_back R0.out nb.1.2 nb.2.1.2 nb.2.2.2
        have tz := textS_size R0.out nb.1.2 nb.2.1.2 nb.2.2.2
        have M0 := text_any U xp xb xc xd y1 (CV.out.below BY.out) (HG.out.errs.below BS.out) (HG.out.pow.below BS.out) R0.out HCP.out.1 HCP.out.2
        obtain ⟨tx, htx⟩ : ∃ tx, textS U = tx := ⟨_, rfl⟩
        rw [htx] at M0 pe pv tz
        unfold verV at M0
        have M := Lib.hid M0
        have PE := Lib.hid (And.intro pe pv)
        clear M0 htx pe pv nb
        obtain ⟨a0, a1, a2, a3, a4⟩ := cell5 TA.out
        go_wp2_with fail
        clear a0 a1 a2 a3 a4
        refine M.out.mono ?_
        rintro e t0 ⟨rfl, bb⟩
        have tTA := TA.out.below bb
        have bS := BS.out.trans (bb.mono BS.out.size)
        have bY := BY.out.trans (bb.mono BY.out.size)
        clear bb M BS BY TA
        have TA := Lib.hid tTA
        clear tTA
        have BS := Lib.hid bS
        have BY := Lib.hid bY
        clear bS bY
        have M0 := parseV_any tx t0 tz (HG.out.max.below BS.out) (HG.out.errs.below BS.out)
        rw [PE.out.1, PE.out.2] at M0
        have M := Lib.hid M0
        clear M0
        go_wp2_with fail
        refine M.out.mono ?_
        rintro e t1 ⟨bb, ⟨-, zp, zc, zb, zd, rfl, zv, -, -⟩ | ⟨h, -⟩⟩
        · unfold verV
          have bq : Below t1.heap.size t1 (t1.alloc (.cells #[.int .i64 U.ma, .int .i64 U.mi, .int .i64 U.pa, .slice zp U.pre.length zc, .slice zb U.build.length zd] 24)) := (Below.refl _ _).alloc (Nat.le_refl _) _
          have bS := BS.out.trans (bb.mono BS.out.size)
          have bS2 := bS.trans (bq.mono bS.size)
          have bY := BY.out.trans (bb.mono BY.out.size)
          have bY2 := bY.trans (bq.mono bY.size)
          have tA := (TA.out.below bb).below bq
          have tN := BlockAt.new t1 #[.int .i64 U.ma, .int .i64 U.mi, .int .i64 U.pa, .slice zp U.pre.length zc, .slice zb U.build.length zd] 24
          have ZV := Lib.hid (zv.below bq)
          go_wp2_with fail
          clear bb bq bS bY M TA BS BY zv
          generalize t1.alloc (.cells #[.int .i64 U.ma, .int .i64 U.mi, .int .i64 U.pa, .slice zp U.pre.length zc, .slice zb U.build.length zd] 24) = t2 at *
          have TA := Lib.hid tA
          clear tA
          have TN := Lib.hid tN
          clear tN
          have BS := Lib.hid bS2
          clear bS2
          have BY := Lib.hid bY2
          clear bY2
          have M0 := alive_any t2 (HG.out.below BS.out)
          have M := Lib.hid M0
          clear M0
          refine M.out.mono ?_
          rintro e t3 ⟨rfl, bb⟩
          have ZV2 := ZV.out.below bb
          have CV2 := CV.out.below (BY.out.trans (bb.mono BY.out.size))
          have bS := BS.out.trans (bb.mono BS.out.size)
          have tA := TA.out.below bb
          have tN := TN.out.below bb
          have M0 := reflike_any U U zp zb xp xb zc zd xc xd t3 ZV2 CV2
          rw [show likeVB U U = true from by unfold likeVB; simp] at M0
          unfold verV at M0
          clear M bb TA TN ZV2 CV2 BS
          have M := Lib.hid M0
          have TA := Lib.hid tA
          have TN := Lib.hid tN
          have BS := Lib.hid bS
          clear M0 tA tN bS
          obtain ⟨a0, a1, a2, a3, a4⟩ := cell5 TA.out
          obtain ⟨n0, n1, n2, n3, n4⟩ := cell5 TN.out
          go_wp2_with fail
          refine M.out.mono ?_
          rintro e t4 ⟨rfl, bb⟩
          have B9 := Lib.hid (BS.out.trans (bb.mono BS.out.size))
          clear bb a0 a1 a2 a3 a4 n0 n1 n2 n3 n4
          go_wp2_with fail
          go_ret
          exact ⟨ret_bool (by first | rfl | decide), B9.out⟩
        · exact absurd rfl h
end Go.Proofs.YtbdhmelebedpiaaDoor
