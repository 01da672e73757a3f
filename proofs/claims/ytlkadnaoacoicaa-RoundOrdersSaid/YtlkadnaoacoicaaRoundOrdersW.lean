/- The law RoundOrders. -/
import Derived.Test.YtlkadnaoacoicaaRoundOrd
namespace Go.Proofs.Ytlkadnaoacoicaa
open Go.RowKit NM

set_option maxHeartbeats 100000000 in
set_option maxRecDepth 100000 in
theorem orders3_walk (s0 : Bool) (a0 : Option Addr) (len0 cap0 : Nat) (z0 : List Int) (a1 : Option Addr) (len1 cap1 : Nat) (z1 : List Int) (t0 : Bool) (a2 : Option Addr) (len2 cap2 : Nat) (z2 : List Int) (a3 : Option Addr) (len3 cap3 : Nat) (z3 : List Int) (sz : Int) (w : World)
    (w0 : IsRow .u32 w a0 len0 cap0 z0) (w1 : IsRow .u32 w a1 len1 cap1 z1) (w2 : IsRow .u32 w a2 len2 cap2 z2) (w3 : IsRow .u32 w a3 len3 cap3 z3) (hsz : (Lit.int .i64 sz).wf = true) :
    Calls Try.prog 4 #[.agg #[.bool s0, .slice a0 len0 cap0, .slice a1 len1 cap1], .agg #[.bool t0, .slice a2 len2 cap2, .slice a3 len3 cap3], .int .i64 sz] w fun e w' => e = .returned (.bool true) ∧ Below w.heap.size w w' := by
  obtain ⟨B, ha, hb⟩ := two_start w #[.bool s0, .slice a0 len0 cap0, .slice a1 len1 cap1] #[.bool t0, .slice a2 len2 cap2, .slice a3 len3 cap3] 25
  have F := Lib.hid (fun (W : World) (B : Below w.heap.size w W) => fewO s0 a0 len0 cap0 z0 a1 len1 cap1 z1 W (w0.later B) (w1.later B))
  have G := Lib.hid (fun (W : World) (B : Below w.heap.size w W) => fewO t0 a2 len2 cap2 z2 a3 len3 cap3 z3 W (w2.later B) (w3.later B))
  clear w0 w1 w2 w3
  have Hsz := Lib.hid hsz
  clear hsz
  go_enter Try.func4, Try.ntmps4
  go_wp2_with fail
  generalize (w.alloc (.cells #[.bool s0, .slice a0 len0 cap0, .slice a1 len1 cap1] 25)).alloc (.cells #[.bool t0, .slice a2 len2 cap2, .slice a3 len3 cap3] 25) = W at *
  go_cut [] (fun wx => ∃ s t n1 d1 n2 d2 xs ys us vs, Hid (BlockAt wx w.heap.size #[.bool s, n1, d1] 25) ∧ Hid (BlockAt wx (w.heap.size + 1) #[.bool t, n2, d2] 25) ∧ Hid (Sl wx n1 xs ∧ Sl wx d1 ys ∧ Sl wx n2 us ∧ Sl wx d2 vs) ∧ Hid (Below w.heap.size w wx))
  case first =>
    have D := (Below.refl W.heap.size W).drew
    have ha := ha.below D
    have hb := hb.below D
    have B := B.drew
    have tok1 : True := trivial
    clear D
    obtain ⟨k0, k1, k2⟩ := block3 ha
    obtain ⟨k3, k4, k5⟩ := block3 hb
    go_region_with (first
      | (go_at_call 5; have _t := tok1; clear _t tok1; have tok2 : True := trivial; refine (F.out _ B).mono ?_; rintro e W2 ⟨⟨n1, d1, xs, ys, rfl, x1, x2⟩, bq⟩; obtain ⟨p1, p2, p3, rfl⟩ := x1.form; obtain ⟨q1, q2, q3, rfl⟩ := x2.form; have ha := ha.below bq; have hb := hb.below bq; have B := B.trans (bq.mono B.size); clear bq; obtain ⟨k0, k1, k2⟩ := block3 ha; obtain ⟨k3, k4, k5⟩ := block3 hb)
      | (go_at_call 5; have _t := tok2; refine (G.out _ B).mono ?_; rintro e W3 ⟨⟨n2, d2, us, vs, rfl, x3, x4⟩, bq⟩; obtain ⟨p4, p5, p6, rfl⟩ := x3.form; obtain ⟨q4, q5, q6, rfl⟩ := x4.form; have x1 := x1.below bq; have x2 := x2.below bq; have ha := ha.below bq; have hb := hb.below bq; have B := B.trans (bq.mono B.size); clear bq; obtain ⟨k0, k1, k2⟩ := block3 ha; obtain ⟨k3, k4, k5⟩ := block3 hb; have f0 := ha.free 0; have f1 := ha.free 1; have f2 := ha.free 2; have f3 := hb.free 0; have f4 := hb.free 1; have f5 := hb.free 2))
    all_goals
      obtain ⟨V, hV, y1, y2, y3, y4⟩ := both_set (a := s0) (b := t0) ha hb (Nat.le_refl _) B x1 x2 x3 x4
      have Y1 := Lib.hid y1
      have Y2 := Lib.hid y2
      have Y3 := Lib.hid y3
      have Y4 := Lib.hid y4
      have HV := Lib.hid hV
      clear y1 y2 y3 y4 hV x1 x2 x3 x4 ha hb B f0 f1 f2 f3 f4 f5 k0 k1 k2 k3 k4 k5
      go_wp2_with fail
      go_meet
      rw [← HV.out]
      exact ⟨s0, t0, _, _, _, _, _, _, _, _, Y1, Y2, Y3, Y4⟩
  case rest =>
    rename_i wc
    obtain ⟨s, t, n1, d1, n2, d2, xs, ys, us, vs, ka, kb, hsl, hB⟩ := hcut
    obtain ⟨x1, x2, x3, x4⟩ := hsl.out
    have ka := ka.out
    have kb := kb.out
    have B := hB.out
    obtain ⟨ao1, an1, ac1, rfl⟩ := x1.form
    obtain ⟨ao2, an2, ac2, rfl⟩ := x2.form
    obtain ⟨ao3, an3, ac3, rfl⟩ := x3.form
    obtain ⟨ao4, an4, ac4, rfl⟩ := x4.form
    have hne : w.heap.size + 1 ≠ w.heap.size := by omega
    have hne2 : w.heap.size ≠ w.heap.size + 1 := by omega
    have nl1 : NoLimb #[.bool s, .slice ao1 an1 ac1, .slice ao2 an2 ac2] := noLimb3 (fun _ h => by cases h) (fun _ h => by cases h)
    have nl2 : NoLimb #[.bool t, .slice ao3 an3 ac3, .slice ao4 an4 ac4] := noLimb3 (fun _ h => by cases h) (fun _ h => by cases h)
    have k2 := kb.other hne 0 (.bool false)
    have y1 := (x1.set_one ka nl1 0 (.bool false)).set_one k2 nl2 0 (.bool false)
    have y2 := (x2.set_one ka nl1 0 (.bool false)).set_one k2 nl2 0 (.bool false)
    have y3 := (x3.set_one ka nl1 0 (.bool false)).set_one k2 nl2 0 (.bool false)
    have y4 := (x4.set_one ka nl1 0 (.bool false)).set_one k2 nl2 0 (.bool false)
    have ka2 := (ka.set 0 (.bool false)).other hne2 0 (.bool false)
    have kb2 := k2.set 0 (.bool false)
    have B2 := (B.setCell (p := ⟨w.heap.size, 0, none⟩) (Nat.le_refl _) (.bool false)).setCell (p := ⟨w.heap.size + 1, 0, none⟩) (Nat.le_succ _) (.bool false)
    have HX := Lib.hid (rat_ways _ false _ _ _ _ y1 y2)
    have HY := Lib.hid (rat_ways _ false _ _ _ _ y3 y4)
    obtain ⟨ka_0, ka_1, ka_2⟩ := block3 ka
    obtain ⟨kb_0, kb_1, kb_2⟩ := block3 kb
    have ka_l := ka.lt
    have kb_l := kb.lt
    have ka_f := ka.free 0
    have kb_f := kb.free 0
    clear hsl hB x1 x2 x3 x4 F G y1 y2 y3 y4 k2 nl1 nl2
    go_wp2_with fail
    clear ka_0 ka_1 ka_2 kb_0 kb_1 kb_2 ka_l kb_l ka_f kb_f ka kb B hne hne2
    generalize (wc.setCell ⟨w.heap.size, 0, none⟩ (.bool false)).setCell ⟨w.heap.size + 1, 0, none⟩ (.bool false) = V0 at *
    simp at ka2 kb2
    have ka := ka2
    have kb := kb2
    have B := B2
    clear ka2 kb2 B2
    have hB2 : AnyR V0 (.agg #[.bool false, .slice ao3 an3 ac3, .slice ao4 an4 ac4]) := HY.out
    by_cases h32 : sz = 32
    · subst h32
      rcases HX.out with ⟨x, hx⟩ | hbx
      · have HY2 := HY
        clear HX
        obtain ⟨ka_0, ka_1, ka_2⟩ := block3 ka
        have ka_l := ka.lt
        obtain ⟨kb_0, kb_1, kb_2⟩ := block3 kb
        have kb_l := kb.lt
        have HC := Lib.hid (bits32_res (.agg #[.bool false, .slice ao1 an1 ac1, .slice ao2 an2 ac2]) x _ hx)
        refine HC.out.mono ?_
        rintro e W1 ⟨⟨b1, ex1, k1, rfl, hr1⟩, bq⟩
        clear HC
        have bV := bq
        have hx := hx.below bq
        have hB2 := hB2.below bq
        have ka := ka.below bq
        have kb := kb.below bq
        have B := B.trans (bq.mono B.size)
        clear bq
        clear ka_0 ka_1 ka_2 ka_l kb_0 kb_1 kb_2 kb_l
        obtain ⟨ka_0, ka_1, ka_2⟩ := block3 ka
        have ka_l := ka.lt
        obtain ⟨kb_0, kb_1, kb_2⟩ := block3 kb
        have kb_l := kb.lt
        rcases hr1 with ⟨rfl, -⟩ | ⟨rfl, m1, hm1, hb1⟩
        · skip
          have HC := Lib.hid (bits_form (.agg #[.bool false, .slice ao3 an3 ac3, .slice ao4 an4 ac4]) 32 _ (by decide) hB2)
          go_wp2_with fail
          refine HC.out.mono ?_
          rintro e W2 ⟨⟨b2, ex2, k2, rfl⟩, bq⟩
          clear HC
          have hx := hx.below bq
          have hB2 := hB2.below bq
          have ka := ka.below bq
          have kb := kb.below bq
          have B := B.trans (bq.mono B.size)
          clear bq
          clear ka_0 ka_1 ka_2 ka_l kb_0 kb_1 kb_2 kb_l
          obtain ⟨ka_0, ka_1, ka_2⟩ := block3 ka
          have ka_l := ka.lt
          obtain ⟨kb_0, kb_1, kb_2⟩ := block3 kb
          have kb_l := kb.lt
          have HC := Lib.hid (cmp_form (.agg #[.bool false, .slice ao1 an1 ac1, .slice ao2 an2 ac2]) (.agg #[.bool false, .slice ao3 an3 ac3, .slice ao4 an4 ac4]) _ (.inl ⟨x, hx⟩) hB2)
          go_wp2_with fail
          refine HC.out.mono ?_
          rintro e W3 ⟨⟨n, g, rfl⟩, bq⟩
          clear HC
          have hx := hx.below bq
          have hB2 := hB2.below bq
          have ka := ka.below bq
          have kb := kb.below bq
          have B := B.trans (bq.mono B.size)
          clear bq
          clear ka_0 ka_1 ka_2 ka_l kb_0 kb_1 kb_2 kb_l
          obtain ⟨ka_0, ka_1, ka_2⟩ := block3 ka
          have ka_l := ka.lt
          obtain ⟨kb_0, kb_1, kb_2⟩ := block3 kb
          have kb_l := kb.lt
          have HC := Lib.hid (alive3 W3)
          go_wp2_with fail
          refine HC.out.mono ?_
          rintro e W4 ⟨rfl, bq⟩
          clear HC
          have hx := hx.below bq
          have hB2 := hB2.below bq
          have ka := ka.below bq
          have kb := kb.below bq
          have B := B.trans (bq.mono B.size)
          clear bq
          clear ka_0 ka_1 ka_2 ka_l kb_0 kb_1 kb_2 kb_l
          obtain ⟨ka_0, ka_1, ka_2⟩ := block3 ka
          have ka_l := ka.lt
          obtain ⟨kb_0, kb_1, kb_2⟩ := block3 kb
          have kb_l := kb.lt
          go_wp2_with fail
          go_ret
          exact ⟨rfl, B⟩
        · have hxs := hx.sign.1
          rw [if_neg (by rw [hxs]; simp), Int.add_zero] at hb1
          subst hb1
          have Hm1 := Lib.hid hm1
          have Hxs := Lib.hid (show 0 ≤ x.num from Int.not_lt.1 (of_decide_eq_false hxs))
          clear hm1 hxs
          rcases HY2.out with ⟨y, hy⟩ | hby
          · clear HY2
            have hy := hy.below bV
            clear hB2
            have HC := Lib.hid (bits32_res (.agg #[.bool false, .slice ao3 an3 ac3, .slice ao4 an4 ac4]) y _ hy)
            go_wp2_with fail
            refine HC.out.mono ?_
            rintro e W51 ⟨⟨b2, ex2, k2, rfl, hr2⟩, bq⟩
            clear HC
            have hx := hx.below bq
            have hy := hy.below bq
            have ka := ka.below bq
            have kb := kb.below bq
            have B := B.trans (bq.mono B.size)
            clear bq
            clear ka_0 ka_1 ka_2 ka_l kb_0 kb_1 kb_2 kb_l
            obtain ⟨ka_0, ka_1, ka_2⟩ := block3 ka
            have ka_l := ka.lt
            obtain ⟨kb_0, kb_1, kb_2⟩ := block3 kb
            have kb_l := kb.lt
            rcases hr2 with ⟨rfl, -⟩ | ⟨rfl, m2, hm2, hb2⟩
            · skip
              have HC := Lib.hid (cmp_form (.agg #[.bool false, .slice ao1 an1 ac1, .slice ao2 an2 ac2]) (.agg #[.bool false, .slice ao3 an3 ac3, .slice ao4 an4 ac4]) _ (.inl ⟨x, hx⟩) (.inl ⟨y, hy⟩))
              go_wp2_with fail
              refine HC.out.mono ?_
              rintro e W52 ⟨⟨n, g, rfl⟩, bq⟩
              clear HC
              have hx := hx.below bq
              have hy := hy.below bq
              have ka := ka.below bq
              have kb := kb.below bq
              have B := B.trans (bq.mono B.size)
              clear bq
              clear ka_0 ka_1 ka_2 ka_l kb_0 kb_1 kb_2 kb_l
              obtain ⟨ka_0, ka_1, ka_2⟩ := block3 ka
              have ka_l := ka.lt
              obtain ⟨kb_0, kb_1, kb_2⟩ := block3 kb
              have kb_l := kb.lt
              have HC := Lib.hid (alive3 W52)
              go_wp2_with fail
              refine HC.out.mono ?_
              rintro e W53 ⟨rfl, bq⟩
              clear HC
              have hx := hx.below bq
              have hy := hy.below bq
              have ka := ka.below bq
              have kb := kb.below bq
              have B := B.trans (bq.mono B.size)
              clear bq
              clear ka_0 ka_1 ka_2 ka_l kb_0 kb_1 kb_2 kb_l
              obtain ⟨ka_0, ka_1, ka_2⟩ := block3 ka
              have ka_l := ka.lt
              obtain ⟨kb_0, kb_1, kb_2⟩ := block3 kb
              have kb_l := kb.lt
              go_wp2_with fail
              go_ret
              exact ⟨rfl, B⟩
            · have hys := hy.sign.1
              rw [if_neg (by rw [hys]; simp), Int.add_zero] at hb2
              subst hb2
              have Hm2 := Lib.hid hm2
              have Hys := Lib.hid (show 0 ≤ y.num from Int.not_lt.1 (of_decide_eq_false hys))
              clear hm2 hys
              have HC := Lib.hid (cmp_rat (.agg #[.bool false, .slice ao1 an1 ac1, .slice ao2 an2 ac2]) (.agg #[.bool false, .slice ao3 an3 ac3, .slice ao4 an4 ac4]) x y _ hx hy)
              go_wp2_with fail
              refine HC.out.mono ?_
              rintro e W52 ⟨hk, bq⟩
              clear HC
              have hx := hx.below bq
              have hy := hy.below bq
              have ka := ka.below bq
              have kb := kb.below bq
              have B := B.trans (bq.mono B.size)
              clear bq
              clear ka_0 ka_1 ka_2 ka_l kb_0 kb_1 kb_2 kb_l
              obtain ⟨ka_0, ka_1, ka_2⟩ := block3 ka
              have ka_l := ka.lt
              obtain ⟨kb_0, kb_1, kb_2⟩ := block3 kb
              have kb_l := kb.lt
              rcases hk with ⟨-, rfl⟩ | ⟨-, rfl⟩
              · skip
                have hmo := mag_mono (by decide) Hm1.out Hm2.out (den_pos x) (den_pos y)
                have hmo2 := mag_mono (by decide) Hm2.out Hm1.out (den_pos y) (den_pos x)
                have hw := ord_ways (Int.not_lt.2 Hxs.out) (Int.not_lt.2 Hys.out)
                have hfin : (ratSgn x y = -1 ∧ m1 ≤ m2) ∨ (ratSgn x y = 0 ∧ m1 = m2) ∨ (ratSgn x y = 1 ∧ m2 ≤ m1) := by
                  rcases hw with ⟨a, b⟩ | ⟨a, b⟩ | ⟨a, b⟩
                  · exact .inl ⟨a, hmo b⟩
                  · exact .inr (.inl ⟨a, Nat.le_antisymm (hmo (Nat.le_of_eq b)) (hmo2 (Nat.le_of_eq b.symm))⟩)
                  · exact .inr (.inr ⟨a, hmo2 b⟩)
                clear hmo hmo2 hw
                obtain ⟨n, hn⟩ : ∃ n, ratSgn x y = n := ⟨_, rfl⟩
                simp only [hn] at hfin ⊢
                clear hn
                rcases hfin with ⟨rfl, hmm⟩ | ⟨rfl, rfl⟩ | ⟨rfl, hmm⟩
                · have c1 : decide ((m2 : Int) < (m1 : Int)) = false := by rw [decide_eq_false_iff_not]; omega
                  have fa := ka.free 0
                  have hl1 := hx.sign.2.1.len
                  obtain ⟨_, _, _, elen, -, hz1, -, -⟩ := hl1
                  injection elen with e1_ e2_ e3_
                  rw [← e2_] at hz1
                  clear e1_ e2_ e3_
                  have kt := ka.set 0 (.bool true)
                  have hxt := hx
                  obtain ⟨hs1, q1, q2⟩ := hx.sign
                  have nlT : NoLimb #[.bool false, .slice ao1 an1 ac1, .slice ao2 an2 ac2] := noLimb3 (fun _ h => by cases h) (fun _ h => by cases h)
                  have ht0 : RatN (W52.setCell ⟨w.heap.size, 0, none⟩ (.bool true)) (.agg #[.bool false, .slice ao1 an1 ac1, .slice ao2 an2 ac2]) x := ⟨_, _, by rw [hs1], q1.set_other ka nlT 0 _, q2.set_other ka nlT 0 _⟩
                  have BT := B.setCell (p := ⟨w.heap.size, 0, none⟩) (Nat.le_refl _) (.bool true)
                  simp at kt
                  clear hxt hs1 q1 q2 nlT
                  by_cases hx0 : x.num.natAbs = 0
                  · skip
                    obtain rfl : an1 = 0 := hz1.2 (by omega)
                    have HC := Lib.hid (bits_badr (.agg #[.bool true, .slice ao1 0 ac1, .slice ao2 an2 ac2]) 32 _ (by decide) (by decide) (ht0.none hx0))
                    clear hz1 ht0 hx0
                    go_wp2_with fail
                    refine HC.out.mono ?_
                    rintro e W90 ⟨rfl, bq⟩
                    have kt := kt.below bq
                    have B := BT.trans (bq.mono BT.size)
                    clear bq BT HC fa ka_0 ka_1 ka_2 ka_l kb_0 kb_1 kb_2 kb_l
                    obtain ⟨kt_0, kt_1, kt_2⟩ := block3 kt
                    have HC := Lib.hid (alive3 W90)
                    go_wp2_with fail
                    refine HC.out.mono ?_
                    rintro e W91 ⟨rfl, bq⟩
                    have kt := kt.below bq
                    have B := B.trans (bq.mono B.size)
                    clear kt_0 kt_1 kt_2 bq HC
                    obtain ⟨kt_0, kt_1, kt_2⟩ := block3 kt
                    go_wp2_with fail
                    go_ret
                    exact ⟨rfl, B⟩
                  · skip
                    have HC := Lib.hid (bits32_res (.agg #[.bool true, .slice ao1 an1 ac1, .slice ao2 an2 ac2]) (-x) _ (ht0.turned hx0))
                    clear hz1 ht0
                    go_wp2_with fail
                    refine HC.out.mono ?_
                    rintro e W90 ⟨⟨b3, ex3, k3, rfl, hr3⟩, bq⟩
                    obtain ⟨rfl, hb3⟩ := turned_res Hm1.out hx0 (Int.not_lt.2 Hxs.out) hr3
                    have B := BT.trans (bq.mono BT.size)
                    clear bq BT HC fa kt hr3 hx0 ka_0 ka_1 ka_2 ka_l kb_0 kb_1 kb_2 kb_l
                    have hlt : (m1 : Int) < 2147483648 := by
                      rcases Hm1.out with ⟨_, h⟩ | ⟨_, h, _⟩
                      · omega
                      · omega
                    by_cases hm0 : m1 = 0
                    · subst hm0
                      rw [if_neg (by simp)] at hb3
                      have hb4 : b3 = 0 := by omega
                      subst hb4
                      have HC := Lib.hid (alive3 W90)
                      clear hb3 hlt
                      go_wp2_with fail
                      refine HC.out.mono ?_
                      rintro e W91 ⟨rfl, bq⟩
                      have B := B.trans (bq.mono B.size)
                      clear bq HC
                      go_wp2_with fail
                      go_ret
                      exact ⟨rfl, B⟩
                    · rw [if_pos hm0] at hb3
                      have hz9 : (((m1 : Nat) : Int) == 0) = false := by rw [beq_eq_false_iff_ne]; omega
                      have hor := or_31 (x := (m1 : Int)) (by omega) hlt
                      rw [← hb3] at hor
                      have HC := Lib.hid (alive3 W90)
                      clear hb3 hm0
                      go_wp2_with fail
                      refine HC.out.mono ?_
                      rintro e W91 ⟨rfl, bq⟩
                      have B := B.trans (bq.mono B.size)
                      clear bq HC
                      have HC := Lib.hid (high32 W91)
                      go_wp2_with fail
                      refine HC.out.mono ?_
                      rintro e w' ⟨rfl, rfl⟩
                      clear HC
                      go_wp2_with fail
                      go_ret
                      exact ⟨rfl, B⟩
                · have c1 : (((m1 : Nat) : Int) != ((m1 : Nat) : Int)) = false := by simp
                  have fa := ka.free 0
                  have hl1 := hx.sign.2.1.len
                  obtain ⟨_, _, _, elen, -, hz1, -, -⟩ := hl1
                  injection elen with e1_ e2_ e3_
                  rw [← e2_] at hz1
                  clear e1_ e2_ e3_
                  have kt := ka.set 0 (.bool true)
                  have hxt := hx
                  obtain ⟨hs1, q1, q2⟩ := hx.sign
                  have nlT : NoLimb #[.bool false, .slice ao1 an1 ac1, .slice ao2 an2 ac2] := noLimb3 (fun _ h => by cases h) (fun _ h => by cases h)
                  have ht0 : RatN (W52.setCell ⟨w.heap.size, 0, none⟩ (.bool true)) (.agg #[.bool false, .slice ao1 an1 ac1, .slice ao2 an2 ac2]) x := ⟨_, _, by rw [hs1], q1.set_other ka nlT 0 _, q2.set_other ka nlT 0 _⟩
                  have BT := B.setCell (p := ⟨w.heap.size, 0, none⟩) (Nat.le_refl _) (.bool true)
                  simp at kt
                  clear hxt hs1 q1 q2 nlT
                  by_cases hx0 : x.num.natAbs = 0
                  · skip
                    obtain rfl : an1 = 0 := hz1.2 (by omega)
                    have HC := Lib.hid (bits_badr (.agg #[.bool true, .slice ao1 0 ac1, .slice ao2 an2 ac2]) 32 _ (by decide) (by decide) (ht0.none hx0))
                    clear hz1 ht0 hx0
                    go_wp2_with fail
                    refine HC.out.mono ?_
                    rintro e W90 ⟨rfl, bq⟩
                    have kt := kt.below bq
                    have B := BT.trans (bq.mono BT.size)
                    clear bq BT HC fa ka_0 ka_1 ka_2 ka_l kb_0 kb_1 kb_2 kb_l
                    obtain ⟨kt_0, kt_1, kt_2⟩ := block3 kt
                    have HC := Lib.hid (alive3 W90)
                    go_wp2_with fail
                    refine HC.out.mono ?_
                    rintro e W91 ⟨rfl, bq⟩
                    have kt := kt.below bq
                    have B := B.trans (bq.mono B.size)
                    clear kt_0 kt_1 kt_2 bq HC
                    obtain ⟨kt_0, kt_1, kt_2⟩ := block3 kt
                    go_wp2_with fail
                    go_ret
                    exact ⟨rfl, B⟩
                  · skip
                    have HC := Lib.hid (bits32_res (.agg #[.bool true, .slice ao1 an1 ac1, .slice ao2 an2 ac2]) (-x) _ (ht0.turned hx0))
                    clear hz1 ht0
                    go_wp2_with fail
                    refine HC.out.mono ?_
                    rintro e W90 ⟨⟨b3, ex3, k3, rfl, hr3⟩, bq⟩
                    obtain ⟨rfl, hb3⟩ := turned_res Hm1.out hx0 (Int.not_lt.2 Hxs.out) hr3
                    have B := BT.trans (bq.mono BT.size)
                    clear bq BT HC fa kt hr3 hx0 ka_0 ka_1 ka_2 ka_l kb_0 kb_1 kb_2 kb_l
                    have hlt : (m1 : Int) < 2147483648 := by
                      rcases Hm1.out with ⟨_, h⟩ | ⟨_, h, _⟩
                      · omega
                      · omega
                    by_cases hm0 : m1 = 0
                    · subst hm0
                      rw [if_neg (by simp)] at hb3
                      have hb4 : b3 = 0 := by omega
                      subst hb4
                      have HC := Lib.hid (alive3 W90)
                      clear hb3 hlt
                      go_wp2_with fail
                      refine HC.out.mono ?_
                      rintro e W91 ⟨rfl, bq⟩
                      have B := B.trans (bq.mono B.size)
                      clear bq HC
                      go_wp2_with fail
                      go_ret
                      exact ⟨rfl, B⟩
                    · rw [if_pos hm0] at hb3
                      have hz9 : (((m1 : Nat) : Int) == 0) = false := by rw [beq_eq_false_iff_ne]; omega
                      have hor := or_31 (x := (m1 : Int)) (by omega) hlt
                      rw [← hb3] at hor
                      have HC := Lib.hid (alive3 W90)
                      clear hb3 hm0
                      go_wp2_with fail
                      refine HC.out.mono ?_
                      rintro e W91 ⟨rfl, bq⟩
                      have B := B.trans (bq.mono B.size)
                      clear bq HC
                      have HC := Lib.hid (high32 W91)
                      go_wp2_with fail
                      refine HC.out.mono ?_
                      rintro e w' ⟨rfl, rfl⟩
                      clear HC
                      go_wp2_with fail
                      go_ret
                      exact ⟨rfl, B⟩
                · have c1 : decide ((m1 : Int) < (m2 : Int)) = false := by rw [decide_eq_false_iff_not]; omega
                  have fa := ka.free 0
                  have hl1 := hx.sign.2.1.len
                  obtain ⟨_, _, _, elen, -, hz1, -, -⟩ := hl1
                  injection elen with e1_ e2_ e3_
                  rw [← e2_] at hz1
                  clear e1_ e2_ e3_
                  have kt := ka.set 0 (.bool true)
                  have hxt := hx
                  obtain ⟨hs1, q1, q2⟩ := hx.sign
                  have nlT : NoLimb #[.bool false, .slice ao1 an1 ac1, .slice ao2 an2 ac2] := noLimb3 (fun _ h => by cases h) (fun _ h => by cases h)
                  have ht0 : RatN (W52.setCell ⟨w.heap.size, 0, none⟩ (.bool true)) (.agg #[.bool false, .slice ao1 an1 ac1, .slice ao2 an2 ac2]) x := ⟨_, _, by rw [hs1], q1.set_other ka nlT 0 _, q2.set_other ka nlT 0 _⟩
                  have BT := B.setCell (p := ⟨w.heap.size, 0, none⟩) (Nat.le_refl _) (.bool true)
                  simp at kt
                  clear hxt hs1 q1 q2 nlT
                  by_cases hx0 : x.num.natAbs = 0
                  · skip
                    obtain rfl : an1 = 0 := hz1.2 (by omega)
                    have HC := Lib.hid (bits_badr (.agg #[.bool true, .slice ao1 0 ac1, .slice ao2 an2 ac2]) 32 _ (by decide) (by decide) (ht0.none hx0))
                    clear hz1 ht0 hx0
                    go_wp2_with fail
                    refine HC.out.mono ?_
                    rintro e W90 ⟨rfl, bq⟩
                    have kt := kt.below bq
                    have B := BT.trans (bq.mono BT.size)
                    clear bq BT HC fa ka_0 ka_1 ka_2 ka_l kb_0 kb_1 kb_2 kb_l
                    obtain ⟨kt_0, kt_1, kt_2⟩ := block3 kt
                    have HC := Lib.hid (alive3 W90)
                    go_wp2_with fail
                    refine HC.out.mono ?_
                    rintro e W91 ⟨rfl, bq⟩
                    have kt := kt.below bq
                    have B := B.trans (bq.mono B.size)
                    clear kt_0 kt_1 kt_2 bq HC
                    obtain ⟨kt_0, kt_1, kt_2⟩ := block3 kt
                    go_wp2_with fail
                    go_ret
                    exact ⟨rfl, B⟩
                  · skip
                    have HC := Lib.hid (bits32_res (.agg #[.bool true, .slice ao1 an1 ac1, .slice ao2 an2 ac2]) (-x) _ (ht0.turned hx0))
                    clear hz1 ht0
                    go_wp2_with fail
                    refine HC.out.mono ?_
                    rintro e W90 ⟨⟨b3, ex3, k3, rfl, hr3⟩, bq⟩
                    obtain ⟨rfl, hb3⟩ := turned_res Hm1.out hx0 (Int.not_lt.2 Hxs.out) hr3
                    have B := BT.trans (bq.mono BT.size)
                    clear bq BT HC fa kt hr3 hx0 ka_0 ka_1 ka_2 ka_l kb_0 kb_1 kb_2 kb_l
                    have hlt : (m1 : Int) < 2147483648 := by
                      rcases Hm1.out with ⟨_, h⟩ | ⟨_, h, _⟩
                      · omega
                      · omega
                    by_cases hm0 : m1 = 0
                    · subst hm0
                      rw [if_neg (by simp)] at hb3
                      have hb4 : b3 = 0 := by omega
                      subst hb4
                      have HC := Lib.hid (alive3 W90)
                      clear hb3 hlt
                      go_wp2_with fail
                      refine HC.out.mono ?_
                      rintro e W91 ⟨rfl, bq⟩
                      have B := B.trans (bq.mono B.size)
                      clear bq HC
                      go_wp2_with fail
                      go_ret
                      exact ⟨rfl, B⟩
                    · rw [if_pos hm0] at hb3
                      have hz9 : (((m1 : Nat) : Int) == 0) = false := by rw [beq_eq_false_iff_ne]; omega
                      have hor := or_31 (x := (m1 : Int)) (by omega) hlt
                      rw [← hb3] at hor
                      have HC := Lib.hid (alive3 W90)
                      clear hb3 hm0
                      go_wp2_with fail
                      refine HC.out.mono ?_
                      rintro e W91 ⟨rfl, bq⟩
                      have B := B.trans (bq.mono B.size)
                      clear bq HC
                      have HC := Lib.hid (high32 W91)
                      go_wp2_with fail
                      refine HC.out.mono ?_
                      rintro e w' ⟨rfl, rfl⟩
                      clear HC
                      go_wp2_with fail
                      go_ret
                      exact ⟨rfl, B⟩
              · skip
                have HC := Lib.hid (alive3 W52)
                go_wp2_with fail
                refine HC.out.mono ?_
                rintro e W53 ⟨rfl, bq⟩
                clear HC
                have hx := hx.below bq
                have hy := hy.below bq
                have ka := ka.below bq
                have kb := kb.below bq
                have B := B.trans (bq.mono B.size)
                clear bq
                clear ka_0 ka_1 ka_2 ka_l kb_0 kb_1 kb_2 kb_l
                obtain ⟨ka_0, ka_1, ka_2⟩ := block3 ka
                have ka_l := ka.lt
                obtain ⟨kb_0, kb_1, kb_2⟩ := block3 kb
                have kb_l := kb.lt
                go_wp2_with fail
                go_ret
                exact ⟨rfl, B⟩
          · clear HY2
            have hby := hby.below bV
            have HC := Lib.hid (bits_badr (.agg #[.bool false, .slice ao3 an3 ac3, .slice ao4 an4 ac4]) 32 _ (by decide) (by decide) hby)
            go_wp2_with fail
            refine HC.out.mono ?_
            rintro e W61 ⟨rfl, bq⟩
            clear HC
            have hx := hx.below bq
            have hB2 := hB2.below bq
            have hby := hby.below bq
            have ka := ka.below bq
            have kb := kb.below bq
            have B := B.trans (bq.mono B.size)
            clear bq
            clear ka_0 ka_1 ka_2 ka_l kb_0 kb_1 kb_2 kb_l
            obtain ⟨ka_0, ka_1, ka_2⟩ := block3 ka
            have ka_l := ka.lt
            obtain ⟨kb_0, kb_1, kb_2⟩ := block3 kb
            have kb_l := kb.lt
            have HC := Lib.hid (cmp_form (.agg #[.bool false, .slice ao1 an1 ac1, .slice ao2 an2 ac2]) (.agg #[.bool false, .slice ao3 an3 ac3, .slice ao4 an4 ac4]) _ (.inl ⟨x, hx⟩) hB2)
            go_wp2_with fail
            refine HC.out.mono ?_
            rintro e W62 ⟨⟨n, g, rfl⟩, bq⟩
            clear HC
            have hx := hx.below bq
            have hB2 := hB2.below bq
            have hby := hby.below bq
            have ka := ka.below bq
            have kb := kb.below bq
            have B := B.trans (bq.mono B.size)
            clear bq
            clear ka_0 ka_1 ka_2 ka_l kb_0 kb_1 kb_2 kb_l
            obtain ⟨ka_0, ka_1, ka_2⟩ := block3 ka
            have ka_l := ka.lt
            obtain ⟨kb_0, kb_1, kb_2⟩ := block3 kb
            have kb_l := kb.lt
            have HC := Lib.hid (alive3 W62)
            go_wp2_with fail
            refine HC.out.mono ?_
            rintro e W63 ⟨rfl, bq⟩
            clear HC
            have hx := hx.below bq
            have hB2 := hB2.below bq
            have hby := hby.below bq
            have ka := ka.below bq
            have kb := kb.below bq
            have B := B.trans (bq.mono B.size)
            clear bq
            clear ka_0 ka_1 ka_2 ka_l kb_0 kb_1 kb_2 kb_l
            obtain ⟨ka_0, ka_1, ka_2⟩ := block3 ka
            have ka_l := ka.lt
            obtain ⟨kb_0, kb_1, kb_2⟩ := block3 kb
            have kb_l := kb.lt
            go_wp2_with fail
            go_ret
            exact ⟨rfl, B⟩
      · have hA : AnyR V0 (.agg #[.bool false, .slice ao1 an1 ac1, .slice ao2 an2 ac2]) := .inr hbx
        clear HX HY
        obtain ⟨ka_0, ka_1, ka_2⟩ := block3 ka
        have ka_l := ka.lt
        obtain ⟨kb_0, kb_1, kb_2⟩ := block3 kb
        have kb_l := kb.lt
        have HC := Lib.hid (bits_badr (.agg #[.bool false, .slice ao1 an1 ac1, .slice ao2 an2 ac2]) 32 _ (by decide) (by decide) hbx)
        refine HC.out.mono ?_
        rintro e W1 ⟨rfl, bq⟩
        clear HC
        have bV := bq
        have hA := hA.below bq
        have hB2 := hB2.below bq
        have hbx := hbx.below bq
        have ka := ka.below bq
        have kb := kb.below bq
        have B := B.trans (bq.mono B.size)
        clear bq
        clear ka_0 ka_1 ka_2 ka_l kb_0 kb_1 kb_2 kb_l
        obtain ⟨ka_0, ka_1, ka_2⟩ := block3 ka
        have ka_l := ka.lt
        obtain ⟨kb_0, kb_1, kb_2⟩ := block3 kb
        have kb_l := kb.lt
        clear hbx
        have HC := Lib.hid (bits_form (.agg #[.bool false, .slice ao3 an3 ac3, .slice ao4 an4 ac4]) 32 _ (by decide) hB2)
        go_wp2_with fail
        refine HC.out.mono ?_
        rintro e W2 ⟨⟨b2, ex2, k2, rfl⟩, bq⟩
        clear HC
        have hA := hA.below bq
        have hB2 := hB2.below bq
        have ka := ka.below bq
        have kb := kb.below bq
        have B := B.trans (bq.mono B.size)
        clear bq
        clear ka_0 ka_1 ka_2 ka_l kb_0 kb_1 kb_2 kb_l
        obtain ⟨ka_0, ka_1, ka_2⟩ := block3 ka
        have ka_l := ka.lt
        obtain ⟨kb_0, kb_1, kb_2⟩ := block3 kb
        have kb_l := kb.lt
        have HC := Lib.hid (cmp_form (.agg #[.bool false, .slice ao1 an1 ac1, .slice ao2 an2 ac2]) (.agg #[.bool false, .slice ao3 an3 ac3, .slice ao4 an4 ac4]) _ hA hB2)
        go_wp2_with fail
        refine HC.out.mono ?_
        rintro e W3 ⟨⟨n, g, rfl⟩, bq⟩
        clear HC
        have hA := hA.below bq
        have hB2 := hB2.below bq
        have ka := ka.below bq
        have kb := kb.below bq
        have B := B.trans (bq.mono B.size)
        clear bq
        clear ka_0 ka_1 ka_2 ka_l kb_0 kb_1 kb_2 kb_l
        obtain ⟨ka_0, ka_1, ka_2⟩ := block3 ka
        have ka_l := ka.lt
        obtain ⟨kb_0, kb_1, kb_2⟩ := block3 kb
        have kb_l := kb.lt
        clear hA hB2
        have HC := Lib.hid (alive3 W3)
        go_wp2_with fail
        refine HC.out.mono ?_
        rintro e W4 ⟨rfl, bq⟩
        clear HC
        have ka := ka.below bq
        have kb := kb.below bq
        have B := B.trans (bq.mono B.size)
        clear bq
        clear ka_0 ka_1 ka_2 ka_l kb_0 kb_1 kb_2 kb_l
        obtain ⟨ka_0, ka_1, ka_2⟩ := block3 ka
        have ka_l := ka.lt
        obtain ⟨kb_0, kb_1, kb_2⟩ := block3 kb
        have kb_l := kb.lt
        go_wp2_with fail
        go_ret
        exact ⟨rfl, B⟩
    · by_cases h64 : sz = 64
      · subst h64
        rcases HX.out with ⟨x, hx⟩ | hbx
        · have HY2 := HY
          clear HX
          obtain ⟨ka_0, ka_1, ka_2⟩ := block3 ka
          have ka_l := ka.lt
          obtain ⟨kb_0, kb_1, kb_2⟩ := block3 kb
          have kb_l := kb.lt
          have HC := Lib.hid (bits64_res (.agg #[.bool false, .slice ao1 an1 ac1, .slice ao2 an2 ac2]) x _ hx)
          refine HC.out.mono ?_
          rintro e W1 ⟨⟨b1, ex1, k1, rfl, hr1⟩, bq⟩
          clear HC
          have bV := bq
          have hx := hx.below bq
          have hB2 := hB2.below bq
          have ka := ka.below bq
          have kb := kb.below bq
          have B := B.trans (bq.mono B.size)
          clear bq
          clear ka_0 ka_1 ka_2 ka_l kb_0 kb_1 kb_2 kb_l
          obtain ⟨ka_0, ka_1, ka_2⟩ := block3 ka
          have ka_l := ka.lt
          obtain ⟨kb_0, kb_1, kb_2⟩ := block3 kb
          have kb_l := kb.lt
          rcases hr1 with ⟨rfl, -⟩ | ⟨rfl, m1, hm1, hb1⟩
          · skip
            have HC := Lib.hid (bits_form (.agg #[.bool false, .slice ao3 an3 ac3, .slice ao4 an4 ac4]) 64 _ (by decide) hB2)
            go_wp2_with fail
            refine HC.out.mono ?_
            rintro e W2 ⟨⟨b2, ex2, k2, rfl⟩, bq⟩
            clear HC
            have hx := hx.below bq
            have hB2 := hB2.below bq
            have ka := ka.below bq
            have kb := kb.below bq
            have B := B.trans (bq.mono B.size)
            clear bq
            clear ka_0 ka_1 ka_2 ka_l kb_0 kb_1 kb_2 kb_l
            obtain ⟨ka_0, ka_1, ka_2⟩ := block3 ka
            have ka_l := ka.lt
            obtain ⟨kb_0, kb_1, kb_2⟩ := block3 kb
            have kb_l := kb.lt
            have HC := Lib.hid (cmp_form (.agg #[.bool false, .slice ao1 an1 ac1, .slice ao2 an2 ac2]) (.agg #[.bool false, .slice ao3 an3 ac3, .slice ao4 an4 ac4]) _ (.inl ⟨x, hx⟩) hB2)
            go_wp2_with fail
            refine HC.out.mono ?_
            rintro e W3 ⟨⟨n, g, rfl⟩, bq⟩
            clear HC
            have hx := hx.below bq
            have hB2 := hB2.below bq
            have ka := ka.below bq
            have kb := kb.below bq
            have B := B.trans (bq.mono B.size)
            clear bq
            clear ka_0 ka_1 ka_2 ka_l kb_0 kb_1 kb_2 kb_l
            obtain ⟨ka_0, ka_1, ka_2⟩ := block3 ka
            have ka_l := ka.lt
            obtain ⟨kb_0, kb_1, kb_2⟩ := block3 kb
            have kb_l := kb.lt
            have HC := Lib.hid (alive3 W3)
            go_wp2_with fail
            refine HC.out.mono ?_
            rintro e W4 ⟨rfl, bq⟩
            clear HC
            have hx := hx.below bq
            have hB2 := hB2.below bq
            have ka := ka.below bq
            have kb := kb.below bq
            have B := B.trans (bq.mono B.size)
            clear bq
            clear ka_0 ka_1 ka_2 ka_l kb_0 kb_1 kb_2 kb_l
            obtain ⟨ka_0, ka_1, ka_2⟩ := block3 ka
            have ka_l := ka.lt
            obtain ⟨kb_0, kb_1, kb_2⟩ := block3 kb
            have kb_l := kb.lt
            go_wp2_with fail
            go_ret
            exact ⟨rfl, B⟩
          · have hxs := hx.sign.1
            rw [if_neg (by rw [hxs]; simp), Int.add_zero] at hb1
            subst hb1
            have Hm1 := Lib.hid hm1
            have Hxs := Lib.hid (show 0 ≤ x.num from Int.not_lt.1 (of_decide_eq_false hxs))
            clear hm1 hxs
            rcases HY2.out with ⟨y, hy⟩ | hby
            · clear HY2
              have hy := hy.below bV
              clear hB2
              have HC := Lib.hid (bits64_res (.agg #[.bool false, .slice ao3 an3 ac3, .slice ao4 an4 ac4]) y _ hy)
              go_wp2_with fail
              refine HC.out.mono ?_
              rintro e W51 ⟨⟨b2, ex2, k2, rfl, hr2⟩, bq⟩
              clear HC
              have hx := hx.below bq
              have hy := hy.below bq
              have ka := ka.below bq
              have kb := kb.below bq
              have B := B.trans (bq.mono B.size)
              clear bq
              clear ka_0 ka_1 ka_2 ka_l kb_0 kb_1 kb_2 kb_l
              obtain ⟨ka_0, ka_1, ka_2⟩ := block3 ka
              have ka_l := ka.lt
              obtain ⟨kb_0, kb_1, kb_2⟩ := block3 kb
              have kb_l := kb.lt
              rcases hr2 with ⟨rfl, -⟩ | ⟨rfl, m2, hm2, hb2⟩
              · skip
                have HC := Lib.hid (cmp_form (.agg #[.bool false, .slice ao1 an1 ac1, .slice ao2 an2 ac2]) (.agg #[.bool false, .slice ao3 an3 ac3, .slice ao4 an4 ac4]) _ (.inl ⟨x, hx⟩) (.inl ⟨y, hy⟩))
                go_wp2_with fail
                refine HC.out.mono ?_
                rintro e W52 ⟨⟨n, g, rfl⟩, bq⟩
                clear HC
                have hx := hx.below bq
                have hy := hy.below bq
                have ka := ka.below bq
                have kb := kb.below bq
                have B := B.trans (bq.mono B.size)
                clear bq
                clear ka_0 ka_1 ka_2 ka_l kb_0 kb_1 kb_2 kb_l
                obtain ⟨ka_0, ka_1, ka_2⟩ := block3 ka
                have ka_l := ka.lt
                obtain ⟨kb_0, kb_1, kb_2⟩ := block3 kb
                have kb_l := kb.lt
                have HC := Lib.hid (alive3 W52)
                go_wp2_with fail
                refine HC.out.mono ?_
                rintro e W53 ⟨rfl, bq⟩
                clear HC
                have hx := hx.below bq
                have hy := hy.below bq
                have ka := ka.below bq
                have kb := kb.below bq
                have B := B.trans (bq.mono B.size)
                clear bq
                clear ka_0 ka_1 ka_2 ka_l kb_0 kb_1 kb_2 kb_l
                obtain ⟨ka_0, ka_1, ka_2⟩ := block3 ka
                have ka_l := ka.lt
                obtain ⟨kb_0, kb_1, kb_2⟩ := block3 kb
                have kb_l := kb.lt
                go_wp2_with fail
                go_ret
                exact ⟨rfl, B⟩
              · have hys := hy.sign.1
                rw [if_neg (by rw [hys]; simp), Int.add_zero] at hb2
                subst hb2
                have Hm2 := Lib.hid hm2
                have Hys := Lib.hid (show 0 ≤ y.num from Int.not_lt.1 (of_decide_eq_false hys))
                clear hm2 hys
                have HC := Lib.hid (cmp_rat (.agg #[.bool false, .slice ao1 an1 ac1, .slice ao2 an2 ac2]) (.agg #[.bool false, .slice ao3 an3 ac3, .slice ao4 an4 ac4]) x y _ hx hy)
                go_wp2_with fail
                refine HC.out.mono ?_
                rintro e W52 ⟨hk, bq⟩
                clear HC
                have hx := hx.below bq
                have hy := hy.below bq
                have ka := ka.below bq
                have kb := kb.below bq
                have B := B.trans (bq.mono B.size)
                clear bq
                clear ka_0 ka_1 ka_2 ka_l kb_0 kb_1 kb_2 kb_l
                obtain ⟨ka_0, ka_1, ka_2⟩ := block3 ka
                have ka_l := ka.lt
                obtain ⟨kb_0, kb_1, kb_2⟩ := block3 kb
                have kb_l := kb.lt
                rcases hk with ⟨-, rfl⟩ | ⟨-, rfl⟩
                · skip
                  have hmo := mag_mono (by decide) Hm1.out Hm2.out (den_pos x) (den_pos y)
                  have hmo2 := mag_mono (by decide) Hm2.out Hm1.out (den_pos y) (den_pos x)
                  have hw := ord_ways (Int.not_lt.2 Hxs.out) (Int.not_lt.2 Hys.out)
                  have hfin : (ratSgn x y = -1 ∧ m1 ≤ m2) ∨ (ratSgn x y = 0 ∧ m1 = m2) ∨ (ratSgn x y = 1 ∧ m2 ≤ m1) := by
                    rcases hw with ⟨a, b⟩ | ⟨a, b⟩ | ⟨a, b⟩
                    · exact .inl ⟨a, hmo b⟩
                    · exact .inr (.inl ⟨a, Nat.le_antisymm (hmo (Nat.le_of_eq b)) (hmo2 (Nat.le_of_eq b.symm))⟩)
                    · exact .inr (.inr ⟨a, hmo2 b⟩)
                  clear hmo hmo2 hw
                  obtain ⟨n, hn⟩ : ∃ n, ratSgn x y = n := ⟨_, rfl⟩
                  simp only [hn] at hfin ⊢
                  clear hn
                  rcases hfin with ⟨rfl, hmm⟩ | ⟨rfl, rfl⟩ | ⟨rfl, hmm⟩
                  · have c1 : decide ((m2 : Int) < (m1 : Int)) = false := by rw [decide_eq_false_iff_not]; omega
                    have fa := ka.free 0
                    have hl1 := hx.sign.2.1.len
                    obtain ⟨_, _, _, elen, -, hz1, -, -⟩ := hl1
                    injection elen with e1_ e2_ e3_
                    rw [← e2_] at hz1
                    clear e1_ e2_ e3_
                    have kt := ka.set 0 (.bool true)
                    have hxt := hx
                    obtain ⟨hs1, q1, q2⟩ := hx.sign
                    have nlT : NoLimb #[.bool false, .slice ao1 an1 ac1, .slice ao2 an2 ac2] := noLimb3 (fun _ h => by cases h) (fun _ h => by cases h)
                    have ht0 : RatN (W52.setCell ⟨w.heap.size, 0, none⟩ (.bool true)) (.agg #[.bool false, .slice ao1 an1 ac1, .slice ao2 an2 ac2]) x := ⟨_, _, by rw [hs1], q1.set_other ka nlT 0 _, q2.set_other ka nlT 0 _⟩
                    have BT := B.setCell (p := ⟨w.heap.size, 0, none⟩) (Nat.le_refl _) (.bool true)
                    simp at kt
                    clear hxt hs1 q1 q2 nlT
                    by_cases hx0 : x.num.natAbs = 0
                    · skip
                      obtain rfl : an1 = 0 := hz1.2 (by omega)
                      have HC := Lib.hid (bits_badr (.agg #[.bool true, .slice ao1 0 ac1, .slice ao2 an2 ac2]) 64 _ (by decide) (by decide) (ht0.none hx0))
                      clear hz1 ht0 hx0
                      go_wp2_with fail
                      refine HC.out.mono ?_
                      rintro e W90 ⟨rfl, bq⟩
                      have kt := kt.below bq
                      have B := BT.trans (bq.mono BT.size)
                      clear bq BT HC fa ka_0 ka_1 ka_2 ka_l kb_0 kb_1 kb_2 kb_l
                      obtain ⟨kt_0, kt_1, kt_2⟩ := block3 kt
                      have HC := Lib.hid (alive3 W90)
                      go_wp2_with fail
                      refine HC.out.mono ?_
                      rintro e W91 ⟨rfl, bq⟩
                      have kt := kt.below bq
                      have B := B.trans (bq.mono B.size)
                      clear kt_0 kt_1 kt_2 bq HC
                      obtain ⟨kt_0, kt_1, kt_2⟩ := block3 kt
                      go_wp2_with fail
                      go_ret
                      exact ⟨rfl, B⟩
                    · skip
                      have HC := Lib.hid (bits64_res (.agg #[.bool true, .slice ao1 an1 ac1, .slice ao2 an2 ac2]) (-x) _ (ht0.turned hx0))
                      clear hz1 ht0
                      go_wp2_with fail
                      refine HC.out.mono ?_
                      rintro e W90 ⟨⟨b3, ex3, k3, rfl, hr3⟩, bq⟩
                      obtain ⟨rfl, hb3⟩ := turned_res Hm1.out hx0 (Int.not_lt.2 Hxs.out) hr3
                      have B := BT.trans (bq.mono BT.size)
                      clear bq BT HC fa kt hr3 hx0 ka_0 ka_1 ka_2 ka_l kb_0 kb_1 kb_2 kb_l
                      have hlt : (m1 : Int) < 9223372036854775808 := by
                        rcases Hm1.out with ⟨_, h⟩ | ⟨_, h, _⟩
                        · omega
                        · omega
                      by_cases hm0 : m1 = 0
                      · subst hm0
                        rw [if_neg (by simp)] at hb3
                        have hb4 : b3 = 0 := by omega
                        subst hb4
                        have HC := Lib.hid (alive3 W90)
                        clear hb3 hlt
                        go_wp2_with fail
                        refine HC.out.mono ?_
                        rintro e W91 ⟨rfl, bq⟩
                        have B := B.trans (bq.mono B.size)
                        clear bq HC
                        go_wp2_with fail
                        go_ret
                        exact ⟨rfl, B⟩
                      · rw [if_pos hm0] at hb3
                        have hz9 : (((m1 : Nat) : Int) == 0) = false := by rw [beq_eq_false_iff_ne]; omega
                        have hor := or_63 (x := (m1 : Int)) (by omega) hlt
                        rw [← hb3] at hor
                        have HC := Lib.hid (alive3 W90)
                        clear hb3 hm0
                        go_wp2_with fail
                        refine HC.out.mono ?_
                        rintro e W91 ⟨rfl, bq⟩
                        have B := B.trans (bq.mono B.size)
                        clear bq HC
                        have HC := Lib.hid (high64 W91)
                        go_wp2_with fail
                        refine HC.out.mono ?_
                        rintro e w' ⟨rfl, rfl⟩
                        clear HC
                        go_wp2_with fail
                        go_ret
                        exact ⟨rfl, B⟩
                  · have c1 : (((m1 : Nat) : Int) != ((m1 : Nat) : Int)) = false := by simp
                    have fa := ka.free 0
                    have hl1 := hx.sign.2.1.len
                    obtain ⟨_, _, _, elen, -, hz1, -, -⟩ := hl1
                    injection elen with e1_ e2_ e3_
                    rw [← e2_] at hz1
                    clear e1_ e2_ e3_
                    have kt := ka.set 0 (.bool true)
                    have hxt := hx
                    obtain ⟨hs1, q1, q2⟩ := hx.sign
                    have nlT : NoLimb #[.bool false, .slice ao1 an1 ac1, .slice ao2 an2 ac2] := noLimb3 (fun _ h => by cases h) (fun _ h => by cases h)
                    have ht0 : RatN (W52.setCell ⟨w.heap.size, 0, none⟩ (.bool true)) (.agg #[.bool false, .slice ao1 an1 ac1, .slice ao2 an2 ac2]) x := ⟨_, _, by rw [hs1], q1.set_other ka nlT 0 _, q2.set_other ka nlT 0 _⟩
                    have BT := B.setCell (p := ⟨w.heap.size, 0, none⟩) (Nat.le_refl _) (.bool true)
                    simp at kt
                    clear hxt hs1 q1 q2 nlT
                    by_cases hx0 : x.num.natAbs = 0
                    · skip
                      obtain rfl : an1 = 0 := hz1.2 (by omega)
                      have HC := Lib.hid (bits_badr (.agg #[.bool true, .slice ao1 0 ac1, .slice ao2 an2 ac2]) 64 _ (by decide) (by decide) (ht0.none hx0))
                      clear hz1 ht0 hx0
                      go_wp2_with fail
                      refine HC.out.mono ?_
                      rintro e W90 ⟨rfl, bq⟩
                      have kt := kt.below bq
                      have B := BT.trans (bq.mono BT.size)
                      clear bq BT HC fa ka_0 ka_1 ka_2 ka_l kb_0 kb_1 kb_2 kb_l
                      obtain ⟨kt_0, kt_1, kt_2⟩ := block3 kt
                      have HC := Lib.hid (alive3 W90)
                      go_wp2_with fail
                      refine HC.out.mono ?_
                      rintro e W91 ⟨rfl, bq⟩
                      have kt := kt.below bq
                      have B := B.trans (bq.mono B.size)
                      clear kt_0 kt_1 kt_2 bq HC
                      obtain ⟨kt_0, kt_1, kt_2⟩ := block3 kt
                      go_wp2_with fail
                      go_ret
                      exact ⟨rfl, B⟩
                    · skip
                      have HC := Lib.hid (bits64_res (.agg #[.bool true, .slice ao1 an1 ac1, .slice ao2 an2 ac2]) (-x) _ (ht0.turned hx0))
                      clear hz1 ht0
                      go_wp2_with fail
                      refine HC.out.mono ?_
                      rintro e W90 ⟨⟨b3, ex3, k3, rfl, hr3⟩, bq⟩
                      obtain ⟨rfl, hb3⟩ := turned_res Hm1.out hx0 (Int.not_lt.2 Hxs.out) hr3
                      have B := BT.trans (bq.mono BT.size)
                      clear bq BT HC fa kt hr3 hx0 ka_0 ka_1 ka_2 ka_l kb_0 kb_1 kb_2 kb_l
                      have hlt : (m1 : Int) < 9223372036854775808 := by
                        rcases Hm1.out with ⟨_, h⟩ | ⟨_, h, _⟩
                        · omega
                        · omega
                      by_cases hm0 : m1 = 0
                      · subst hm0
                        rw [if_neg (by simp)] at hb3
                        have hb4 : b3 = 0 := by omega
                        subst hb4
                        have HC := Lib.hid (alive3 W90)
                        clear hb3 hlt
                        go_wp2_with fail
                        refine HC.out.mono ?_
                        rintro e W91 ⟨rfl, bq⟩
                        have B := B.trans (bq.mono B.size)
                        clear bq HC
                        go_wp2_with fail
                        go_ret
                        exact ⟨rfl, B⟩
                      · rw [if_pos hm0] at hb3
                        have hz9 : (((m1 : Nat) : Int) == 0) = false := by rw [beq_eq_false_iff_ne]; omega
                        have hor := or_63 (x := (m1 : Int)) (by omega) hlt
                        rw [← hb3] at hor
                        have HC := Lib.hid (alive3 W90)
                        clear hb3 hm0
                        go_wp2_with fail
                        refine HC.out.mono ?_
                        rintro e W91 ⟨rfl, bq⟩
                        have B := B.trans (bq.mono B.size)
                        clear bq HC
                        have HC := Lib.hid (high64 W91)
                        go_wp2_with fail
                        refine HC.out.mono ?_
                        rintro e w' ⟨rfl, rfl⟩
                        clear HC
                        go_wp2_with fail
                        go_ret
                        exact ⟨rfl, B⟩
                  · have c1 : decide ((m1 : Int) < (m2 : Int)) = false := by rw [decide_eq_false_iff_not]; omega
                    have fa := ka.free 0
                    have hl1 := hx.sign.2.1.len
                    obtain ⟨_, _, _, elen, -, hz1, -, -⟩ := hl1
                    injection elen with e1_ e2_ e3_
                    rw [← e2_] at hz1
                    clear e1_ e2_ e3_
                    have kt := ka.set 0 (.bool true)
                    have hxt := hx
                    obtain ⟨hs1, q1, q2⟩ := hx.sign
                    have nlT : NoLimb #[.bool false, .slice ao1 an1 ac1, .slice ao2 an2 ac2] := noLimb3 (fun _ h => by cases h) (fun _ h => by cases h)
                    have ht0 : RatN (W52.setCell ⟨w.heap.size, 0, none⟩ (.bool true)) (.agg #[.bool false, .slice ao1 an1 ac1, .slice ao2 an2 ac2]) x := ⟨_, _, by rw [hs1], q1.set_other ka nlT 0 _, q2.set_other ka nlT 0 _⟩
                    have BT := B.setCell (p := ⟨w.heap.size, 0, none⟩) (Nat.le_refl _) (.bool true)
                    simp at kt
                    clear hxt hs1 q1 q2 nlT
                    by_cases hx0 : x.num.natAbs = 0
                    · skip
                      obtain rfl : an1 = 0 := hz1.2 (by omega)
                      have HC := Lib.hid (bits_badr (.agg #[.bool true, .slice ao1 0 ac1, .slice ao2 an2 ac2]) 64 _ (by decide) (by decide) (ht0.none hx0))
                      clear hz1 ht0 hx0
                      go_wp2_with fail
                      refine HC.out.mono ?_
                      rintro e W90 ⟨rfl, bq⟩
                      have kt := kt.below bq
                      have B := BT.trans (bq.mono BT.size)
                      clear bq BT HC fa ka_0 ka_1 ka_2 ka_l kb_0 kb_1 kb_2 kb_l
                      obtain ⟨kt_0, kt_1, kt_2⟩ := block3 kt
                      have HC := Lib.hid (alive3 W90)
                      go_wp2_with fail
                      refine HC.out.mono ?_
                      rintro e W91 ⟨rfl, bq⟩
                      have kt := kt.below bq
                      have B := B.trans (bq.mono B.size)
                      clear kt_0 kt_1 kt_2 bq HC
                      obtain ⟨kt_0, kt_1, kt_2⟩ := block3 kt
                      go_wp2_with fail
                      go_ret
                      exact ⟨rfl, B⟩
                    · skip
                      have HC := Lib.hid (bits64_res (.agg #[.bool true, .slice ao1 an1 ac1, .slice ao2 an2 ac2]) (-x) _ (ht0.turned hx0))
                      clear hz1 ht0
                      go_wp2_with fail
                      refine HC.out.mono ?_
                      rintro e W90 ⟨⟨b3, ex3, k3, rfl, hr3⟩, bq⟩
                      obtain ⟨rfl, hb3⟩ := turned_res Hm1.out hx0 (Int.not_lt.2 Hxs.out) hr3
                      have B := BT.trans (bq.mono BT.size)
                      clear bq BT HC fa kt hr3 hx0 ka_0 ka_1 ka_2 ka_l kb_0 kb_1 kb_2 kb_l
                      have hlt : (m1 : Int) < 9223372036854775808 := by
                        rcases Hm1.out with ⟨_, h⟩ | ⟨_, h, _⟩
                        · omega
                        · omega
                      by_cases hm0 : m1 = 0
                      · subst hm0
                        rw [if_neg (by simp)] at hb3
                        have hb4 : b3 = 0 := by omega
                        subst hb4
                        have HC := Lib.hid (alive3 W90)
                        clear hb3 hlt
                        go_wp2_with fail
                        refine HC.out.mono ?_
                        rintro e W91 ⟨rfl, bq⟩
                        have B := B.trans (bq.mono B.size)
                        clear bq HC
                        go_wp2_with fail
                        go_ret
                        exact ⟨rfl, B⟩
                      · rw [if_pos hm0] at hb3
                        have hz9 : (((m1 : Nat) : Int) == 0) = false := by rw [beq_eq_false_iff_ne]; omega
                        have hor := or_63 (x := (m1 : Int)) (by omega) hlt
                        rw [← hb3] at hor
                        have HC := Lib.hid (alive3 W90)
                        clear hb3 hm0
                        go_wp2_with fail
                        refine HC.out.mono ?_
                        rintro e W91 ⟨rfl, bq⟩
                        have B := B.trans (bq.mono B.size)
                        clear bq HC
                        have HC := Lib.hid (high64 W91)
                        go_wp2_with fail
                        refine HC.out.mono ?_
                        rintro e w' ⟨rfl, rfl⟩
                        clear HC
                        go_wp2_with fail
                        go_ret
                        exact ⟨rfl, B⟩
                · skip
                  have HC := Lib.hid (alive3 W52)
                  go_wp2_with fail
                  refine HC.out.mono ?_
                  rintro e W53 ⟨rfl, bq⟩
                  clear HC
                  have hx := hx.below bq
                  have hy := hy.below bq
                  have ka := ka.below bq
                  have kb := kb.below bq
                  have B := B.trans (bq.mono B.size)
                  clear bq
                  clear ka_0 ka_1 ka_2 ka_l kb_0 kb_1 kb_2 kb_l
                  obtain ⟨ka_0, ka_1, ka_2⟩ := block3 ka
                  have ka_l := ka.lt
                  obtain ⟨kb_0, kb_1, kb_2⟩ := block3 kb
                  have kb_l := kb.lt
                  go_wp2_with fail
                  go_ret
                  exact ⟨rfl, B⟩
            · clear HY2
              have hby := hby.below bV
              have HC := Lib.hid (bits_badr (.agg #[.bool false, .slice ao3 an3 ac3, .slice ao4 an4 ac4]) 64 _ (by decide) (by decide) hby)
              go_wp2_with fail
              refine HC.out.mono ?_
              rintro e W61 ⟨rfl, bq⟩
              clear HC
              have hx := hx.below bq
              have hB2 := hB2.below bq
              have hby := hby.below bq
              have ka := ka.below bq
              have kb := kb.below bq
              have B := B.trans (bq.mono B.size)
              clear bq
              clear ka_0 ka_1 ka_2 ka_l kb_0 kb_1 kb_2 kb_l
              obtain ⟨ka_0, ka_1, ka_2⟩ := block3 ka
              have ka_l := ka.lt
              obtain ⟨kb_0, kb_1, kb_2⟩ := block3 kb
              have kb_l := kb.lt
              have HC := Lib.hid (cmp_form (.agg #[.bool false, .slice ao1 an1 ac1, .slice ao2 an2 ac2]) (.agg #[.bool false, .slice ao3 an3 ac3, .slice ao4 an4 ac4]) _ (.inl ⟨x, hx⟩) hB2)
              go_wp2_with fail
              refine HC.out.mono ?_
              rintro e W62 ⟨⟨n, g, rfl⟩, bq⟩
              clear HC
              have hx := hx.below bq
              have hB2 := hB2.below bq
              have hby := hby.below bq
              have ka := ka.below bq
              have kb := kb.below bq
              have B := B.trans (bq.mono B.size)
              clear bq
              clear ka_0 ka_1 ka_2 ka_l kb_0 kb_1 kb_2 kb_l
              obtain ⟨ka_0, ka_1, ka_2⟩ := block3 ka
              have ka_l := ka.lt
              obtain ⟨kb_0, kb_1, kb_2⟩ := block3 kb
              have kb_l := kb.lt
              have HC := Lib.hid (alive3 W62)
              go_wp2_with fail
              refine HC.out.mono ?_
              rintro e W63 ⟨rfl, bq⟩
              clear HC
              have hx := hx.below bq
              have hB2 := hB2.below bq
              have hby := hby.below bq
              have ka := ka.below bq
              have kb := kb.below bq
              have B := B.trans (bq.mono B.size)
              clear bq
              clear ka_0 ka_1 ka_2 ka_l kb_0 kb_1 kb_2 kb_l
              obtain ⟨ka_0, ka_1, ka_2⟩ := block3 ka
              have ka_l := ka.lt
              obtain ⟨kb_0, kb_1, kb_2⟩ := block3 kb
              have kb_l := kb.lt
              go_wp2_with fail
              go_ret
              exact ⟨rfl, B⟩
        · have hA : AnyR V0 (.agg #[.bool false, .slice ao1 an1 ac1, .slice ao2 an2 ac2]) := .inr hbx
          clear HX HY
          obtain ⟨ka_0, ka_1, ka_2⟩ := block3 ka
          have ka_l := ka.lt
          obtain ⟨kb_0, kb_1, kb_2⟩ := block3 kb
          have kb_l := kb.lt
          have HC := Lib.hid (bits_badr (.agg #[.bool false, .slice ao1 an1 ac1, .slice ao2 an2 ac2]) 64 _ (by decide) (by decide) hbx)
          refine HC.out.mono ?_
          rintro e W1 ⟨rfl, bq⟩
          clear HC
          have bV := bq
          have hA := hA.below bq
          have hB2 := hB2.below bq
          have hbx := hbx.below bq
          have ka := ka.below bq
          have kb := kb.below bq
          have B := B.trans (bq.mono B.size)
          clear bq
          clear ka_0 ka_1 ka_2 ka_l kb_0 kb_1 kb_2 kb_l
          obtain ⟨ka_0, ka_1, ka_2⟩ := block3 ka
          have ka_l := ka.lt
          obtain ⟨kb_0, kb_1, kb_2⟩ := block3 kb
          have kb_l := kb.lt
          clear hbx
          have HC := Lib.hid (bits_form (.agg #[.bool false, .slice ao3 an3 ac3, .slice ao4 an4 ac4]) 64 _ (by decide) hB2)
          go_wp2_with fail
          refine HC.out.mono ?_
          rintro e W2 ⟨⟨b2, ex2, k2, rfl⟩, bq⟩
          clear HC
          have hA := hA.below bq
          have hB2 := hB2.below bq
          have ka := ka.below bq
          have kb := kb.below bq
          have B := B.trans (bq.mono B.size)
          clear bq
          clear ka_0 ka_1 ka_2 ka_l kb_0 kb_1 kb_2 kb_l
          obtain ⟨ka_0, ka_1, ka_2⟩ := block3 ka
          have ka_l := ka.lt
          obtain ⟨kb_0, kb_1, kb_2⟩ := block3 kb
          have kb_l := kb.lt
          have HC := Lib.hid (cmp_form (.agg #[.bool false, .slice ao1 an1 ac1, .slice ao2 an2 ac2]) (.agg #[.bool false, .slice ao3 an3 ac3, .slice ao4 an4 ac4]) _ hA hB2)
          go_wp2_with fail
          refine HC.out.mono ?_
          rintro e W3 ⟨⟨n, g, rfl⟩, bq⟩
          clear HC
          have hA := hA.below bq
          have hB2 := hB2.below bq
          have ka := ka.below bq
          have kb := kb.below bq
          have B := B.trans (bq.mono B.size)
          clear bq
          clear ka_0 ka_1 ka_2 ka_l kb_0 kb_1 kb_2 kb_l
          obtain ⟨ka_0, ka_1, ka_2⟩ := block3 ka
          have ka_l := ka.lt
          obtain ⟨kb_0, kb_1, kb_2⟩ := block3 kb
          have kb_l := kb.lt
          clear hA hB2
          have HC := Lib.hid (alive3 W3)
          go_wp2_with fail
          refine HC.out.mono ?_
          rintro e W4 ⟨rfl, bq⟩
          clear HC
          have ka := ka.below bq
          have kb := kb.below bq
          have B := B.trans (bq.mono B.size)
          clear bq
          clear ka_0 ka_1 ka_2 ka_l kb_0 kb_1 kb_2 kb_l
          obtain ⟨ka_0, ka_1, ka_2⟩ := block3 ka
          have ka_l := ka.lt
          obtain ⟨kb_0, kb_1, kb_2⟩ := block3 kb
          have kb_l := kb.lt
          go_wp2_with fail
          go_ret
          exact ⟨rfl, B⟩
      · have hA : AnyR V0 (.agg #[.bool false, .slice ao1 an1 ac1, .slice ao2 an2 ac2]) := HX.out
        clear HX HY
        obtain ⟨ka_0, ka_1, ka_2⟩ := block3 ka
        have ka_l := ka.lt
        obtain ⟨kb_0, kb_1, kb_2⟩ := block3 kb
        have kb_l := kb.lt
        have HC := Lib.hid (bits_none (.agg #[.bool false, .slice ao1 an1 ac1, .slice ao2 an2 ac2]) sz V0 Hsz.out h32 h64 hA.form)
        refine HC.out.mono ?_
        rintro e W1 ⟨rfl, bq⟩
        clear HC
        have bV := bq
        have hA := hA.below bq
        have hB2 := hB2.below bq
        have ka := ka.below bq
        have kb := kb.below bq
        have B := B.trans (bq.mono B.size)
        clear bq
        clear ka_0 ka_1 ka_2 ka_l kb_0 kb_1 kb_2 kb_l
        obtain ⟨ka_0, ka_1, ka_2⟩ := block3 ka
        have ka_l := ka.lt
        obtain ⟨kb_0, kb_1, kb_2⟩ := block3 kb
        have kb_l := kb.lt
        have HC := Lib.hid (bits_form (.agg #[.bool false, .slice ao3 an3 ac3, .slice ao4 an4 ac4]) sz _ Hsz.out hB2)
        go_wp2_with fail
        refine HC.out.mono ?_
        rintro e W2 ⟨⟨b2, ex2, k2, rfl⟩, bq⟩
        clear HC
        have hA := hA.below bq
        have hB2 := hB2.below bq
        have ka := ka.below bq
        have kb := kb.below bq
        have B := B.trans (bq.mono B.size)
        clear bq
        clear ka_0 ka_1 ka_2 ka_l kb_0 kb_1 kb_2 kb_l
        obtain ⟨ka_0, ka_1, ka_2⟩ := block3 ka
        have ka_l := ka.lt
        obtain ⟨kb_0, kb_1, kb_2⟩ := block3 kb
        have kb_l := kb.lt
        have HC := Lib.hid (cmp_form (.agg #[.bool false, .slice ao1 an1 ac1, .slice ao2 an2 ac2]) (.agg #[.bool false, .slice ao3 an3 ac3, .slice ao4 an4 ac4]) _ hA hB2)
        go_wp2_with fail
        refine HC.out.mono ?_
        rintro e W3 ⟨⟨n, g, rfl⟩, bq⟩
        clear HC
        have hA := hA.below bq
        have hB2 := hB2.below bq
        have ka := ka.below bq
        have kb := kb.below bq
        have B := B.trans (bq.mono B.size)
        clear bq
        clear ka_0 ka_1 ka_2 ka_l kb_0 kb_1 kb_2 kb_l
        obtain ⟨ka_0, ka_1, ka_2⟩ := block3 ka
        have ka_l := ka.lt
        obtain ⟨kb_0, kb_1, kb_2⟩ := block3 kb
        have kb_l := kb.lt
        clear hA hB2
        have HC := Lib.hid (alive3 W3)
        go_wp2_with fail
        refine HC.out.mono ?_
        rintro e W4 ⟨rfl, bq⟩
        clear HC
        have ka := ka.below bq
        have kb := kb.below bq
        have B := B.trans (bq.mono B.size)
        clear bq
        clear ka_0 ka_1 ka_2 ka_l kb_0 kb_1 kb_2 kb_l
        obtain ⟨ka_0, ka_1, ka_2⟩ := block3 ka
        have ka_l := ka.lt
        obtain ⟨kb_0, kb_1, kb_2⟩ := block3 kb
        have kb_l := kb.lt
        go_wp2_with fail
        go_ret
        exact ⟨rfl, B⟩
end Go.Proofs.Ytlkadnaoacoicaa
