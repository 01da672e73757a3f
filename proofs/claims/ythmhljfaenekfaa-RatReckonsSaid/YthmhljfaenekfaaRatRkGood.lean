/- The law RatReckons: good. -/
import Derived.Test.YthmhljfaenekfaaRatRk
namespace Go.Proofs.Ythmhljfaenekfaa
open Go.RowKit NM

set_option maxHeartbeats 100000000 in
set_option maxRecDepth 100000 in
theorem reckons_good (s0 : Bool) (a0 : Option Addr) (len0 cap0 : Nat) (a1 : Option Addr) (len1 cap1 : Nat) (t0 : Bool) (a2 : Option Addr) (len2 cap2 : Nat) (a3 : Option Addr) (len3 cap3 : Nat) (xs ys us vs : List Int) (x y : Rat) (w : World)
    (F0 : ∀ W : World, Below w.heap.size w W → Calls Try.prog 7 #[.agg #[.bool s0, .slice a0 len0 cap0, .slice a1 len1 cap1]] W fun e w' => (∃ n d, e = .returned (.agg #[.bool s0, n, d]) ∧ Sl w' n xs ∧ Sl w' d ys) ∧ Below W.heap.size W w')
    (G0 : ∀ W : World, Below w.heap.size w W → Calls Try.prog 7 #[.agg #[.bool t0, .slice a2 len2 cap2, .slice a3 len3 cap3]] W fun e w' => (∃ n d, e = .returned (.agg #[.bool t0, n, d]) ∧ Sl w' n us ∧ Sl w' d vs) ∧ Below W.heap.size W w')
    (PX0 : ∀ (w : World) (v u : Value), Sl w v xs → Sl w u ys → RatN w (.agg #[.bool s0, v, u]) x) (PY0 : ∀ (w : World) (v u : Value), Sl w v us → Sl w u vs → RatN w (.agg #[.bool t0, v, u]) y) (hy0 : y ≠ 0) :
    Calls Try.prog 4 #[.agg #[.bool s0, .slice a0 len0 cap0, .slice a1 len1 cap1], .agg #[.bool t0, .slice a2 len2 cap2, .slice a3 len3 cap3]] w fun e w' => e = .returned (.bool true) ∧ Below w.heap.size w w' := by
  obtain ⟨B, ha, hb⟩ := two_start w #[.bool s0, .slice a0 len0 cap0, .slice a1 len1 cap1] #[.bool t0, .slice a2 len2 cap2, .slice a3 len3 cap3] 25
  have F := Lib.hid F0
  have G := Lib.hid G0
  have PX := Lib.hid PX0
  have PY := Lib.hid PY0
  clear F0 G0 PX0 PY0
  go_enter Try.func4, Try.ntmps4
  go_wp2_with fail
  generalize (w.alloc (.cells #[.bool s0, .slice a0 len0 cap0, .slice a1 len1 cap1] 25)).alloc (.cells #[.bool t0, .slice a2 len2 cap2, .slice a3 len3 cap3] 25) = W at *
  go_cut [] (fun wx => ∃ n1 d1 n2 d2, Hid (BlockAt wx w.heap.size #[.bool s0, n1, d1] 25) ∧ Hid (BlockAt wx (w.heap.size + 1) #[.bool t0, n2, d2] 25) ∧ Hid (Sl wx n1 xs ∧ Sl wx d1 ys ∧ Sl wx n2 us ∧ Sl wx d2 vs) ∧ Hid (Below w.heap.size w wx))
  case first =>
    have D := (Below.refl W.heap.size W).drew
    have ha := ha.below D
    have hb := hb.below D
    have B := B.drew
    have tok1 : True := trivial
    clear D
    obtain ⟨k0, k1, k2⟩ := block3 ha
    obtain ⟨k3, k4, k5⟩ := block3 hb
    go_region_with (first
      | (go_at_call 7; have _t := tok1; clear _t tok1; have tok2 : True := trivial; refine (F.out _ B).mono ?_; rintro e W2 ⟨⟨n1, d1, rfl, x1, x2⟩, bq⟩; obtain ⟨p1, p2, p3, rfl⟩ := x1.form; obtain ⟨q1, q2, q3, rfl⟩ := x2.form; have ha := ha.below bq; have hb := hb.below bq; have B := B.trans (bq.mono B.size); clear bq; obtain ⟨k0, k1, k2⟩ := block3 ha; obtain ⟨k3, k4, k5⟩ := block3 hb)
      | (go_at_call 7; have _t := tok2; refine (G.out _ B).mono ?_; rintro e W3 ⟨⟨n2, d2, rfl, x3, x4⟩, bq⟩; obtain ⟨p4, p5, p6, rfl⟩ := x3.form; obtain ⟨q4, q5, q6, rfl⟩ := x4.form; have x1 := x1.below bq; have x2 := x2.below bq; have ha := ha.below bq; have hb := hb.below bq; have B := B.trans (bq.mono B.size); clear bq; obtain ⟨k0, k1, k2⟩ := block3 ha; obtain ⟨k3, k4, k5⟩ := block3 hb; have f0 := ha.free 0; have f1 := ha.free 1; have f2 := ha.free 2; have f3 := hb.free 0; have f4 := hb.free 1; have f5 := hb.free 2))
    all_goals
      obtain ⟨V, hV, y1, y2, y3, y4⟩ := both_set (a := s0) (b := t0) ha hb (Nat.le_refl _) B x1 x2 x3 x4
      have Y1 := Lib.hid y1
      have Y2 := Lib.hid y2
      have Y3 := Lib.hid y3
      have Y4 := Lib.hid y4
      have HV := Lib.hid hV
      clear y1 y2 y3 y4 hV x1 x2 x3 x4 ha hb B f0 f1 f2 f3 f4 f5 k0 k1 k2 k3 k4 k5
      go_wp2_with fail
      go_meet
      rw [← HV.out]
      exact ⟨_, _, _, _, Y1, Y2, Y3, Y4⟩
  case rest =>
    rename_i wc
    obtain ⟨n1, d1, n2, d2, ka, kb, hsl, hB⟩ := hcut
    obtain ⟨x1, x2, x3, x4⟩ := hsl.out
    have ka := ka.out
    have kb := kb.out
    have B := hB.out
    obtain ⟨ao1, an1, ac1, rfl⟩ := x1.form
    obtain ⟨ao2, an2, ac2, rfl⟩ := x2.form
    obtain ⟨ao3, an3, ac3, rfl⟩ := x3.form
    obtain ⟨ao4, an4, ac4, rfl⟩ := x4.form
    have hx := PX.out _ _ _ x1 x2
    have hy := PY.out _ _ _ x3 x4
    clear hsl hB x1 x2 x3 x4 F G PX PY
    obtain ⟨nx, ny, n1, d1, n2, d2, V1, V2, V3, g1, g2, g3, g4, g5, g6, g7, g8, g9, g10, g11⟩ := reck_facts x y hx.lt hy.lt
    have OFX := Lib.hid g1
    have OFY := Lib.hid g2
    have LS := Lib.hid g3
    have A1 := Lib.hid g4
    have A2 := Lib.hid g5
    have MU := Lib.hid g6
    have I1 := Lib.hid g7
    have I2 := Lib.hid g8
    have I3 := Lib.hid g9
    clear g1 g2 g3 g4 g5 g6 g7 g8 g9
    have HZ := Lib.hid hy0
    rw [decide_eq_false hy0] at g10
    obtain ⟨V4, g12, g13⟩ := g11 hy0
    have QU := Lib.hid g12
    have I4 := Lib.hid g13
    clear hy0 g11 g12 g13
    obtain ⟨ka_0, ka_1, ka_2⟩ := block3 ka
    have ka_l := ka.lt
    obtain ⟨kb_0, kb_1, kb_2⟩ := block3 kb
    have kb_l := kb.lt
    have HC := Lib.hid (add_rat _ _ x y _ hx hy)
    go_wp2_with fail
    refine HC.out.mono ?_
    rintro e W1 ⟨hk, bq⟩
    clear HC
    have hx := hx.below bq
    have hy := hy.below bq
    have ka := ka.below bq
    have kb := kb.below bq
    have B := B.trans (bq.mono B.size)
    clear bq
    clear ka_0 ka_1 ka_2 ka_l kb_0 kb_1 kb_2 kb_l
    obtain ⟨ka_0, ka_1, ka_2⟩ := block3 ka
    have ka_l := ka.lt
    obtain ⟨kb_0, kb_1, kb_2⟩ := block3 kb
    have kb_l := kb.lt
    obtain ⟨r1, c1, rfl, h1⟩ := hk.res
    obtain ⟨t1_, oa1, na1, ca1, ob1, nb1, cb1, rfl⟩ := Res.form h1
    have b4 : Below W1.heap.size W1 (W1.alloc (.cells #[.bool t1_, .slice oa1 na1 ca1, .slice ob1 nb1 cb1] 25)) := (Below.refl _ _).alloc (Nat.le_refl _) _
    have ks := BlockAt.new W1 #[.bool t1_, .slice oa1 na1 ca1, .slice ob1 nb1 cb1] 25
    have hx := hx.below b4
    have hy := hy.below b4
    have h1 := h1.below b4
    have ka := ka.below b4
    have kb := kb.below b4
    have B := B.trans (b4.mono B.size)
    clear b4
    have HC := Lib.hid (sub_rat _ _ x y _ hx hy)
    go_wp2_with fail
    refine HC.out.mono ?_
    rintro e W2 ⟨hk, bq⟩
    clear HC
    have hx := hx.below bq
    have hy := hy.below bq
    have h1 := h1.below bq
    have ka := ka.below bq
    have kb := kb.below bq
    have ks := ks.below bq
    have B := B.trans (bq.mono B.size)
    clear bq
    clear ka_0 ka_1 ka_2 ka_l kb_0 kb_1 kb_2 kb_l
    obtain ⟨ka_0, ka_1, ka_2⟩ := block3 ka
    have ka_l := ka.lt
    obtain ⟨kb_0, kb_1, kb_2⟩ := block3 kb
    have kb_l := kb.lt
    obtain ⟨ks_0, ks_1, ks_2⟩ := block3 ks
    have ks_l := ks.lt
    obtain ⟨r2, c2, rfl, h2⟩ := hk.res
    obtain ⟨t2_, oa2, na2, ca2, ob2, nb2, cb2, rfl⟩ := Res.form h2
    have b4 : Below W2.heap.size W2 (W2.alloc (.cells #[.bool t2_, .slice oa2 na2 ca2, .slice ob2 nb2 cb2] 25)) := (Below.refl _ _).alloc (Nat.le_refl _) _
    have kd := BlockAt.new W2 #[.bool t2_, .slice oa2 na2 ca2, .slice ob2 nb2 cb2] 25
    have hx := hx.below b4
    have hy := hy.below b4
    have h1 := h1.below b4
    have h2 := h2.below b4
    have ka := ka.below b4
    have kb := kb.below b4
    have ks := ks.below b4
    have B := B.trans (b4.mono B.size)
    clear b4
    have HC := Lib.hid (mul_rat _ _ x y _ hx hy)
    go_wp2_with fail
    refine HC.out.mono ?_
    rintro e W3 ⟨hk, bq⟩
    clear HC
    have hx := hx.below bq
    have hy := hy.below bq
    have h1 := h1.below bq
    have h2 := h2.below bq
    have ka := ka.below bq
    have kb := kb.below bq
    have ks := ks.below bq
    have kd := kd.below bq
    have B := B.trans (bq.mono B.size)
    clear bq
    clear ka_0 ka_1 ka_2 ka_l kb_0 kb_1 kb_2 kb_l ks_0 ks_1 ks_2 ks_l
    obtain ⟨ka_0, ka_1, ka_2⟩ := block3 ka
    have ka_l := ka.lt
    obtain ⟨kb_0, kb_1, kb_2⟩ := block3 kb
    have kb_l := kb.lt
    obtain ⟨ks_0, ks_1, ks_2⟩ := block3 ks
    have ks_l := ks.lt
    obtain ⟨kd_0, kd_1, kd_2⟩ := block3 kd
    have kd_l := kd.lt
    obtain ⟨r3, c3, rfl, h3⟩ := hk.res
    obtain ⟨t3_, oa3, na3, ca3, ob3, nb3, cb3, rfl⟩ := Res.form h3
    have b4 : Below W3.heap.size W3 (W3.alloc (.cells #[.bool t3_, .slice oa3 na3 ca3, .slice ob3 nb3 cb3] 25)) := (Below.refl _ _).alloc (Nat.le_refl _) _
    have kp := BlockAt.new W3 #[.bool t3_, .slice oa3 na3 ca3, .slice ob3 nb3 cb3] 25
    have hx := hx.below b4
    have hy := hy.below b4
    have h1 := h1.below b4
    have h2 := h2.below b4
    have h3 := h3.below b4
    have ka := ka.below b4
    have kb := kb.below b4
    have ks := ks.below b4
    have kd := kd.below b4
    have B := B.trans (b4.mono B.size)
    clear b4
    have HC := Lib.hid (quo_rat _ _ x y _ hx hy HZ.out)
    go_wp2_with fail
    refine HC.out.mono ?_
    rintro e W4 ⟨hk, bq⟩
    clear HC
    have hx := hx.below bq
    have hy := hy.below bq
    have h1 := h1.below bq
    have h2 := h2.below bq
    have h3 := h3.below bq
    have ka := ka.below bq
    have kb := kb.below bq
    have ks := ks.below bq
    have kd := kd.below bq
    have kp := kp.below bq
    have B := B.trans (bq.mono B.size)
    clear bq
    clear ka_0 ka_1 ka_2 ka_l kb_0 kb_1 kb_2 kb_l ks_0 ks_1 ks_2 ks_l kd_0 kd_1 kd_2 kd_l
    obtain ⟨ka_0, ka_1, ka_2⟩ := block3 ka
    have ka_l := ka.lt
    obtain ⟨kb_0, kb_1, kb_2⟩ := block3 kb
    have kb_l := kb.lt
    obtain ⟨ks_0, ks_1, ks_2⟩ := block3 ks
    have ks_l := ks.lt
    obtain ⟨kd_0, kd_1, kd_2⟩ := block3 kd
    have kd_l := kd.lt
    obtain ⟨kp_0, kp_1, kp_2⟩ := block3 kp
    have kp_l := kp.lt
    obtain ⟨r4, c4, rfl, h4⟩ := hk.res
    obtain ⟨t4_, oa4, na4, ca4, ob4, nb4, cb4, rfl⟩ := Res.form h4
    have b4 : Below W4.heap.size W4 (W4.alloc (.cells #[.bool t4_, .slice oa4 na4 ca4, .slice ob4 nb4 cb4] 25)) := (Below.refl _ _).alloc (Nat.le_refl _) _
    have kq := BlockAt.new W4 #[.bool t4_, .slice oa4 na4 ca4, .slice ob4 nb4 cb4] 25
    have hx := hx.below b4
    have hy := hy.below b4
    have h1 := h1.below b4
    have h2 := h2.below b4
    have h3 := h3.below b4
    have h4 := h4.below b4
    have ka := ka.below b4
    have kb := kb.below b4
    have ks := ks.below b4
    have kd := kd.below b4
    have kp := kp.below b4
    have B := B.trans (b4.mono B.size)
    clear b4
    have bn : Below (W4.alloc (.cells #[.bool t4_, .slice oa4 na4 ca4, .slice ob4 nb4 cb4] 25)).heap.size (W4.alloc (.cells #[.bool t4_, .slice oa4 na4 ca4, .slice ob4 nb4 cb4] 25)) ((W4.alloc (.cells #[.bool t4_, .slice oa4 na4 ca4, .slice ob4 nb4 cb4] 25)).alloc (.cells #[.bool false, .slice none 0 0, .slice none 0 0] 25)) := (Below.refl _ _).alloc (Nat.le_refl _) _
    have kn := BlockAt.new (W4.alloc (.cells #[.bool t4_, .slice oa4 na4 ca4, .slice ob4 nb4 cb4] 25)) #[.bool false, .slice none 0 0, .slice none 0 0] 25
    rw [show ((W4.alloc (.cells #[.bool t4_, .slice oa4 na4 ca4, .slice ob4 nb4 cb4] 25))).heap.size = W4.heap.size + 1 by simp] at kn
    have hx := hx.below bn
    have hy := hy.below bn
    have h1 := h1.below bn
    have h2 := h2.below bn
    have h3 := h3.below bn
    have h4 := h4.below bn
    have ka := ka.below bn
    have kb := kb.below bn
    have ks := ks.below bn
    have kd := kd.below bn
    have kp := kp.below bn
    have kq := kq.below bn
    have B := B.trans (bn.mono B.size)
    clear bn
    have HC := Lib.hid (refR_rat hx)
    go_wp2_with fail
    refine HC.out.mono ?_
    rintro e W5 ⟨rfl, bq⟩
    clear HC
    have hx := hx.below bq
    have hy := hy.below bq
    have h1 := h1.below bq
    have h2 := h2.below bq
    have h3 := h3.below bq
    have h4 := h4.below bq
    have ka := ka.below bq
    have kb := kb.below bq
    have ks := ks.below bq
    have kd := kd.below bq
    have kp := kp.below bq
    have kq := kq.below bq
    have kn := kn.below bq
    have B := B.trans (bq.mono B.size)
    clear bq
    clear ka_0 ka_1 ka_2 ka_l kb_0 kb_1 kb_2 kb_l ks_0 ks_1 ks_2 ks_l kd_0 kd_1 kd_2 kd_l kp_0 kp_1 kp_2 kp_l
    obtain ⟨ka_0, ka_1, ka_2⟩ := block3 ka
    have ka_l := ka.lt
    obtain ⟨kb_0, kb_1, kb_2⟩ := block3 kb
    have kb_l := kb.lt
    obtain ⟨ks_0, ks_1, ks_2⟩ := block3 ks
    have ks_l := ks.lt
    obtain ⟨kd_0, kd_1, kd_2⟩ := block3 kd
    have kd_l := kd.lt
    obtain ⟨kp_0, kp_1, kp_2⟩ := block3 kp
    have kp_l := kp.lt
    obtain ⟨kq_0, kq_1, kq_2⟩ := block3 kq
    have kq_l := kq.lt
    obtain ⟨kn_0, kn_1, kn_2⟩ := block3 kn
    have kn_l := kn.lt
    have HC := Lib.hid (refR_rat hy)
    go_wp2_with fail
    refine HC.out.mono ?_
    rintro e W6 ⟨rfl, bq⟩
    clear HC
    have hx := hx.below bq
    have hy := hy.below bq
    have h1 := h1.below bq
    have h2 := h2.below bq
    have h3 := h3.below bq
    have h4 := h4.below bq
    have ka := ka.below bq
    have kb := kb.below bq
    have ks := ks.below bq
    have kd := kd.below bq
    have kp := kp.below bq
    have kq := kq.below bq
    have kn := kn.below bq
    have B := B.trans (bq.mono B.size)
    clear bq
    clear ka_0 ka_1 ka_2 ka_l kb_0 kb_1 kb_2 kb_l ks_0 ks_1 ks_2 ks_l kd_0 kd_1 kd_2 kd_l kp_0 kp_1 kp_2 kp_l kq_0 kq_1 kq_2 kq_l kn_0 kn_1 kn_2 kn_l
    obtain ⟨ka_0, ka_1, ka_2⟩ := block3 ka
    have ka_l := ka.lt
    obtain ⟨kb_0, kb_1, kb_2⟩ := block3 kb
    have kb_l := kb.lt
    obtain ⟨ks_0, ks_1, ks_2⟩ := block3 ks
    have ks_l := ks.lt
    obtain ⟨kd_0, kd_1, kd_2⟩ := block3 kd
    have kd_l := kd.lt
    obtain ⟨kp_0, kp_1, kp_2⟩ := block3 kp
    have kp_l := kp.lt
    obtain ⟨kq_0, kq_1, kq_2⟩ := block3 kq
    have kq_l := kq.lt
    obtain ⟨kn_0, kn_1, kn_2⟩ := block3 kn
    have kn_l := kn.lt
    go_wp2_with fail
    go_cut [14, 15] (fun va vb wx => ∃ p q, va = .pointer (some ⟨p, 0, none⟩) ∧ vb = .pointer (some ⟨q, 0, none⟩) ∧ Hid (BlockAt wx p #[.bool nx, .string n1, .string d1, .bool false] 37) ∧ Hid (BlockAt wx q #[.bool ny, .string n2, .string d2, .bool false] 37) ∧ Hid (Below W6.heap.size W6 wx))
    case first =>
      clear ks_0 ks_1 ks_2 ks_l kd_0 kd_1 kd_2 kd_l kp_0 kp_1 kp_2 kp_l kq_0 kq_1 kq_2 kq_l kn_0 kn_1 kn_2 kn_l h1 h2 h3 h4 ks kd kp kq kn
      have D := (Below.refl W6.heap.size W6).drew
      have y0 : W6.cell? ⟨w.heap.size, 0, none⟩ = some (.bool s0) := ka_0
      have y1 : W6.cell? ⟨w.heap.size, 1, none⟩ = some (.slice ao1 an1 ac1) := ka_1
      have y2 : W6.cell? ⟨w.heap.size, 2, none⟩ = some (.slice ao2 an2 ac2) := ka_2
      have y3 : W6.cell? ⟨w.heap.size + 1, 0, none⟩ = some (.bool t0) := kb_0
      have y4 : W6.cell? ⟨w.heap.size + 1, 1, none⟩ = some (.slice ao3 an3 ac3) := kb_1
      have y5 : W6.cell? ⟨w.heap.size + 1, 2, none⟩ = some (.slice ao4 an4 ac4) := kb_2
      have lx0 := Nat.ne_of_lt (Nat.lt_succ_of_lt ka.lt)
      have lx1 := Nat.ne_of_gt (Nat.lt_succ_of_lt ka.lt)
      have ln0 := Nat.ne_of_lt ka.lt
      have ln1 := Nat.ne_of_lt kb.lt
      have ln2 := Nat.ne_of_gt ka.lt
      have ln3 := Nat.ne_of_gt kb.lt
      have lm0 : w.heap.size < W6.heap.size := ka.lt
      have lm1 : w.heap.size + 1 < W6.heap.size := kb.lt
      clear ka_0 ka_1 ka_2 ka_l kb_0 kb_1 kb_2 kb_l
      have hx := hx.below D
      have hy := hy.below D
      have ka := ka.below D
      have kb := kb.below D
      have B0 := D
      clear B D
      obtain ⟨ka_0, ka_1, ka_2⟩ := block3 ka
      obtain ⟨kb_0, kb_1, kb_2⟩ := block3 kb
      have tok1 : True := trivial
      go_region_held3 (fun w' => w'.cell? ⟨w.heap.size, 0, none⟩ = some (.bool s0) ∧ w'.cell? ⟨w.heap.size, 1, none⟩ = some (.slice ao1 an1 ac1) ∧ w'.cell? ⟨w.heap.size, 2, none⟩ = some (.slice ao2 an2 ac2) ∧ w'.cell? ⟨w.heap.size + 1, 0, none⟩ = some (.bool t0) ∧ w'.cell? ⟨w.heap.size + 1, 1, none⟩ = some (.slice ao3 an3 ac3) ∧ w'.cell? ⟨w.heap.size + 1, 2, none⟩ = some (.slice ao4 an4 ac4))
        (first | go_keep | ((repeat' apply And.intro) <;> go_keep))
        (first | (go_at_call 16; have _t := tok1; clear _t tok1; have tok2 : True := trivial; (first | (with_reducible refine (OFX.out _ _ hx).mono ?_) | (with_reducible refine (OFX.out _ _ hx.d1).mono ?_) | (with_reducible refine (OFX.out _ _ hx.d2).mono ?_)); rintro e W91 ⟨rfl, bq⟩; (first | (have hx := hx.below bq; have hy := hy.below bq; have ka := ka.below bq; have kb := kb.below bq; have B0 := B0.trans (bq.mono B0.size); clear ka_0 ka_1 ka_2 kb_0 kb_1 kb_2; obtain ⟨ka_0, ka_1, ka_2⟩ := block3 ka; obtain ⟨kb_0, kb_1, kb_2⟩ := block3 kb) | (obtain ⟨ga, bq⟩ := one_new_d bq; have hx := hx.below bq; have hy := hy.below bq; have ka := ka.below bq; have kb := kb.below bq; have B0 := B0.trans (bq.mono B0.size); clear ka_0 ka_1 ka_2 kb_0 kb_1 kb_2; obtain ⟨ka_0, ka_1, ka_2⟩ := block3 ka; obtain ⟨kb_0, kb_1, kb_2⟩ := block3 kb; obtain ⟨ga_0, ga_1, ga_2, ga_3⟩ := block4 ga; have ga_4 := ga.free 0; have ga_5 := ga.free 1; have ga_6 := ga.free 2; have ga_7 := ga.free 3; have ga_l := ga.lt) | (obtain ⟨ga, gb, bq⟩ := two_new_d bq; have hx := hx.below bq; have hy := hy.below bq; have ka := ka.below bq; have kb := kb.below bq; have B0 := B0.trans (bq.mono B0.size); clear ka_0 ka_1 ka_2 kb_0 kb_1 kb_2; obtain ⟨ka_0, ka_1, ka_2⟩ := block3 ka; obtain ⟨kb_0, kb_1, kb_2⟩ := block3 kb; obtain ⟨ga_0, ga_1, ga_2, ga_3⟩ := block4 ga; have ga_4 := ga.free 0; have ga_5 := ga.free 1; have ga_6 := ga.free 2; have ga_7 := ga.free 3; have ga_l := ga.lt; obtain ⟨gb_0, gb_1, gb_2, gb_3⟩ := block4 gb; have gb_4 := gb.free 0; have gb_5 := gb.free 1; have gb_6 := gb.free 2; have gb_7 := gb.free 3; have gb_l := gb.lt)); have sz91 := B0.size; have kx0 := Nat.ne_of_lt (Nat.lt_succ_of_lt ka.lt); have kx1 := Nat.ne_of_gt (Nat.lt_succ_of_lt ka.lt); have kl0 := Nat.ne_of_lt ka.lt; have kl1 := Nat.ne_of_lt kb.lt; have kl2 := Nat.ne_of_gt ka.lt; have kl3 := Nat.ne_of_gt kb.lt; have km0 := ka.lt; have km1 := kb.lt; first | (have gn0 := Nat.ne_of_lt ga.lt; have gn1 := Nat.ne_of_gt ga.lt) | skip) | (go_at_call 16; have _t := tok2; (first | (with_reducible refine (OFY.out _ _ hy).mono ?_) | (with_reducible refine (OFY.out _ _ hy.a1).mono ?_) | (with_reducible refine (OFY.out _ _ hy.a2).mono ?_)); rintro e W92 ⟨rfl, bq⟩; (first | (have hx2 := hx.below bq; (first | (have ga := ga.below bq; clear ga_0 ga_1 ga_2 ga_3 ga_4 ga_5 ga_6 ga_7 ga_l; obtain ⟨ga_0, ga_1, ga_2, ga_3⟩ := block4 ga; have ga_4 := ga.free 0; have ga_5 := ga.free 1; have ga_6 := ga.free 2; have ga_7 := ga.free 3; have ga_l := ga.lt) | skip); (first | (have gb := gb.below bq; clear gb_0 gb_1 gb_2 gb_3 gb_4 gb_5 gb_6 gb_7 gb_l; obtain ⟨gb_0, gb_1, gb_2, gb_3⟩ := block4 gb; have gb_4 := gb.free 0; have gb_5 := gb.free 1; have gb_6 := gb.free 2; have gb_7 := gb.free 3; have gb_l := gb.lt) | skip); have hx := hx.below bq; have hy := hy.below bq; have ka := ka.below bq; have kb := kb.below bq; have B0 := B0.trans (bq.mono B0.size); clear ka_0 ka_1 ka_2 kb_0 kb_1 kb_2; obtain ⟨ka_0, ka_1, ka_2⟩ := block3 ka; obtain ⟨kb_0, kb_1, kb_2⟩ := block3 kb) | (obtain ⟨gc, bq⟩ := one_new bq; (first | (have ga := ga.below bq; clear ga_0 ga_1 ga_2 ga_3 ga_4 ga_5 ga_6 ga_7 ga_l; obtain ⟨ga_0, ga_1, ga_2, ga_3⟩ := block4 ga; have ga_4 := ga.free 0; have ga_5 := ga.free 1; have ga_6 := ga.free 2; have ga_7 := ga.free 3; have ga_l := ga.lt) | skip); (first | (have gb := gb.below bq; clear gb_0 gb_1 gb_2 gb_3 gb_4 gb_5 gb_6 gb_7 gb_l; obtain ⟨gb_0, gb_1, gb_2, gb_3⟩ := block4 gb; have gb_4 := gb.free 0; have gb_5 := gb.free 1; have gb_6 := gb.free 2; have gb_7 := gb.free 3; have gb_l := gb.lt) | skip); have hx := hx.below bq; have hy := hy.below bq; have ka := ka.below bq; have kb := kb.below bq; have B0 := B0.trans (bq.mono B0.size); clear ka_0 ka_1 ka_2 kb_0 kb_1 kb_2; obtain ⟨ka_0, ka_1, ka_2⟩ := block3 ka; obtain ⟨kb_0, kb_1, kb_2⟩ := block3 kb; obtain ⟨gc_0, gc_1, gc_2, gc_3⟩ := block4 gc; have gc_4 := gc.free 0; have gc_5 := gc.free 1; have gc_6 := gc.free 2; have gc_7 := gc.free 3; have gc_l := gc.lt) | (obtain ⟨gc, gd, bq⟩ := two_new bq; have hx := hx.below bq; have hy := hy.below bq; have ka := ka.below bq; have kb := kb.below bq; have B0 := B0.trans (bq.mono B0.size); clear ka_0 ka_1 ka_2 kb_0 kb_1 kb_2; obtain ⟨ka_0, ka_1, ka_2⟩ := block3 ka; obtain ⟨kb_0, kb_1, kb_2⟩ := block3 kb; obtain ⟨gc_0, gc_1, gc_2, gc_3⟩ := block4 gc; have gc_4 := gc.free 0; have gc_5 := gc.free 1; have gc_6 := gc.free 2; have gc_7 := gc.free 3; have gc_l := gc.lt; obtain ⟨gd_0, gd_1, gd_2, gd_3⟩ := block4 gd; have gd_4 := gd.free 0; have gd_5 := gd.free 1; have gd_6 := gd.free 2; have gd_7 := gd.free 3; have gd_l := gd.lt)); have jx0 := Nat.ne_of_lt (Nat.lt_succ_of_lt ka.lt); have jx1 := Nat.ne_of_gt (Nat.lt_succ_of_lt ka.lt); have jl0 := Nat.ne_of_lt ka.lt; have jl1 := Nat.ne_of_lt kb.lt; have jl2 := Nat.ne_of_gt ka.lt; have jl3 := Nat.ne_of_gt kb.lt))
      all_goals
        clear OFX OFY
        go_wp2_with fail
        go_meet
        first
          | (obtain ⟨y1, y2, y3⟩ := leafA #[.bool nx, .string n1, .string d1, .bool false] #[.bool ny, .string n2, .string d2, .bool false] 37 B0; with_reducible exact ⟨_, _, rfl, rfl, Lib.hid y1, Lib.hid y2, Lib.hid y3⟩)
          | (obtain ⟨y2, y1, y3⟩ := leafA #[.bool ny, .string n2, .string d2, .bool false] #[.bool nx, .string n1, .string d1, .bool false] 37 B0; with_reducible exact ⟨_, _, rfl, rfl, Lib.hid y1, Lib.hid y2, Lib.hid y3⟩)
          | (revert ga; intro ga; revert gb; intro gb; obtain ⟨y1, y2, y3⟩ := leafC (.bool nx) (.string n1) (.string d1) (.bool false) (.bool ny) (.string n2) (.string d2) (.bool false) ga gb (by omega) (by omega) (by omega) B0; with_reducible exact ⟨_, _, rfl, rfl, Lib.hid y1, Lib.hid y2, Lib.hid y3⟩)
          | (revert gb; intro gb; revert ga; intro ga; obtain ⟨y1, y2, y3⟩ := leafC (.bool nx) (.string n1) (.string d1) (.bool false) (.bool ny) (.string n2) (.string d2) (.bool false) gb ga (by omega) (by omega) (by omega) B0; with_reducible exact ⟨_, _, rfl, rfl, Lib.hid y1, Lib.hid y2, Lib.hid y3⟩)
          | (revert ga; intro ga; revert gc; intro gc; obtain ⟨y1, y2, y3⟩ := leafC (.bool nx) (.string n1) (.string d1) (.bool false) (.bool ny) (.string n2) (.string d2) (.bool false) ga gc (by omega) (by omega) (by omega) B0; with_reducible exact ⟨_, _, rfl, rfl, Lib.hid y1, Lib.hid y2, Lib.hid y3⟩)
          | (revert gc; intro gc; revert ga; intro ga; obtain ⟨y1, y2, y3⟩ := leafC (.bool nx) (.string n1) (.string d1) (.bool false) (.bool ny) (.string n2) (.string d2) (.bool false) gc ga (by omega) (by omega) (by omega) B0; with_reducible exact ⟨_, _, rfl, rfl, Lib.hid y1, Lib.hid y2, Lib.hid y3⟩)
          | (revert gc; intro gc; revert gd; intro gd; obtain ⟨y1, y2, y3⟩ := leafC (.bool nx) (.string n1) (.string d1) (.bool false) (.bool ny) (.string n2) (.string d2) (.bool false) gc gd (by omega) (by omega) (by omega) B0; with_reducible exact ⟨_, _, rfl, rfl, Lib.hid y1, Lib.hid y2, Lib.hid y3⟩)
          | (revert gd; intro gd; revert gc; intro gc; obtain ⟨y1, y2, y3⟩ := leafC (.bool nx) (.string n1) (.string d1) (.bool false) (.bool ny) (.string n2) (.string d2) (.bool false) gd gc (by omega) (by omega) (by omega) B0; with_reducible exact ⟨_, _, rfl, rfl, Lib.hid y1, Lib.hid y2, Lib.hid y3⟩)
          | (revert ga; intro ga; obtain ⟨y1, y2, y3⟩ := leafB (.bool nx) (.string n1) (.string d1) (.bool false) #[.bool ny, .string n2, .string d2, .bool false] 37 ga (by omega) B0; with_reducible exact ⟨_, _, rfl, rfl, Lib.hid y1, Lib.hid y2, Lib.hid y3⟩)
          | (revert ga; intro ga; obtain ⟨y2, y1, y3⟩ := leafB (.bool ny) (.string n2) (.string d2) (.bool false) #[.bool nx, .string n1, .string d1, .bool false] 37 ga (by omega) B0; with_reducible exact ⟨_, _, rfl, rfl, Lib.hid y1, Lib.hid y2, Lib.hid y3⟩)
          | (revert gc; intro gc; obtain ⟨y1, y2, y3⟩ := leafB (.bool nx) (.string n1) (.string d1) (.bool false) #[.bool ny, .string n2, .string d2, .bool false] 37 gc (by omega) B0; with_reducible exact ⟨_, _, rfl, rfl, Lib.hid y1, Lib.hid y2, Lib.hid y3⟩)
          | (revert gc; intro gc; obtain ⟨y2, y1, y3⟩ := leafB (.bool ny) (.string n2) (.string d2) (.bool false) #[.bool nx, .string n1, .string d1, .bool false] 37 gc (by omega) B0; with_reducible exact ⟨_, _, rfl, rfl, Lib.hid y1, Lib.hid y2, Lib.hid y3⟩)
    case rest =>
      obtain ⟨pa, pb, rfl, rfl, fa, fb, bq⟩ := hcut
      have fa := fa.out
      have fb := fb.out
      have bq := bq.out
      clear ka_0 ka_1 ka_2 ka_l kb_0 kb_1 kb_2 kb_l hx hy ka kb
      have h1 := h1.below bq
      have h2 := h2.below bq
      have h3 := h3.below bq
      have h4 := h4.below bq
      have ks := ks.below bq
      have kd := kd.below bq
      have kp := kp.below bq
      have kq := kq.below bq
      have kn := kn.below bq
      have B := B.trans (bq.mono B.size)
      clear bq
      clear ks_0 ks_1 ks_2 ks_l kd_0 kd_1 kd_2 kd_l kp_0 kp_1 kp_2 kp_l kq_0 kq_1 kq_2 kq_l kn_0 kn_1 kn_2 kn_l
      obtain ⟨ks_0, ks_1, ks_2⟩ := block3 ks
      have ks_l := ks.lt
      obtain ⟨kd_0, kd_1, kd_2⟩ := block3 kd
      have kd_l := kd.lt
      obtain ⟨kp_0, kp_1, kp_2⟩ := block3 kp
      have kp_l := kp.lt
      obtain ⟨kq_0, kq_1, kq_2⟩ := block3 kq
      have kq_l := kq.lt
      obtain ⟨kn_0, kn_1, kn_2⟩ := block3 kn
      have kn_l := kn.lt
      clear ks_0 ks_1 ks_2 ks_l kd_0 kd_1 kd_2 kd_l kp_0 kp_1 kp_2 kp_l kq_0 kq_1 kq_2 kq_l kn_0 kn_1 kn_2 kn_l
      obtain ⟨ks_0, ks_1, ks_2⟩ := block3 ks
      have ks_l := ks.lt
      obtain ⟨kd_0, kd_1, kd_2⟩ := block3 kd
      have kd_l := kd.lt
      obtain ⟨kp_0, kp_1, kp_2⟩ := block3 kp
      have kp_l := kp.lt
      obtain ⟨kq_0, kq_1, kq_2⟩ := block3 kq
      have kq_l := kq.lt
      obtain ⟨kn_0, kn_1, kn_2⟩ := block3 kn
      have kn_l := kn.lt
      obtain ⟨fa_0, fa_1, fa_2, fa_3⟩ := block4 fa
      have fa_l := fa.lt
      obtain ⟨fb_0, fb_1, fb_2, fb_3⟩ := block4 fb
      have fb_l := fb.lt
      go_wp2_with fail
      have h1 := h1.below ((Below.refl wc.heap.size wc).drew)
      have h2 := h2.below ((Below.refl wc.heap.size wc).drew)
      have h3 := h3.below ((Below.refl wc.heap.size wc).drew)
      have h4 := h4.below ((Below.refl wc.heap.size wc).drew)
      have ks := ks.below ((Below.refl wc.heap.size wc).drew)
      have kd := kd.below ((Below.refl wc.heap.size wc).drew)
      have kp := kp.below ((Below.refl wc.heap.size wc).drew)
      have kq := kq.below ((Below.refl wc.heap.size wc).drew)
      have kn := kn.below ((Below.refl wc.heap.size wc).drew)
      have fa := fa.below ((Below.refl wc.heap.size wc).drew)
      have fb := fb.below ((Below.refl wc.heap.size wc).drew)
      have B := B.drew
      clear ks_0 ks_1 ks_2 ks_l kd_0 kd_1 kd_2 kd_l kp_0 kp_1 kp_2 kp_l kq_0 kq_1 kq_2 kq_l kn_0 kn_1 kn_2 kn_l fa_0 fa_1 fa_2 fa_3 fa_l fb_0 fb_1 fb_2 fb_3 fb_l
      obtain ⟨ks_0, ks_1, ks_2⟩ := block3 ks
      have ks_l := ks.lt
      obtain ⟨kd_0, kd_1, kd_2⟩ := block3 kd
      have kd_l := kd.lt
      obtain ⟨kp_0, kp_1, kp_2⟩ := block3 kp
      have kp_l := kp.lt
      obtain ⟨kq_0, kq_1, kq_2⟩ := block3 kq
      have kq_l := kq.lt
      obtain ⟨kn_0, kn_1, kn_2⟩ := block3 kn
      have kn_l := kn.lt
      obtain ⟨fa_0, fa_1, fa_2, fa_3⟩ := block4 fa
      have fa_l := fa.lt
      obtain ⟨fb_0, fb_1, fb_2, fb_3⟩ := block4 fb
      have fb_l := fb.lt
      have tok0 : True := trivial
      go_region_held3 (fun w' => w'.cell? ⟨W1.heap.size, 0, none⟩ = some (.bool t1_) ∧ w'.cell? ⟨W1.heap.size, 1, none⟩ = some (.slice oa1 na1 ca1) ∧ w'.cell? ⟨W1.heap.size, 2, none⟩ = some (.slice ob1 nb1 cb1) ∧ w'.cell? ⟨W2.heap.size, 0, none⟩ = some (.bool t2_) ∧ w'.cell? ⟨W2.heap.size, 1, none⟩ = some (.slice oa2 na2 ca2) ∧ w'.cell? ⟨W2.heap.size, 2, none⟩ = some (.slice ob2 nb2 cb2) ∧ w'.cell? ⟨W3.heap.size, 0, none⟩ = some (.bool t3_) ∧ w'.cell? ⟨W3.heap.size, 1, none⟩ = some (.slice oa3 na3 ca3) ∧ w'.cell? ⟨W3.heap.size, 2, none⟩ = some (.slice ob3 nb3 cb3) ∧ w'.cell? ⟨pa, 0, none⟩ = some (.bool nx) ∧ w'.cell? ⟨pa, 1, none⟩ = some (.string n1) ∧ w'.cell? ⟨pa, 2, none⟩ = some (.string d1) ∧ w'.cell? ⟨pa, 3, none⟩ = some (.bool false) ∧ w'.cell? ⟨pb, 0, none⟩ = some (.bool ny) ∧ w'.cell? ⟨pb, 1, none⟩ = some (.string n2) ∧ w'.cell? ⟨pb, 2, none⟩ = some (.string d2) ∧ w'.cell? ⟨pb, 3, none⟩ = some (.bool false))
        (first | go_keep | (exact ⟨ks_0, ks_1, ks_2, kd_0, kd_1, kd_2, kp_0, kp_1, kp_2, fa_0, fa_1, fa_2, fa_3, fb_0, fb_1, fb_2, fb_3⟩))
        (first | (go_at_call 25; have _t := tok0; clear _t tok0; have tok1 : True := trivial; refine (A1.out _).mono ?_; rintro e W7 ⟨rfl, bq⟩; have h1 := h1.below bq; have h2 := h2.below bq; have h3 := h3.below bq; have h4 := h4.below bq; have ks := ks.below bq; have kd := kd.below bq; have kp := kp.below bq; have kq := kq.below bq; have kn := kn.below bq; have fa := fa.below bq; have fb := fb.below bq; have B := B.trans (bq.mono B.size); clear bq; clear ks_0 ks_1 ks_2 ks_l kd_0 kd_1 kd_2 kd_l kp_0 kp_1 kp_2 kp_l kq_0 kq_1 kq_2 kq_l kn_0 kn_1 kn_2 kn_l fa_0 fa_1 fa_2 fa_3 fa_l fb_0 fb_1 fb_2 fb_3 fb_l; obtain ⟨ks_0, ks_1, ks_2⟩ := block3 ks; have ks_l := ks.lt; obtain ⟨kd_0, kd_1, kd_2⟩ := block3 kd; have kd_l := kd.lt; obtain ⟨kp_0, kp_1, kp_2⟩ := block3 kp; have kp_l := kp.lt; obtain ⟨kq_0, kq_1, kq_2⟩ := block3 kq; have kq_l := kq.lt; obtain ⟨kn_0, kn_1, kn_2⟩ := block3 kn; have kn_l := kn.lt; obtain ⟨fa_0, fa_1, fa_2, fa_3⟩ := block4 fa; have fa_l := fa.lt; obtain ⟨fb_0, fb_1, fb_2, fb_3⟩ := block4 fb; have fb_l := fb.lt) | (go_at_call 18; have _t := tok1; clear _t tok1; have tok2 : True := trivial; refine (I1.out _ _ _ h1).mono ?_; rintro e W8 ⟨rfl, bq⟩; have h1 := h1.below bq; have h2 := h2.below bq; have h3 := h3.below bq; have h4 := h4.below bq; have ks := ks.below bq; have kd := kd.below bq; have kp := kp.below bq; have kq := kq.below bq; have kn := kn.below bq; have fa := fa.below bq; have fb := fb.below bq; have B := B.trans (bq.mono B.size); clear bq; clear ks_0 ks_1 ks_2 ks_l kd_0 kd_1 kd_2 kd_l kp_0 kp_1 kp_2 kp_l kq_0 kq_1 kq_2 kq_l kn_0 kn_1 kn_2 kn_l fa_0 fa_1 fa_2 fa_3 fa_l fb_0 fb_1 fb_2 fb_3 fb_l; obtain ⟨ks_0, ks_1, ks_2⟩ := block3 ks; have ks_l := ks.lt; obtain ⟨kd_0, kd_1, kd_2⟩ := block3 kd; have kd_l := kd.lt; obtain ⟨kp_0, kp_1, kp_2⟩ := block3 kp; have kp_l := kp.lt; obtain ⟨kq_0, kq_1, kq_2⟩ := block3 kq; have kq_l := kq.lt; obtain ⟨kn_0, kn_1, kn_2⟩ := block3 kn; have kn_l := kn.lt; obtain ⟨fa_0, fa_1, fa_2, fa_3⟩ := block4 fa; have fa_l := fa.lt; obtain ⟨fb_0, fb_1, fb_2, fb_3⟩ := block4 fb; have fb_l := fb.lt) | (go_at_call 26; have _t := tok2; clear _t tok2; have tok3 : True := trivial; refine (LS.out _).mono ?_; rintro e W9 ⟨rfl, bq⟩; have h1 := h1.below bq; have h2 := h2.below bq; have h3 := h3.below bq; have h4 := h4.below bq; have ks := ks.below bq; have kd := kd.below bq; have kp := kp.below bq; have kq := kq.below bq; have kn := kn.below bq; have fa := fa.below bq; have fb := fb.below bq; have B := B.trans (bq.mono B.size); clear bq; clear ks_0 ks_1 ks_2 ks_l kd_0 kd_1 kd_2 kd_l kp_0 kp_1 kp_2 kp_l kq_0 kq_1 kq_2 kq_l kn_0 kn_1 kn_2 kn_l fa_0 fa_1 fa_2 fa_3 fa_l fb_0 fb_1 fb_2 fb_3 fb_l; obtain ⟨ks_0, ks_1, ks_2⟩ := block3 ks; have ks_l := ks.lt; obtain ⟨kd_0, kd_1, kd_2⟩ := block3 kd; have kd_l := kd.lt; obtain ⟨kp_0, kp_1, kp_2⟩ := block3 kp; have kp_l := kp.lt; obtain ⟨kq_0, kq_1, kq_2⟩ := block3 kq; have kq_l := kq.lt; obtain ⟨kn_0, kn_1, kn_2⟩ := block3 kn; have kn_l := kn.lt; obtain ⟨fa_0, fa_1, fa_2, fa_3⟩ := block4 fa; have fa_l := fa.lt; obtain ⟨fb_0, fb_1, fb_2, fb_3⟩ := block4 fb; have fb_l := fb.lt) | (go_at_call 25; have _t := tok3; clear _t tok3; have tok4 : True := trivial; refine (A2.out _).mono ?_; rintro e W10 ⟨rfl, bq⟩; have h1 := h1.below bq; have h2 := h2.below bq; have h3 := h3.below bq; have h4 := h4.below bq; have ks := ks.below bq; have kd := kd.below bq; have kp := kp.below bq; have kq := kq.below bq; have kn := kn.below bq; have fa := fa.below bq; have fb := fb.below bq; have B := B.trans (bq.mono B.size); clear bq; clear ks_0 ks_1 ks_2 ks_l kd_0 kd_1 kd_2 kd_l kp_0 kp_1 kp_2 kp_l kq_0 kq_1 kq_2 kq_l kn_0 kn_1 kn_2 kn_l fa_0 fa_1 fa_2 fa_3 fa_l fb_0 fb_1 fb_2 fb_3 fb_l; obtain ⟨ks_0, ks_1, ks_2⟩ := block3 ks; have ks_l := ks.lt; obtain ⟨kd_0, kd_1, kd_2⟩ := block3 kd; have kd_l := kd.lt; obtain ⟨kp_0, kp_1, kp_2⟩ := block3 kp; have kp_l := kp.lt; obtain ⟨kq_0, kq_1, kq_2⟩ := block3 kq; have kq_l := kq.lt; obtain ⟨kn_0, kn_1, kn_2⟩ := block3 kn; have kn_l := kn.lt; obtain ⟨fa_0, fa_1, fa_2, fa_3⟩ := block4 fa; have fa_l := fa.lt; obtain ⟨fb_0, fb_1, fb_2, fb_3⟩ := block4 fb; have fb_l := fb.lt) | (go_at_call 18; have _t := tok4; clear _t tok4; have tok5 : True := trivial; refine (I2.out _ _ _ h2).mono ?_; rintro e W11 ⟨rfl, bq⟩; have h1 := h1.below bq; have h2 := h2.below bq; have h3 := h3.below bq; have h4 := h4.below bq; have ks := ks.below bq; have kd := kd.below bq; have kp := kp.below bq; have kq := kq.below bq; have kn := kn.below bq; have fa := fa.below bq; have fb := fb.below bq; have B := B.trans (bq.mono B.size); clear bq; clear ks_0 ks_1 ks_2 ks_l kd_0 kd_1 kd_2 kd_l kp_0 kp_1 kp_2 kp_l kq_0 kq_1 kq_2 kq_l kn_0 kn_1 kn_2 kn_l fa_0 fa_1 fa_2 fa_3 fa_l fb_0 fb_1 fb_2 fb_3 fb_l; obtain ⟨ks_0, ks_1, ks_2⟩ := block3 ks; have ks_l := ks.lt; obtain ⟨kd_0, kd_1, kd_2⟩ := block3 kd; have kd_l := kd.lt; obtain ⟨kp_0, kp_1, kp_2⟩ := block3 kp; have kp_l := kp.lt; obtain ⟨kq_0, kq_1, kq_2⟩ := block3 kq; have kq_l := kq.lt; obtain ⟨kn_0, kn_1, kn_2⟩ := block3 kn; have kn_l := kn.lt; obtain ⟨fa_0, fa_1, fa_2, fa_3⟩ := block4 fa; have fa_l := fa.lt; obtain ⟨fb_0, fb_1, fb_2, fb_3⟩ := block4 fb; have fb_l := fb.lt) | (go_at_call 27; have _t := tok5; clear _t tok5; have tok6 : True := trivial; refine (MU.out _).mono ?_; rintro e W12 ⟨rfl, bq⟩; have h1 := h1.below bq; have h2 := h2.below bq; have h3 := h3.below bq; have h4 := h4.below bq; have ks := ks.below bq; have kd := kd.below bq; have kp := kp.below bq; have kq := kq.below bq; have kn := kn.below bq; have fa := fa.below bq; have fb := fb.below bq; have B := B.trans (bq.mono B.size); clear bq; clear ks_0 ks_1 ks_2 ks_l kd_0 kd_1 kd_2 kd_l kp_0 kp_1 kp_2 kp_l kq_0 kq_1 kq_2 kq_l kn_0 kn_1 kn_2 kn_l fa_0 fa_1 fa_2 fa_3 fa_l fb_0 fb_1 fb_2 fb_3 fb_l; obtain ⟨ks_0, ks_1, ks_2⟩ := block3 ks; have ks_l := ks.lt; obtain ⟨kd_0, kd_1, kd_2⟩ := block3 kd; have kd_l := kd.lt; obtain ⟨kp_0, kp_1, kp_2⟩ := block3 kp; have kp_l := kp.lt; obtain ⟨kq_0, kq_1, kq_2⟩ := block3 kq; have kq_l := kq.lt; obtain ⟨kn_0, kn_1, kn_2⟩ := block3 kn; have kn_l := kn.lt; obtain ⟨fa_0, fa_1, fa_2, fa_3⟩ := block4 fa; have fa_l := fa.lt; obtain ⟨fb_0, fb_1, fb_2, fb_3⟩ := block4 fb; have fb_l := fb.lt) | (go_at_call 18; have _t := tok6; clear _t tok6; have tok7 : True := trivial; refine (I3.out _ _ _ h3).mono ?_; rintro e W13 ⟨rfl, bq⟩; have h1 := h1.below bq; have h2 := h2.below bq; have h3 := h3.below bq; have h4 := h4.below bq; have ks := ks.below bq; have kd := kd.below bq; have kp := kp.below bq; have kq := kq.below bq; have kn := kn.below bq; have fa := fa.below bq; have fb := fb.below bq; have B := B.trans (bq.mono B.size); clear bq; clear ks_0 ks_1 ks_2 ks_l kd_0 kd_1 kd_2 kd_l kp_0 kp_1 kp_2 kp_l kq_0 kq_1 kq_2 kq_l kn_0 kn_1 kn_2 kn_l fa_0 fa_1 fa_2 fa_3 fa_l fb_0 fb_1 fb_2 fb_3 fb_l; obtain ⟨ks_0, ks_1, ks_2⟩ := block3 ks; have ks_l := ks.lt; obtain ⟨kd_0, kd_1, kd_2⟩ := block3 kd; have kd_l := kd.lt; obtain ⟨kp_0, kp_1, kp_2⟩ := block3 kp; have kp_l := kp.lt; obtain ⟨kq_0, kq_1, kq_2⟩ := block3 kq; have kq_l := kq.lt; obtain ⟨kn_0, kn_1, kn_2⟩ := block3 kn; have kn_l := kn.lt; obtain ⟨fa_0, fa_1, fa_2, fa_3⟩ := block4 fa; have fa_l := fa.lt; obtain ⟨fb_0, fb_1, fb_2, fb_3⟩ := block4 fb; have fb_l := fb.lt) | (go_at_call 14; have _t := tok7; clear _t tok7; have tok8 : True := trivial; refine (aliveR _).mono ?_; rintro e W14 ⟨rfl, bq⟩; have h1 := h1.below bq; have h2 := h2.below bq; have h3 := h3.below bq; have h4 := h4.below bq; have ks := ks.below bq; have kd := kd.below bq; have kp := kp.below bq; have kq := kq.below bq; have kn := kn.below bq; have fa := fa.below bq; have fb := fb.below bq; have B := B.trans (bq.mono B.size); clear bq; clear ks_0 ks_1 ks_2 ks_l kd_0 kd_1 kd_2 kd_l kp_0 kp_1 kp_2 kp_l kq_0 kq_1 kq_2 kq_l kn_0 kn_1 kn_2 kn_l fa_0 fa_1 fa_2 fa_3 fa_l fb_0 fb_1 fb_2 fb_3 fb_l; obtain ⟨ks_0, ks_1, ks_2⟩ := block3 ks; have ks_l := ks.lt; obtain ⟨kd_0, kd_1, kd_2⟩ := block3 kd; have kd_l := kd.lt; obtain ⟨kp_0, kp_1, kp_2⟩ := block3 kp; have kp_l := kp.lt; obtain ⟨kq_0, kq_1, kq_2⟩ := block3 kq; have kq_l := kq.lt; obtain ⟨kn_0, kn_1, kn_2⟩ := block3 kn; have kn_l := kn.lt; obtain ⟨fa_0, fa_1, fa_2, fa_3⟩ := block4 fa; have fa_l := fa.lt; obtain ⟨fb_0, fb_1, fb_2, fb_3⟩ := block4 fb; have fb_l := fb.lt))
      clear tok8
      clear ks_0 ks_1 ks_2 ks_l kd_0 kd_1 kd_2 kd_l kp_0 kp_1 kp_2 kp_l h1 h2 h3 ks kd kp
      go_wp2_with fail
      have h4 := h4.below ((Below.refl W14.heap.size W14).drew)
      have kq := kq.below ((Below.refl W14.heap.size W14).drew)
      have kn := kn.below ((Below.refl W14.heap.size W14).drew)
      have fa := fa.below ((Below.refl W14.heap.size W14).drew)
      have fb := fb.below ((Below.refl W14.heap.size W14).drew)
      have B := B.drew
      clear kq_0 kq_1 kq_2 kq_l kn_0 kn_1 kn_2 kn_l fa_0 fa_1 fa_2 fa_3 fa_l fb_0 fb_1 fb_2 fb_3 fb_l
      obtain ⟨kq_0, kq_1, kq_2⟩ := block3 kq
      have kq_l := kq.lt
      obtain ⟨kn_0, kn_1, kn_2⟩ := block3 kn
      have kn_l := kn.lt
      obtain ⟨fa_0, fa_1, fa_2, fa_3⟩ := block4 fa
      have fa_l := fa.lt
      obtain ⟨fb_0, fb_1, fb_2, fb_3⟩ := block4 fb
      have fb_l := fb.lt
      have tok0 : True := trivial
      go_region_held3 (fun w' => w'.cell? ⟨W4.heap.size, 0, none⟩ = some (.bool t4_) ∧ w'.cell? ⟨W4.heap.size, 1, none⟩ = some (.slice oa4 na4 ca4) ∧ w'.cell? ⟨W4.heap.size, 2, none⟩ = some (.slice ob4 nb4 cb4) ∧ w'.cell? ⟨pa, 0, none⟩ = some (.bool nx) ∧ w'.cell? ⟨pa, 1, none⟩ = some (.string n1) ∧ w'.cell? ⟨pa, 2, none⟩ = some (.string d1) ∧ w'.cell? ⟨pa, 3, none⟩ = some (.bool false) ∧ w'.cell? ⟨pb, 0, none⟩ = some (.bool ny) ∧ w'.cell? ⟨pb, 1, none⟩ = some (.string n2) ∧ w'.cell? ⟨pb, 2, none⟩ = some (.string d2) ∧ w'.cell? ⟨pb, 3, none⟩ = some (.bool false))
        (first | go_keep | (exact ⟨kq_0, kq_1, kq_2, fa_0, fa_1, fa_2, fa_3, fb_0, fb_1, fb_2, fb_3⟩))
        (first | (go_at_call 28; have _t := tok0; clear _t tok0; have tok1 : True := trivial; refine (QU.out _).mono ?_; rintro e W15 ⟨rfl, bq⟩; have h4 := h4.below bq; have kq := kq.below bq; have kn := kn.below bq; have fa := fa.below bq; have fb := fb.below bq; have B := B.trans (bq.mono B.size); clear bq; clear kq_0 kq_1 kq_2 kq_l kn_0 kn_1 kn_2 kn_l fa_0 fa_1 fa_2 fa_3 fa_l fb_0 fb_1 fb_2 fb_3 fb_l; obtain ⟨kq_0, kq_1, kq_2⟩ := block3 kq; have kq_l := kq.lt; obtain ⟨kn_0, kn_1, kn_2⟩ := block3 kn; have kn_l := kn.lt; obtain ⟨fa_0, fa_1, fa_2, fa_3⟩ := block4 fa; have fa_l := fa.lt; obtain ⟨fb_0, fb_1, fb_2, fb_3⟩ := block4 fb; have fb_l := fb.lt) | (go_at_call 18; have _t := tok1; clear _t tok1; have tok2 : True := trivial; refine (I4.out _ _ _ h4).mono ?_; rintro e W16 ⟨rfl, bq⟩; have h4 := h4.below bq; have kq := kq.below bq; have kn := kn.below bq; have fa := fa.below bq; have fb := fb.below bq; have B := B.trans (bq.mono B.size); clear bq; clear kq_0 kq_1 kq_2 kq_l kn_0 kn_1 kn_2 kn_l fa_0 fa_1 fa_2 fa_3 fa_l fb_0 fb_1 fb_2 fb_3 fb_l; obtain ⟨kq_0, kq_1, kq_2⟩ := block3 kq; have kq_l := kq.lt; obtain ⟨kn_0, kn_1, kn_2⟩ := block3 kn; have kn_l := kn.lt; obtain ⟨fa_0, fa_1, fa_2, fa_3⟩ := block4 fa; have fa_l := fa.lt; obtain ⟨fb_0, fb_1, fb_2, fb_3⟩ := block4 fb; have fb_l := fb.lt))
      clear tok2
      go_wp2_with fail
      go_ret
      exact ⟨rfl, B⟩
end Go.Proofs.Ythmhljfaenekfaa
