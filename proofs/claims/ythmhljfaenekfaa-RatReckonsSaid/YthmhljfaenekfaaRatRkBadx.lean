/- The law RatReckons: badx. -/
import Derived.Test.YthmhljfaenekfaaRatRk
namespace Go.Proofs.Ythmhljfaenekfaa
open Go.RowKit NM

set_option maxHeartbeats 100000000 in
set_option maxRecDepth 100000 in
theorem reckons_badx (s0 : Bool) (a0 : Option Addr) (len0 cap0 : Nat) (a1 : Option Addr) (len1 cap1 : Nat) (t0 : Bool) (a2 : Option Addr) (len2 cap2 : Nat) (a3 : Option Addr) (len3 cap3 : Nat) (xs ys us vs : List Int) (w : World)
    (F0 : ∀ W : World, Below w.heap.size w W → Calls Try.prog 7 #[.agg #[.bool s0, .slice a0 len0 cap0, .slice a1 len1 cap1]] W fun e w' => (∃ n d, e = .returned (.agg #[.bool s0, n, d]) ∧ Sl w' n xs ∧ Sl w' d ys) ∧ Below W.heap.size W w')
    (G0 : ∀ W : World, Below w.heap.size w W → Calls Try.prog 7 #[.agg #[.bool t0, .slice a2 len2 cap2, .slice a3 len3 cap3]] W fun e w' => (∃ n d, e = .returned (.agg #[.bool t0, n, d]) ∧ Sl w' n us ∧ Sl w' d vs) ∧ Below W.heap.size W w')
    (PX0 : ∀ (w : World) (v u : Value), Sl w v xs → Sl w u ys → BadR w (.agg #[.bool s0, v, u])) :
    Calls Try.prog 4 #[.agg #[.bool s0, .slice a0 len0 cap0, .slice a1 len1 cap1], .agg #[.bool t0, .slice a2 len2 cap2, .slice a3 len3 cap3]] w fun e w' => e = .returned (.bool true) ∧ Below w.heap.size w w' := by
  obtain ⟨B, ha, hb⟩ := two_start w #[.bool s0, .slice a0 len0 cap0, .slice a1 len1 cap1] #[.bool t0, .slice a2 len2 cap2, .slice a3 len3 cap3] 25
  have F := Lib.hid F0
  have G := Lib.hid G0
  have PX := Lib.hid PX0
  clear F0 G0 PX0
  go_enter Try.func4, Try.ntmps4
  go_wp2_with fail
  generalize (w.alloc (.cells #[.bool s0, .slice a0 len0 cap0, .slice a1 len1 cap1] 25)).alloc (.cells #[.bool t0, .slice a2 len2 cap2, .slice a3 len3 cap3] 25) = W at *
  go_cut [] (fun wx => ∃ n1 d1 n2 d2, Hid (BlockAt wx w.heap.size #[.bool s0, n1, d1] 25) ∧ Hid (BlockAt wx (w.heap.size + 1) #[.bool t0, n2, d2] 25) ∧ Hid (Sl wx n1 xs ∧ Sl wx d1 ys ∧ Sl wx n2 us ∧ Sl wx d2 vs) ∧ Hid (Below w.heap.size w wx))
  case first =>
    have D := (Below.refl W.heap.size W).drew
    have ha := ha.below D
    have hb := hb.below D
    have B := B.drew
    have tok1 : True := trivial
    clear D
    obtain ⟨k0, k1, k2⟩ := block3 ha
    obtain ⟨k3, k4, k5⟩ := block3 hb
    go_region_with (first
      | (go_at_call 7; have _t := tok1; clear _t tok1; have tok2 : True := trivial; refine (F.out _ B).mono ?_; rintro e W2 ⟨⟨n1, d1, rfl, x1, x2⟩, bq⟩; obtain ⟨p1, p2, p3, rfl⟩ := x1.form; obtain ⟨q1, q2, q3, rfl⟩ := x2.form; have ha := ha.below bq; have hb := hb.below bq; have B := B.trans (bq.mono B.size); clear bq; obtain ⟨k0, k1, k2⟩ := block3 ha; obtain ⟨k3, k4, k5⟩ := block3 hb)
      | (go_at_call 7; have _t := tok2; refine (G.out _ B).mono ?_; rintro e W3 ⟨⟨n2, d2, rfl, x3, x4⟩, bq⟩; obtain ⟨p4, p5, p6, rfl⟩ := x3.form; obtain ⟨q4, q5, q6, rfl⟩ := x4.form; have x1 := x1.below bq; have x2 := x2.below bq; have ha := ha.below bq; have hb := hb.below bq; have B := B.trans (bq.mono B.size); clear bq; obtain ⟨k0, k1, k2⟩ := block3 ha; obtain ⟨k3, k4, k5⟩ := block3 hb; have f0 := ha.free 0; have f1 := ha.free 1; have f2 := ha.free 2; have f3 := hb.free 0; have f4 := hb.free 1; have f5 := hb.free 2))
    all_goals
      obtain ⟨V, hV, y1, y2, y3, y4⟩ := both_set (a := s0) (b := t0) ha hb (Nat.le_refl _) B x1 x2 x3 x4
      have Y1 := Lib.hid y1
      have Y2 := Lib.hid y2
      have Y3 := Lib.hid y3
      have Y4 := Lib.hid y4
      have HV := Lib.hid hV
      clear y1 y2 y3 y4 hV x1 x2 x3 x4 ha hb B f0 f1 f2 f3 f4 f5 k0 k1 k2 k3 k4 k5
      go_wp2_with fail
      go_meet
      rw [← HV.out]
      exact ⟨_, _, _, _, Y1, Y2, Y3, Y4⟩
  case rest =>
    rename_i wc
    obtain ⟨n1, d1, n2, d2, ka, kb, hsl, hB⟩ := hcut
    obtain ⟨x1, x2, x3, x4⟩ := hsl.out
    have ka := ka.out
    have kb := kb.out
    have B := hB.out
    obtain ⟨ao1, an1, ac1, rfl⟩ := x1.form
    obtain ⟨ao2, an2, ac2, rfl⟩ := x2.form
    obtain ⟨ao3, an3, ac3, rfl⟩ := x3.form
    obtain ⟨ao4, an4, ac4, rfl⟩ := x4.form
    have hbx := PX.out _ _ _ x1 x2
    have FB : FormR (.agg #[.bool t0, .slice ao3 an3 ac3, .slice ao4 an4 ac4]) := ⟨_, _, _, rfl⟩
    have hbad : BadPair wc (.agg #[.bool s0, .slice ao1 an1 ac1, .slice ao2 an2 ac2]) (.agg #[.bool t0, .slice ao3 an3 ac3, .slice ao4 an4 ac4]) := .inl hbx
    clear hsl hB x1 x2 x3 x4 F G PX
    obtain ⟨ka_0, ka_1, ka_2⟩ := block3 ka
    have ka_l := ka.lt
    obtain ⟨kb_0, kb_1, kb_2⟩ := block3 kb
    have kb_l := kb.lt
    have HC := Lib.hid (add_badr _ _ _ hbad FB)
    go_wp2_with fail
    refine HC.out.mono ?_
    rintro e W1 ⟨hk, bq⟩
    clear HC
    have hbx := hbx.below bq
    have hbad := hbad.below bq
    have ka := ka.below bq
    have kb := kb.below bq
    have B := B.trans (bq.mono B.size)
    clear bq
    clear ka_0 ka_1 ka_2 ka_l kb_0 kb_1 kb_2 kb_l
    obtain ⟨ka_0, ka_1, ka_2⟩ := block3 ka
    have ka_l := ka.lt
    obtain ⟨kb_0, kb_1, kb_2⟩ := block3 kb
    have kb_l := kb.lt
    unfold nilRat at hk
    obtain rfl := hk
    have b4 : Below W1.heap.size W1 (W1.alloc (.cells #[.bool false, .slice none 0 0, .slice none 0 0] 25)) := (Below.refl _ _).alloc (Nat.le_refl _) _
    have ks := BlockAt.new W1 #[.bool false, .slice none 0 0, .slice none 0 0] 25
    have hbx := hbx.below b4
    have hbad := hbad.below b4
    have ka := ka.below b4
    have kb := kb.below b4
    have B := B.trans (b4.mono B.size)
    clear b4
    have HC := Lib.hid (sub_badr _ _ _ hbad FB)
    go_wp2_with fail
    refine HC.out.mono ?_
    rintro e W2 ⟨hk, bq⟩
    clear HC
    have hbx := hbx.below bq
    have hbad := hbad.below bq
    have ka := ka.below bq
    have kb := kb.below bq
    have ks := ks.below bq
    have B := B.trans (bq.mono B.size)
    clear bq
    clear ka_0 ka_1 ka_2 ka_l kb_0 kb_1 kb_2 kb_l
    obtain ⟨ka_0, ka_1, ka_2⟩ := block3 ka
    have ka_l := ka.lt
    obtain ⟨kb_0, kb_1, kb_2⟩ := block3 kb
    have kb_l := kb.lt
    obtain ⟨ks_0, ks_1, ks_2⟩ := block3 ks
    have ks_l := ks.lt
    unfold nilRat at hk
    obtain rfl := hk
    have b4 : Below W2.heap.size W2 (W2.alloc (.cells #[.bool false, .slice none 0 0, .slice none 0 0] 25)) := (Below.refl _ _).alloc (Nat.le_refl _) _
    have kd := BlockAt.new W2 #[.bool false, .slice none 0 0, .slice none 0 0] 25
    have hbx := hbx.below b4
    have hbad := hbad.below b4
    have ka := ka.below b4
    have kb := kb.below b4
    have ks := ks.below b4
    have B := B.trans (b4.mono B.size)
    clear b4
    have HC := Lib.hid (mul_badr _ _ _ hbad FB)
    go_wp2_with fail
    refine HC.out.mono ?_
    rintro e W3 ⟨hk, bq⟩
    clear HC
    have hbx := hbx.below bq
    have hbad := hbad.below bq
    have ka := ka.below bq
    have kb := kb.below bq
    have ks := ks.below bq
    have kd := kd.below bq
    have B := B.trans (bq.mono B.size)
    clear bq
    clear ka_0 ka_1 ka_2 ka_l kb_0 kb_1 kb_2 kb_l ks_0 ks_1 ks_2 ks_l
    obtain ⟨ka_0, ka_1, ka_2⟩ := block3 ka
    have ka_l := ka.lt
    obtain ⟨kb_0, kb_1, kb_2⟩ := block3 kb
    have kb_l := kb.lt
    obtain ⟨ks_0, ks_1, ks_2⟩ := block3 ks
    have ks_l := ks.lt
    obtain ⟨kd_0, kd_1, kd_2⟩ := block3 kd
    have kd_l := kd.lt
    unfold nilRat at hk
    obtain rfl := hk
    have b4 : Below W3.heap.size W3 (W3.alloc (.cells #[.bool false, .slice none 0 0, .slice none 0 0] 25)) := (Below.refl _ _).alloc (Nat.le_refl _) _
    have kp := BlockAt.new W3 #[.bool false, .slice none 0 0, .slice none 0 0] 25
    have hbx := hbx.below b4
    have hbad := hbad.below b4
    have ka := ka.below b4
    have kb := kb.below b4
    have ks := ks.below b4
    have kd := kd.below b4
    have B := B.trans (b4.mono B.size)
    clear b4
    have HC := Lib.hid (quo_badr _ _ _ hbad FB)
    go_wp2_with fail
    refine HC.out.mono ?_
    rintro e W4 ⟨hk, bq⟩
    clear HC
    have hbx := hbx.below bq
    have hbad := hbad.below bq
    have ka := ka.below bq
    have kb := kb.below bq
    have ks := ks.below bq
    have kd := kd.below bq
    have kp := kp.below bq
    have B := B.trans (bq.mono B.size)
    clear bq
    clear ka_0 ka_1 ka_2 ka_l kb_0 kb_1 kb_2 kb_l ks_0 ks_1 ks_2 ks_l kd_0 kd_1 kd_2 kd_l
    obtain ⟨ka_0, ka_1, ka_2⟩ := block3 ka
    have ka_l := ka.lt
    obtain ⟨kb_0, kb_1, kb_2⟩ := block3 kb
    have kb_l := kb.lt
    obtain ⟨ks_0, ks_1, ks_2⟩ := block3 ks
    have ks_l := ks.lt
    obtain ⟨kd_0, kd_1, kd_2⟩ := block3 kd
    have kd_l := kd.lt
    obtain ⟨kp_0, kp_1, kp_2⟩ := block3 kp
    have kp_l := kp.lt
    unfold nilRat at hk
    obtain rfl := hk
    have b4 : Below W4.heap.size W4 (W4.alloc (.cells #[.bool false, .slice none 0 0, .slice none 0 0] 25)) := (Below.refl _ _).alloc (Nat.le_refl _) _
    have kq := BlockAt.new W4 #[.bool false, .slice none 0 0, .slice none 0 0] 25
    have hbx := hbx.below b4
    have hbad := hbad.below b4
    have ka := ka.below b4
    have kb := kb.below b4
    have ks := ks.below b4
    have kd := kd.below b4
    have kp := kp.below b4
    have B := B.trans (b4.mono B.size)
    clear b4
    clear hbad
    have bn : Below (W4.alloc (.cells #[.bool false, .slice none 0 0, .slice none 0 0] 25)).heap.size (W4.alloc (.cells #[.bool false, .slice none 0 0, .slice none 0 0] 25)) ((W4.alloc (.cells #[.bool false, .slice none 0 0, .slice none 0 0] 25)).alloc (.cells #[.bool false, .slice none 0 0, .slice none 0 0] 25)) := (Below.refl _ _).alloc (Nat.le_refl _) _
    have kn := BlockAt.new (W4.alloc (.cells #[.bool false, .slice none 0 0, .slice none 0 0] 25)) #[.bool false, .slice none 0 0, .slice none 0 0] 25
    rw [show ((W4.alloc (.cells #[.bool false, .slice none 0 0, .slice none 0 0] 25))).heap.size = W4.heap.size + 1 by simp] at kn
    have hbx := hbx.below bn
    have ka := ka.below bn
    have kb := kb.below bn
    have ks := ks.below bn
    have kd := kd.below bn
    have kp := kp.below bn
    have kq := kq.below bn
    have B := B.trans (bn.mono B.size)
    clear bn
    have HC := Lib.hid (refR_not hbx)
    go_wp2_with fail
    refine HC.out.mono ?_
    rintro e W5 ⟨rfl, bq⟩
    clear HC
    have hbx := hbx.below bq
    have ka := ka.below bq
    have kb := kb.below bq
    have ks := ks.below bq
    have kd := kd.below bq
    have kp := kp.below bq
    have kq := kq.below bq
    have kn := kn.below bq
    have B := B.trans (bq.mono B.size)
    clear bq
    clear ka_0 ka_1 ka_2 ka_l kb_0 kb_1 kb_2 kb_l ks_0 ks_1 ks_2 ks_l kd_0 kd_1 kd_2 kd_l kp_0 kp_1 kp_2 kp_l
    obtain ⟨ka_0, ka_1, ka_2⟩ := block3 ka
    have ka_l := ka.lt
    obtain ⟨kb_0, kb_1, kb_2⟩ := block3 kb
    have kb_l := kb.lt
    obtain ⟨ks_0, ks_1, ks_2⟩ := block3 ks
    have ks_l := ks.lt
    obtain ⟨kd_0, kd_1, kd_2⟩ := block3 kd
    have kd_l := kd.lt
    obtain ⟨kp_0, kp_1, kp_2⟩ := block3 kp
    have kp_l := kp.lt
    obtain ⟨kq_0, kq_1, kq_2⟩ := block3 kq
    have kq_l := kq.lt
    obtain ⟨kn_0, kn_1, kn_2⟩ := block3 kn
    have kn_l := kn.lt
    have HC := Lib.hid (aliveR W5)
    go_wp2_with fail
    refine HC.out.mono ?_
    rintro e W6 ⟨rfl, bq⟩
    clear HC
    have hbx := hbx.below bq
    have ka := ka.below bq
    have kb := kb.below bq
    have ks := ks.below bq
    have kd := kd.below bq
    have kp := kp.below bq
    have kq := kq.below bq
    have kn := kn.below bq
    have B := B.trans (bq.mono B.size)
    clear bq
    clear ka_0 ka_1 ka_2 ka_l kb_0 kb_1 kb_2 kb_l ks_0 ks_1 ks_2 ks_l kd_0 kd_1 kd_2 kd_l kp_0 kp_1 kp_2 kp_l kq_0 kq_1 kq_2 kq_l kn_0 kn_1 kn_2 kn_l
    obtain ⟨ka_0, ka_1, ka_2⟩ := block3 ka
    have ka_l := ka.lt
    obtain ⟨kb_0, kb_1, kb_2⟩ := block3 kb
    have kb_l := kb.lt
    obtain ⟨ks_0, ks_1, ks_2⟩ := block3 ks
    have ks_l := ks.lt
    obtain ⟨kd_0, kd_1, kd_2⟩ := block3 kd
    have kd_l := kd.lt
    obtain ⟨kp_0, kp_1, kp_2⟩ := block3 kp
    have kp_l := kp.lt
    obtain ⟨kq_0, kq_1, kq_2⟩ := block3 kq
    have kq_l := kq.lt
    obtain ⟨kn_0, kn_1, kn_2⟩ := block3 kn
    have kn_l := kn.lt
    have HC := Lib.hid (same_none W6)
    go_wp2_with fail
    refine HC.out.mono ?_
    rintro e W7 ⟨rfl, bq⟩
    clear HC
    have hbx := hbx.below bq
    have ka := ka.below bq
    have kb := kb.below bq
    have ks := ks.below bq
    have kd := kd.below bq
    have kp := kp.below bq
    have kq := kq.below bq
    have kn := kn.below bq
    have B := B.trans (bq.mono B.size)
    clear bq
    clear ka_0 ka_1 ka_2 ka_l kb_0 kb_1 kb_2 kb_l ks_0 ks_1 ks_2 ks_l kd_0 kd_1 kd_2 kd_l kp_0 kp_1 kp_2 kp_l kq_0 kq_1 kq_2 kq_l kn_0 kn_1 kn_2 kn_l
    obtain ⟨ka_0, ka_1, ka_2⟩ := block3 ka
    have ka_l := ka.lt
    obtain ⟨kb_0, kb_1, kb_2⟩ := block3 kb
    have kb_l := kb.lt
    obtain ⟨ks_0, ks_1, ks_2⟩ := block3 ks
    have ks_l := ks.lt
    obtain ⟨kd_0, kd_1, kd_2⟩ := block3 kd
    have kd_l := kd.lt
    obtain ⟨kp_0, kp_1, kp_2⟩ := block3 kp
    have kp_l := kp.lt
    obtain ⟨kq_0, kq_1, kq_2⟩ := block3 kq
    have kq_l := kq.lt
    obtain ⟨kn_0, kn_1, kn_2⟩ := block3 kn
    have kn_l := kn.lt
    have HC := Lib.hid (same_none W7)
    go_wp2_with fail
    refine HC.out.mono ?_
    rintro e W8 ⟨rfl, bq⟩
    clear HC
    have hbx := hbx.below bq
    have ka := ka.below bq
    have kb := kb.below bq
    have ks := ks.below bq
    have kd := kd.below bq
    have kp := kp.below bq
    have kq := kq.below bq
    have kn := kn.below bq
    have B := B.trans (bq.mono B.size)
    clear bq
    clear ka_0 ka_1 ka_2 ka_l kb_0 kb_1 kb_2 kb_l ks_0 ks_1 ks_2 ks_l kd_0 kd_1 kd_2 kd_l kp_0 kp_1 kp_2 kp_l kq_0 kq_1 kq_2 kq_l kn_0 kn_1 kn_2 kn_l
    obtain ⟨ka_0, ka_1, ka_2⟩ := block3 ka
    have ka_l := ka.lt
    obtain ⟨kb_0, kb_1, kb_2⟩ := block3 kb
    have kb_l := kb.lt
    obtain ⟨ks_0, ks_1, ks_2⟩ := block3 ks
    have ks_l := ks.lt
    obtain ⟨kd_0, kd_1, kd_2⟩ := block3 kd
    have kd_l := kd.lt
    obtain ⟨kp_0, kp_1, kp_2⟩ := block3 kp
    have kp_l := kp.lt
    obtain ⟨kq_0, kq_1, kq_2⟩ := block3 kq
    have kq_l := kq.lt
    obtain ⟨kn_0, kn_1, kn_2⟩ := block3 kn
    have kn_l := kn.lt
    have HC := Lib.hid (same_none W8)
    go_wp2_with fail
    refine HC.out.mono ?_
    rintro e W9 ⟨rfl, bq⟩
    clear HC
    have hbx := hbx.below bq
    have ka := ka.below bq
    have kb := kb.below bq
    have ks := ks.below bq
    have kd := kd.below bq
    have kp := kp.below bq
    have kq := kq.below bq
    have kn := kn.below bq
    have B := B.trans (bq.mono B.size)
    clear bq
    clear ka_0 ka_1 ka_2 ka_l kb_0 kb_1 kb_2 kb_l ks_0 ks_1 ks_2 ks_l kd_0 kd_1 kd_2 kd_l kp_0 kp_1 kp_2 kp_l kq_0 kq_1 kq_2 kq_l kn_0 kn_1 kn_2 kn_l
    obtain ⟨ka_0, ka_1, ka_2⟩ := block3 ka
    have ka_l := ka.lt
    obtain ⟨kb_0, kb_1, kb_2⟩ := block3 kb
    have kb_l := kb.lt
    obtain ⟨ks_0, ks_1, ks_2⟩ := block3 ks
    have ks_l := ks.lt
    obtain ⟨kd_0, kd_1, kd_2⟩ := block3 kd
    have kd_l := kd.lt
    obtain ⟨kp_0, kp_1, kp_2⟩ := block3 kp
    have kp_l := kp.lt
    obtain ⟨kq_0, kq_1, kq_2⟩ := block3 kq
    have kq_l := kq.lt
    obtain ⟨kn_0, kn_1, kn_2⟩ := block3 kn
    have kn_l := kn.lt
    have HC := Lib.hid (same_none W9)
    go_wp2_with fail
    refine HC.out.mono ?_
    rintro e W10 ⟨rfl, bq⟩
    clear HC
    have hbx := hbx.below bq
    have ka := ka.below bq
    have kb := kb.below bq
    have ks := ks.below bq
    have kd := kd.below bq
    have kp := kp.below bq
    have kq := kq.below bq
    have kn := kn.below bq
    have B := B.trans (bq.mono B.size)
    clear bq
    clear ka_0 ka_1 ka_2 ka_l kb_0 kb_1 kb_2 kb_l ks_0 ks_1 ks_2 ks_l kd_0 kd_1 kd_2 kd_l kp_0 kp_1 kp_2 kp_l kq_0 kq_1 kq_2 kq_l kn_0 kn_1 kn_2 kn_l
    obtain ⟨ka_0, ka_1, ka_2⟩ := block3 ka
    have ka_l := ka.lt
    obtain ⟨kb_0, kb_1, kb_2⟩ := block3 kb
    have kb_l := kb.lt
    obtain ⟨ks_0, ks_1, ks_2⟩ := block3 ks
    have ks_l := ks.lt
    obtain ⟨kd_0, kd_1, kd_2⟩ := block3 kd
    have kd_l := kd.lt
    obtain ⟨kp_0, kp_1, kp_2⟩ := block3 kp
    have kp_l := kp.lt
    obtain ⟨kq_0, kq_1, kq_2⟩ := block3 kq
    have kq_l := kq.lt
    obtain ⟨kn_0, kn_1, kn_2⟩ := block3 kn
    have kn_l := kn.lt
    go_wp2_with fail
    go_ret
    exact ⟨rfl, B⟩
end Go.Proofs.Ythmhljfaenekfaa
