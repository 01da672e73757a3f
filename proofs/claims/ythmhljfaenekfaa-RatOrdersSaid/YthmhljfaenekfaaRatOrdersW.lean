/- The law RatOrders. -/
import Derived.Test.YthmhljfaenekfaaRatCut
namespace Go.Proofs.Ythmhljfaenekfaa
open Go.RowKit NM

/-- What the reference answers to one number, every text under a name. -/
theorem facts1 (x : Rat) (_hx : (x.num.natAbs : Int) < pw 16 ∧ (x.den : Int) < pw 16) (fx : Far x.num.natAbs) (fd : Far x.den) : ∃ (nx : Bool) (n1 d1 q1 r1 : ByteArray) (V1 : Value),
    (nx = decide (x.num < 0) ∧ n1 = numStr x.num.natAbs ∧ d1 = numStr x.den) ∧
    (∀ (W : World) (v : Value), RatN W v x → Calls Try.prog 16 #[v] W fun e w' => e = .returned (.agg #[.bool nx, .string n1, .string d1, .bool false]) ∧ Below W.heap.size W w') ∧
    (∀ W : World, Calls Try.prog 32 #[.string n1, .string d1] W fun e w' => e = .returned (.agg #[.string q1, .string r1]) ∧ Below W.heap.size W w') ∧
    (∀ W : World, Calls Try.prog 19 #[.agg #[.bool nx, .string q1, .string ⟨#[49]⟩, .bool false]] W fun e w' => e = .returned V1 ∧ Below W.heap.size W w') ∧
    (∀ (W : World) (v : Value), RatN W v (ratTrunc x) → Calls Try.prog 31 #[v, V1] W fun e w' => e = .returned (.bool true) ∧ Below W.heap.size W w') := by
  have hq : Far (x.num.natAbs / x.den) := by
    have := Nat.div_le_self x.num.natAbs x.den
    unfold Far at *
    omega
  refine ⟨_, _, _, numStr ((x.num.natAbs / x.den : Nat) : Int), numStr ((x.num.natAbs % x.den : Nat) : Int), redV (decide (x.num < 0)) (x.num.natAbs / x.den) 1 false, ⟨rfl, rfl, rfl⟩, fun W v h => of_rat v x W h, fun W => ?_, fun W => ?_, fun W v h => ?_⟩
  · exact refdiv2_fun (x.num.natAbs : Int) (x.den : Int) W (by omega) fx.lt (by have := den_pos x; omega) fd
  · have h := red_fun (decide (x.num < 0)) (x.num.natAbs / x.den) 1 false W hq (by unfold Far big; decide +kernel) (by omega)
    unfold fracV at h
    rw [show numStr ((1 : Nat) : Int) = ⟨#[49]⟩ from numStr_one] at h
    exact h
  · rw [redV_frac _ (by omega)]
    exact isF_true v _ _ W h
theorem facts2 (x y : Rat) (n1 d1 : ByteArray) (e1 : n1 = numStr x.num.natAbs) (e2 : d1 = numStr x.den) (hx : (x.num.natAbs : Int) < pw 16 ∧ (x.den : Int) < pw 16) (hy : (y.num.natAbs : Int) < pw 16 ∧ (y.den : Int) < pw 16) :
    ∃ (ny : Bool) (n2 d2 l r : ByteArray) (o1 o2 : Bool) (g : Int),
    (∀ (W : World) (v : Value), RatN W v y → Calls Try.prog 16 #[v] W fun e w' => e = .returned (.agg #[.bool ny, .string n2, .string d2, .bool false]) ∧ Below W.heap.size W w') ∧
    (∀ W : World, Calls Try.prog 33 #[.string n1, .string d2] W fun e w' => e = .returned (.string l) ∧ Below W.heap.size W w') ∧
    (∀ W : World, Calls Try.prog 33 #[.string n2, .string d1] W fun e w' => e = .returned (.string r) ∧ Below W.heap.size W w') ∧
    (∀ W : World, Calls Try.prog 34 #[.string l] W fun e w' => e = .returned (.bool o1) ∧ Below W.heap.size W w') ∧
    (∀ W : World, Calls Try.prog 34 #[.string r] W fun e w' => e = .returned (.bool o2) ∧ Below W.heap.size W w') ∧
    (∀ W : World, Calls Try.prog 35 #[.string l, .string r] W fun e w' => e = .returned (.int .i64 g) ∧ W = w') ∧
    ((o1 = true ∨ o2 = true) ↔ OverC x y) ∧ (-1 ≤ g ∧ g ≤ 1) ∧ ratSgn x y = (if decide (x.num < 0) = true then (if ny then -g else -1) else (if ny then 1 else g)) := by
  subst e1 e2
  have f1 := far_mul hx.1 hy.2
  have f2 := far_mul hy.1 hx.2
  refine ⟨_, _, _, numStr ((x.num.natAbs * y.den : Nat) : Int), numStr ((y.num.natAbs * x.den : Nat) : Int), overB (x.num.natAbs * y.den), overB (y.num.natAbs * x.den), sgn ((x.num.natAbs * y.den : Nat) : Int) ((y.num.natAbs * x.den : Nat) : Int), fun W v h => of_rat v y W h, fun W => refmul_nat hx.1 hy.2 W, fun W => refmul_nat hy.1 hx.2 W, fun W => over_nat f1 W, fun W => over_nat f2 W, fun W => cmp_fun _ _ W (by omega) (by omega) f1.lt f2.lt, ?_, ?_, ?_⟩
  · unfold OverC
    rw [overB_iff, overB_iff]
  · unfold sgn
    split
    · omega
    · split <;> omega
  · have hs := sgn_signs (decide (x.num < 0)) (decide (y.num < 0)) (x.num.natAbs * y.den) (y.num.natAbs * x.den)
      (fun h => Nat.mul_pos (by have := of_decide_eq_true h; omega) (den_pos y)) (fun h => Nat.mul_pos (by have := of_decide_eq_true h; omega) (den_pos x))
    rw [← sg_mul, ← sg_mul, ← num_sg, ← num_sg, ← ratSgn_num] at hs
    rw [hs, signCmp]
    have hn : ∀ a b : Int, sgn b a = - sgn a b := by
      intro a b
      unfold sgn
      split <;> split <;> (try split) <;> omega
    rw [hn ((x.num.natAbs * y.den : Nat) : Int) _]
theorem RatN.fars {w : World} {v : Value} {x : Rat} (h : RatN w v x) : Far x.num.natAbs ∧ Far x.den := by
  obtain ⟨n, d, _, h1, h2⟩ := h
  exact ⟨far_num h1, far_num h2⟩

set_option maxHeartbeats 100000000 in
set_option maxRecDepth 100000 in
theorem orders_walk (s0 : Bool) (a0 : Option Addr) (len0 cap0 : Nat) (z0 : List Int) (a1 : Option Addr) (len1 cap1 : Nat) (z1 : List Int) (t0 : Bool) (a2 : Option Addr) (len2 cap2 : Nat) (z2 : List Int) (a3 : Option Addr) (len3 cap3 : Nat) (z3 : List Int) (w : World)
    (w0 : IsRow .u32 w a0 len0 cap0 z0) (w1 : IsRow .u32 w a1 len1 cap1 z1) (w2 : IsRow .u32 w a2 len2 cap2 z2) (w3 : IsRow .u32 w a3 len3 cap3 z3) :
    Calls Try.prog 5 #[.agg #[.bool s0, .slice a0 len0 cap0, .slice a1 len1 cap1], .agg #[.bool t0, .slice a2 len2 cap2, .slice a3 len3 cap3]] w fun e w' => e = .returned (.bool true) ∧ Below w.heap.size w w' := by
  obtain ⟨B, ha, hb⟩ := two_start w #[.bool s0, .slice a0 len0 cap0, .slice a1 len1 cap1] #[.bool t0, .slice a2 len2 cap2, .slice a3 len3 cap3] 25
  have F := Lib.hid (fun (W : World) (B : Below w.heap.size w W) => fewR s0 a0 len0 cap0 z0 a1 len1 cap1 z1 W (w0.later B) (w1.later B))
  have G := Lib.hid (fun (W : World) (B : Below w.heap.size w W) => fewR t0 a2 len2 cap2 z2 a3 len3 cap3 z3 W (w2.later B) (w3.later B))
  clear w0 w1 w2 w3
  go_enter Try.func5, Try.ntmps5
  go_wp2_with fail
  generalize (w.alloc (.cells #[.bool s0, .slice a0 len0 cap0, .slice a1 len1 cap1] 25)).alloc (.cells #[.bool t0, .slice a2 len2 cap2, .slice a3 len3 cap3] 25) = W at *
  go_cut [] (fun wx => ∃ s t n1 d1 n2 d2 xs ys us vs, Hid (BlockAt wx w.heap.size #[.bool s, n1, d1] 25) ∧ Hid (BlockAt wx (w.heap.size + 1) #[.bool t, n2, d2] 25) ∧ Hid (Sl wx n1 xs ∧ Sl wx d1 ys ∧ Sl wx n2 us ∧ Sl wx d2 vs) ∧ Hid (Below w.heap.size w wx))
  case first =>
    have D := (Below.refl W.heap.size W).drew
    have ha := ha.below D
    have hb := hb.below D
    have B := B.drew
    have tok1 : True := trivial
    clear D
    obtain ⟨k0, k1, k2⟩ := block3 ha
    obtain ⟨k3, k4, k5⟩ := block3 hb
    go_region_with (first
      | (go_at_call 7; have _t := tok1; clear _t tok1; have tok2 : True := trivial; refine (F.out _ B).mono ?_; rintro e W2 ⟨⟨n1, d1, xs, ys, rfl, x1, x2⟩, bq⟩; obtain ⟨p1, p2, p3, rfl⟩ := x1.form; obtain ⟨q1, q2, q3, rfl⟩ := x2.form; have ha := ha.below bq; have hb := hb.below bq; have B := B.trans (bq.mono B.size); clear bq; obtain ⟨k0, k1, k2⟩ := block3 ha; obtain ⟨k3, k4, k5⟩ := block3 hb)
      | (go_at_call 7; have _t := tok2; refine (G.out _ B).mono ?_; rintro e W3 ⟨⟨n2, d2, us, vs, rfl, x3, x4⟩, bq⟩; obtain ⟨p4, p5, p6, rfl⟩ := x3.form; obtain ⟨q4, q5, q6, rfl⟩ := x4.form; have x1 := x1.below bq; have x2 := x2.below bq; have ha := ha.below bq; have hb := hb.below bq; have B := B.trans (bq.mono B.size); clear bq; obtain ⟨k0, k1, k2⟩ := block3 ha; obtain ⟨k3, k4, k5⟩ := block3 hb; have f0 := ha.free 0; have f1 := ha.free 1; have f2 := ha.free 2; have f3 := hb.free 0; have f4 := hb.free 1; have f5 := hb.free 2))
    all_goals
      obtain ⟨V, hV, y1, y2, y3, y4⟩ := both_set (a := s0) (b := t0) ha hb (Nat.le_refl _) B x1 x2 x3 x4
      have Y1 := Lib.hid y1
      have Y2 := Lib.hid y2
      have Y3 := Lib.hid y3
      have Y4 := Lib.hid y4
      have HV := Lib.hid hV
      clear y1 y2 y3 y4 hV x1 x2 x3 x4 ha hb B f0 f1 f2 f3 f4 f5 k0 k1 k2 k3 k4 k5
      go_wp2_with fail
      go_meet
      rw [← HV.out]
      exact ⟨s0, t0, _, _, _, _, _, _, _, _, Y1, Y2, Y3, Y4⟩
  case rest =>
    rename_i wc
    obtain ⟨s, t, n1, d1, n2, d2, xs, ys, us, vs, ka, kb, hsl, hB⟩ := hcut
    obtain ⟨x1, x2, x3, x4⟩ := hsl.out
    have ka := ka.out
    have kb := kb.out
    have B := hB.out
    obtain ⟨ao1, an1, ac1, rfl⟩ := x1.form
    obtain ⟨ao2, an2, ac2, rfl⟩ := x2.form
    obtain ⟨ao3, an3, ac3, rfl⟩ := x3.form
    obtain ⟨ao4, an4, ac4, rfl⟩ := x4.form
    have HX := Lib.hid (rat_ways _ s _ _ _ _ x1 x2)
    have HY := Lib.hid (rat_ways _ t _ _ _ _ x3 x4)
    clear hsl hB x1 x2 x3 x4 F G
    have FB : FormR (.agg #[.bool t, .slice ao3 an3 ac3, .slice ao4 an4 ac4]) := ⟨_, _, _, rfl⟩
    rcases HX.out with ⟨x, hx⟩ | hbx
    · obtain ⟨fx1, fx2⟩ := hx.fars
      obtain ⟨nx, n1, d1, q1, r1, V1, ⟨en, e1, e2⟩, g1, g2, g3, g4⟩ := facts1 x hx.lt fx1 fx2
      have OF := Lib.hid g1
      have DV := Lib.hid g2
      have RD := Lib.hid g3
      have IS := Lib.hid g4
      clear g1 g2 g3 g4 fx1 fx2
      rcases HY.out with ⟨y, hy⟩ | hby
      · clear HX HY
        obtain ⟨ny, n2, d2, l, r, o1, o2, g, g1, g2, g3, g4, g5, g6, g7, g8, g9⟩ := facts2 x y n1 d1 e1 e2 hx.lt hy.lt
        rw [← en] at g9
        have OFY := Lib.hid g1
        have M1 := Lib.hid g2
        have M2 := Lib.hid g3
        have O1 := Lib.hid g4
        have O2 := Lib.hid g5
        have CM := Lib.hid g6
        clear g1 g2 g3 g4 g5 g6 en e1 e2
        cases o1
        · cases o2
          · have HO := Lib.hid (show ¬ OverC x y from fun h => by simpa using g7.2 h)
            have gl := g8.1
            have gu := g8.2
            have hgg : (g == g) = true := by simp
            have hgg2 : (-g == -g) = true := by simp
            clear g7 g8
            cases nx
            · cases ny
              · have HS := Lib.hid g9
                rw [if_neg Bool.false_ne_true, if_neg Bool.false_ne_true] at HS
                clear g9
                obtain ⟨ka_0, ka_1, ka_2⟩ := block3 ka
                have ka_l := ka.lt
                obtain ⟨kb_0, kb_1, kb_2⟩ := block3 kb
                have kb_l := kb.lt
                have HC := Lib.hid (cmp_rat _ _ x y _ hx hy)
                go_wp2_with fail
                refine HC.out.mono ?_
                rintro e W1 ⟨hk, bq⟩
                clear HC
                have hx := hx.below bq
                have hy := hy.below bq
                have ka := ka.below bq
                have kb := kb.below bq
                have B := B.trans (bq.mono B.size)
                clear bq
                clear ka_0 ka_1 ka_2 ka_l kb_0 kb_1 kb_2 kb_l
                obtain ⟨ka_0, ka_1, ka_2⟩ := block3 ka
                have ka_l := ka.lt
                obtain ⟨kb_0, kb_1, kb_2⟩ := block3 kb
                have kb_l := kb.lt
                have he := hk.ok HO.out
                rw [HS.out] at he
                obtain rfl := he
                have HC := Lib.hid (trunc_rat _ x _ hx)
                go_wp2_with fail
                refine HC.out.mono ?_
                rintro e W2 ⟨⟨rt, rfl, ht⟩, bq⟩
                clear HC
                have hx := hx.below bq
                have hy := hy.below bq
                have ka := ka.below bq
                have kb := kb.below bq
                have B := B.trans (bq.mono B.size)
                clear bq
                clear ka_0 ka_1 ka_2 ka_l kb_0 kb_1 kb_2 kb_l
                obtain ⟨ka_0, ka_1, ka_2⟩ := block3 ka
                have ka_l := ka.lt
                obtain ⟨kb_0, kb_1, kb_2⟩ := block3 kb
                have kb_l := kb.lt
                obtain ⟨t1_, oa1, na1, ca1, ob1, nb1, cb1, rfl⟩ := RawN.form ht
                have b4 : Below W2.heap.size W2 (W2.alloc (.cells #[.bool t1_, .slice oa1 na1 ca1, .slice ob1 nb1 cb1] 25)) := (Below.refl _ _).alloc (Nat.le_refl _) _
                have kt := BlockAt.new W2 #[.bool t1_, .slice oa1 na1 ca1, .slice ob1 nb1 cb1] 25
                have hx := hx.below b4
                have hy := hy.below b4
                have ht := ht.below b4
                have ka := ka.below b4
                have kb := kb.below b4
                have B := B.trans (b4.mono B.size)
                clear b4
                have HC := Lib.hid (refR_rat hx)
                go_wp2_with fail
                refine HC.out.mono ?_
                rintro e W3 ⟨rfl, bq⟩
                clear HC
                have hx := hx.below bq
                have hy := hy.below bq
                have ht := ht.below bq
                have ka := ka.below bq
                have kb := kb.below bq
                have kt := kt.below bq
                have B := B.trans (bq.mono B.size)
                clear bq
                clear ka_0 ka_1 ka_2 ka_l kb_0 kb_1 kb_2 kb_l
                obtain ⟨ka_0, ka_1, ka_2⟩ := block3 ka
                have ka_l := ka.lt
                obtain ⟨kb_0, kb_1, kb_2⟩ := block3 kb
                have kb_l := kb.lt
                obtain ⟨kt_0, kt_1, kt_2⟩ := block3 kt
                have kt_l := kt.lt
                have HC := Lib.hid (OF.out _ _ hx)
                go_wp2_with fail
                refine HC.out.mono ?_
                rintro e W4 ⟨rfl, bq⟩
                clear HC
                have hx := hx.below bq
                have hy := hy.below bq
                have ht := ht.below bq
                have ka := ka.below bq
                have kb := kb.below bq
                have kt := kt.below bq
                have B := B.trans (bq.mono B.size)
                clear bq
                clear ka_0 ka_1 ka_2 ka_l kb_0 kb_1 kb_2 kb_l kt_0 kt_1 kt_2 kt_l
                obtain ⟨ka_0, ka_1, ka_2⟩ := block3 ka
                have ka_l := ka.lt
                obtain ⟨kb_0, kb_1, kb_2⟩ := block3 kb
                have kb_l := kb.lt
                obtain ⟨kt_0, kt_1, kt_2⟩ := block3 kt
                have kt_l := kt.lt
                have b4 : Below W4.heap.size W4 (W4.alloc (.cells #[.bool false, .string n1, .string d1, .bool false] 37)) := (Below.refl _ _).alloc (Nat.le_refl _) _
                have fx := BlockAt.new W4 #[.bool false, .string n1, .string d1, .bool false] 37
                have hx := hx.below b4
                have hy := hy.below b4
                have ht := ht.below b4
                have ka := ka.below b4
                have kb := kb.below b4
                have kt := kt.below b4
                have B := B.trans (b4.mono B.size)
                clear b4
                have fQ := fieldQ
                go_wp2_with fail
                generalize W4.alloc (.cells #[.bool false, .string n1, .string d1, .bool false] 37) = U5 at *
                have hx := hx.below ((Below.refl U5.heap.size U5).drew)
                have hy := hy.below ((Below.refl U5.heap.size U5).drew)
                have ht := ht.below ((Below.refl U5.heap.size U5).drew)
                have ka := ka.below ((Below.refl U5.heap.size U5).drew)
                have kb := kb.below ((Below.refl U5.heap.size U5).drew)
                have kt := kt.below ((Below.refl U5.heap.size U5).drew)
                have fx := fx.below ((Below.refl U5.heap.size U5).drew)
                have B := B.drew
                clear ka_0 ka_1 ka_2 ka_l kb_0 kb_1 kb_2 kb_l kt_0 kt_1 kt_2 kt_l
                obtain ⟨ka_0, ka_1, ka_2⟩ := block3 ka
                have ka_l := ka.lt
                obtain ⟨kb_0, kb_1, kb_2⟩ := block3 kb
                have kb_l := kb.lt
                obtain ⟨kt_0, kt_1, kt_2⟩ := block3 kt
                have kt_l := kt.lt
                obtain ⟨fx_0, fx_1, fx_2, fx_3⟩ := block4 fx
                have fx_l := fx.lt
                have tok0 : True := trivial
                go_region_held3 (fun w' => w'.cell? ⟨W2.heap.size, 0, none⟩ = some (.bool t1_) ∧ w'.cell? ⟨W2.heap.size, 1, none⟩ = some (.slice oa1 na1 ca1) ∧ w'.cell? ⟨W2.heap.size, 2, none⟩ = some (.slice ob1 nb1 cb1) ∧ w'.cell? ⟨W4.heap.size, 0, none⟩ = some (.bool false) ∧ w'.cell? ⟨W4.heap.size, 1, none⟩ = some (.string n1) ∧ w'.cell? ⟨W4.heap.size, 2, none⟩ = some (.string d1))
                  (first | go_keep | (exact ⟨kt_0, kt_1, kt_2, fx_0, fx_1, fx_2⟩))
                  (first | (go_at_call 32; have _t := tok0; clear _t tok0; have tok1 : True := trivial; refine (DV.out _).mono ?_; rintro e W6 ⟨rfl, bq⟩; have hx := hx.below bq; have hy := hy.below bq; have ht := ht.below bq; have ka := ka.below bq; have kb := kb.below bq; have kt := kt.below bq; have fx := fx.below bq; have B := B.trans (bq.mono B.size); clear bq; clear ka_0 ka_1 ka_2 ka_l kb_0 kb_1 kb_2 kb_l kt_0 kt_1 kt_2 kt_l fx_0 fx_1 fx_2 fx_3 fx_l; obtain ⟨ka_0, ka_1, ka_2⟩ := block3 ka; have ka_l := ka.lt; obtain ⟨kb_0, kb_1, kb_2⟩ := block3 kb; have kb_l := kb.lt; obtain ⟨kt_0, kt_1, kt_2⟩ := block3 kt; have kt_l := kt.lt; obtain ⟨fx_0, fx_1, fx_2, fx_3⟩ := block4 fx; have fx_l := fx.lt) | (go_at_call 19; have _t := tok1; clear _t tok1; have tok2 : True := trivial; refine (RD.out _).mono ?_; rintro e W7 ⟨rfl, bq⟩; have hx := hx.below bq; have hy := hy.below bq; have ht := ht.below bq; have ka := ka.below bq; have kb := kb.below bq; have kt := kt.below bq; have fx := fx.below bq; have B := B.trans (bq.mono B.size); clear bq; clear ka_0 ka_1 ka_2 ka_l kb_0 kb_1 kb_2 kb_l kt_0 kt_1 kt_2 kt_l fx_0 fx_1 fx_2 fx_3 fx_l; obtain ⟨ka_0, ka_1, ka_2⟩ := block3 ka; have ka_l := ka.lt; obtain ⟨kb_0, kb_1, kb_2⟩ := block3 kb; have kb_l := kb.lt; obtain ⟨kt_0, kt_1, kt_2⟩ := block3 kt; have kt_l := kt.lt; obtain ⟨fx_0, fx_1, fx_2, fx_3⟩ := block4 fx; have fx_l := fx.lt) | (go_at_call 31; have _t := tok2; clear _t tok2; have tok3 : True := trivial; refine (IS.out _ _ ht).mono ?_; rintro e W8 ⟨rfl, bq⟩; have hx := hx.below bq; have hy := hy.below bq; have ht := ht.below bq; have ka := ka.below bq; have kb := kb.below bq; have kt := kt.below bq; have fx := fx.below bq; have B := B.trans (bq.mono B.size); clear bq; clear ka_0 ka_1 ka_2 ka_l kb_0 kb_1 kb_2 kb_l kt_0 kt_1 kt_2 kt_l fx_0 fx_1 fx_2 fx_3 fx_l; obtain ⟨ka_0, ka_1, ka_2⟩ := block3 ka; have ka_l := ka.lt; obtain ⟨kb_0, kb_1, kb_2⟩ := block3 kb; have kb_l := kb.lt; obtain ⟨kt_0, kt_1, kt_2⟩ := block3 kt; have kt_l := kt.lt; obtain ⟨fx_0, fx_1, fx_2, fx_3⟩ := block4 fx; have fx_l := fx.lt) | (go_at_call 14; have _t := tok3; clear _t tok3; have tok4 : True := trivial; refine (aliveR _).mono ?_; rintro e W9 ⟨rfl, bq⟩; have hx := hx.below bq; have hy := hy.below bq; have ht := ht.below bq; have ka := ka.below bq; have kb := kb.below bq; have kt := kt.below bq; have fx := fx.below bq; have B := B.trans (bq.mono B.size); clear bq; clear ka_0 ka_1 ka_2 ka_l kb_0 kb_1 kb_2 kb_l kt_0 kt_1 kt_2 kt_l fx_0 fx_1 fx_2 fx_3 fx_l; obtain ⟨ka_0, ka_1, ka_2⟩ := block3 ka; have ka_l := ka.lt; obtain ⟨kb_0, kb_1, kb_2⟩ := block3 kb; have kb_l := kb.lt; obtain ⟨kt_0, kt_1, kt_2⟩ := block3 kt; have kt_l := kt.lt; obtain ⟨fx_0, fx_1, fx_2, fx_3⟩ := block4 fx; have fx_l := fx.lt))
                clear tok4
                clear fQ
                clear kt_0 kt_1 kt_2 kt_l kt ht
                have HC := Lib.hid (refR_rat hy)
                go_wp2_with fail
                refine HC.out.mono ?_
                rintro e W10 ⟨rfl, bq⟩
                clear HC
                have hx := hx.below bq
                have hy := hy.below bq
                have ka := ka.below bq
                have kb := kb.below bq
                have fx := fx.below bq
                have B := B.trans (bq.mono B.size)
                clear bq
                clear ka_0 ka_1 ka_2 ka_l kb_0 kb_1 kb_2 kb_l fx_0 fx_1 fx_2 fx_3 fx_l
                obtain ⟨ka_0, ka_1, ka_2⟩ := block3 ka
                have ka_l := ka.lt
                obtain ⟨kb_0, kb_1, kb_2⟩ := block3 kb
                have kb_l := kb.lt
                obtain ⟨fx_0, fx_1, fx_2, fx_3⟩ := block4 fx
                have fx_l := fx.lt
                have HC := Lib.hid (OFY.out _ _ hy)
                go_wp2_with fail
                refine HC.out.mono ?_
                rintro e W11 ⟨rfl, bq⟩
                clear HC
                have hx := hx.below bq
                have hy := hy.below bq
                have ka := ka.below bq
                have kb := kb.below bq
                have fx := fx.below bq
                have B := B.trans (bq.mono B.size)
                clear bq
                clear ka_0 ka_1 ka_2 ka_l kb_0 kb_1 kb_2 kb_l fx_0 fx_1 fx_2 fx_3 fx_l
                obtain ⟨ka_0, ka_1, ka_2⟩ := block3 ka
                have ka_l := ka.lt
                obtain ⟨kb_0, kb_1, kb_2⟩ := block3 kb
                have kb_l := kb.lt
                obtain ⟨fx_0, fx_1, fx_2, fx_3⟩ := block4 fx
                have fx_l := fx.lt
                have b4 : Below W11.heap.size W11 (W11.alloc (.cells #[.bool false, .string n2, .string d2, .bool false] 37)) := (Below.refl _ _).alloc (Nat.le_refl _) _
                have fy := BlockAt.new W11 #[.bool false, .string n2, .string d2, .bool false] 37
                have hx := hx.below b4
                have hy := hy.below b4
                have ka := ka.below b4
                have kb := kb.below b4
                have fx := fx.below b4
                have B := B.trans (b4.mono B.size)
                clear b4
                clear ka_0 ka_1 ka_2 ka_l kb_0 kb_1 kb_2 kb_l hx hy ka kb
                go_wp2_with fail
                generalize W11.alloc (.cells #[.bool false, .string n2, .string d2, .bool false] 37) = U12 at *
                have fx := fx.below ((Below.refl U12.heap.size U12).drew)
                have fy := fy.below ((Below.refl U12.heap.size U12).drew)
                have B := B.drew
                clear fx_0 fx_1 fx_2 fx_3 fx_l
                obtain ⟨fx_0, fx_1, fx_2, fx_3⟩ := block4 fx
                have fx_l := fx.lt
                obtain ⟨fy_0, fy_1, fy_2, fy_3⟩ := block4 fy
                have fy_l := fy.lt
                have tok0 : True := trivial
                go_region_held3 (fun w' => w'.cell? ⟨W4.heap.size, 1, none⟩ = some (.string n1) ∧ w'.cell? ⟨W4.heap.size, 2, none⟩ = some (.string d1) ∧ w'.cell? ⟨W11.heap.size, 1, none⟩ = some (.string n2) ∧ w'.cell? ⟨W11.heap.size, 2, none⟩ = some (.string d2))
                  (first | go_keep | (exact ⟨fx_1, fx_2, fy_1, fy_2⟩))
                  (first | (go_at_call 33; have _t := tok0; clear _t tok0; have tok1 : True := trivial; refine (M1.out _).mono ?_; rintro e W13 ⟨rfl, bq⟩; have fx := fx.below bq; have fy := fy.below bq; have B := B.trans (bq.mono B.size); clear bq; clear fx_0 fx_1 fx_2 fx_3 fx_l fy_0 fy_1 fy_2 fy_3 fy_l; obtain ⟨fx_0, fx_1, fx_2, fx_3⟩ := block4 fx; have fx_l := fx.lt; obtain ⟨fy_0, fy_1, fy_2, fy_3⟩ := block4 fy; have fy_l := fy.lt) | (go_at_call 33; have _t := tok1; clear _t tok1; have tok2 : True := trivial; refine (M2.out _).mono ?_; rintro e W14 ⟨rfl, bq⟩; have fx := fx.below bq; have fy := fy.below bq; have B := B.trans (bq.mono B.size); clear bq; clear fx_0 fx_1 fx_2 fx_3 fx_l fy_0 fy_1 fy_2 fy_3 fy_l; obtain ⟨fx_0, fx_1, fx_2, fx_3⟩ := block4 fx; have fx_l := fx.lt; obtain ⟨fy_0, fy_1, fy_2, fy_3⟩ := block4 fy; have fy_l := fy.lt))
                clear tok2
                have HC := Lib.hid (O1.out W14)
                go_wp2_with fail
                refine HC.out.mono ?_
                rintro e W15 ⟨rfl, bq⟩
                clear HC
                have fx := fx.below bq
                have fy := fy.below bq
                have B := B.trans (bq.mono B.size)
                clear bq
                clear fx_0 fx_1 fx_2 fx_3 fx_l fy_0 fy_1 fy_2 fy_3 fy_l
                obtain ⟨fx_0, fx_1, fx_2, fx_3⟩ := block4 fx
                have fx_l := fx.lt
                obtain ⟨fy_0, fy_1, fy_2, fy_3⟩ := block4 fy
                have fy_l := fy.lt
                have HC := Lib.hid (O2.out W15)
                go_wp2_with fail
                refine HC.out.mono ?_
                rintro e W16 ⟨rfl, bq⟩
                clear HC
                have fx := fx.below bq
                have fy := fy.below bq
                have B := B.trans (bq.mono B.size)
                clear bq
                clear fx_0 fx_1 fx_2 fx_3 fx_l fy_0 fy_1 fy_2 fy_3 fy_l
                obtain ⟨fx_0, fx_1, fx_2, fx_3⟩ := block4 fx
                have fx_l := fx.lt
                obtain ⟨fy_0, fy_1, fy_2, fy_3⟩ := block4 fy
                have fy_l := fy.lt
                go_wp2_with fail
                refine (CM.out _).mono ?_
                rintro e w' ⟨rfl, rfl⟩
                go_wp2_with fail
                go_ret
                exact ⟨rfl, B⟩
              · have HS := Lib.hid g9
                rw [if_neg Bool.false_ne_true, if_pos rfl] at HS
                clear g9
                obtain ⟨ka_0, ka_1, ka_2⟩ := block3 ka
                have ka_l := ka.lt
                obtain ⟨kb_0, kb_1, kb_2⟩ := block3 kb
                have kb_l := kb.lt
                have HC := Lib.hid (cmp_rat _ _ x y _ hx hy)
                go_wp2_with fail
                refine HC.out.mono ?_
                rintro e W1 ⟨hk, bq⟩
                clear HC
                have hx := hx.below bq
                have hy := hy.below bq
                have ka := ka.below bq
                have kb := kb.below bq
                have B := B.trans (bq.mono B.size)
                clear bq
                clear ka_0 ka_1 ka_2 ka_l kb_0 kb_1 kb_2 kb_l
                obtain ⟨ka_0, ka_1, ka_2⟩ := block3 ka
                have ka_l := ka.lt
                obtain ⟨kb_0, kb_1, kb_2⟩ := block3 kb
                have kb_l := kb.lt
                have he := hk.ok HO.out
                rw [HS.out] at he
                obtain rfl := he
                have HC := Lib.hid (trunc_rat _ x _ hx)
                go_wp2_with fail
                refine HC.out.mono ?_
                rintro e W2 ⟨⟨rt, rfl, ht⟩, bq⟩
                clear HC
                have hx := hx.below bq
                have hy := hy.below bq
                have ka := ka.below bq
                have kb := kb.below bq
                have B := B.trans (bq.mono B.size)
                clear bq
                clear ka_0 ka_1 ka_2 ka_l kb_0 kb_1 kb_2 kb_l
                obtain ⟨ka_0, ka_1, ka_2⟩ := block3 ka
                have ka_l := ka.lt
                obtain ⟨kb_0, kb_1, kb_2⟩ := block3 kb
                have kb_l := kb.lt
                obtain ⟨t1_, oa1, na1, ca1, ob1, nb1, cb1, rfl⟩ := RawN.form ht
                have b4 : Below W2.heap.size W2 (W2.alloc (.cells #[.bool t1_, .slice oa1 na1 ca1, .slice ob1 nb1 cb1] 25)) := (Below.refl _ _).alloc (Nat.le_refl _) _
                have kt := BlockAt.new W2 #[.bool t1_, .slice oa1 na1 ca1, .slice ob1 nb1 cb1] 25
                have hx := hx.below b4
                have hy := hy.below b4
                have ht := ht.below b4
                have ka := ka.below b4
                have kb := kb.below b4
                have B := B.trans (b4.mono B.size)
                clear b4
                have HC := Lib.hid (refR_rat hx)
                go_wp2_with fail
                refine HC.out.mono ?_
                rintro e W3 ⟨rfl, bq⟩
                clear HC
                have hx := hx.below bq
                have hy := hy.below bq
                have ht := ht.below bq
                have ka := ka.below bq
                have kb := kb.below bq
                have kt := kt.below bq
                have B := B.trans (bq.mono B.size)
                clear bq
                clear ka_0 ka_1 ka_2 ka_l kb_0 kb_1 kb_2 kb_l
                obtain ⟨ka_0, ka_1, ka_2⟩ := block3 ka
                have ka_l := ka.lt
                obtain ⟨kb_0, kb_1, kb_2⟩ := block3 kb
                have kb_l := kb.lt
                obtain ⟨kt_0, kt_1, kt_2⟩ := block3 kt
                have kt_l := kt.lt
                have HC := Lib.hid (OF.out _ _ hx)
                go_wp2_with fail
                refine HC.out.mono ?_
                rintro e W4 ⟨rfl, bq⟩
                clear HC
                have hx := hx.below bq
                have hy := hy.below bq
                have ht := ht.below bq
                have ka := ka.below bq
                have kb := kb.below bq
                have kt := kt.below bq
                have B := B.trans (bq.mono B.size)
                clear bq
                clear ka_0 ka_1 ka_2 ka_l kb_0 kb_1 kb_2 kb_l kt_0 kt_1 kt_2 kt_l
                obtain ⟨ka_0, ka_1, ka_2⟩ := block3 ka
                have ka_l := ka.lt
                obtain ⟨kb_0, kb_1, kb_2⟩ := block3 kb
                have kb_l := kb.lt
                obtain ⟨kt_0, kt_1, kt_2⟩ := block3 kt
                have kt_l := kt.lt
                have b4 : Below W4.heap.size W4 (W4.alloc (.cells #[.bool false, .string n1, .string d1, .bool false] 37)) := (Below.refl _ _).alloc (Nat.le_refl _) _
                have fx := BlockAt.new W4 #[.bool false, .string n1, .string d1, .bool false] 37
                have hx := hx.below b4
                have hy := hy.below b4
                have ht := ht.below b4
                have ka := ka.below b4
                have kb := kb.below b4
                have kt := kt.below b4
                have B := B.trans (b4.mono B.size)
                clear b4
                have fQ := fieldQ
                go_wp2_with fail
                generalize W4.alloc (.cells #[.bool false, .string n1, .string d1, .bool false] 37) = U5 at *
                have hx := hx.below ((Below.refl U5.heap.size U5).drew)
                have hy := hy.below ((Below.refl U5.heap.size U5).drew)
                have ht := ht.below ((Below.refl U5.heap.size U5).drew)
                have ka := ka.below ((Below.refl U5.heap.size U5).drew)
                have kb := kb.below ((Below.refl U5.heap.size U5).drew)
                have kt := kt.below ((Below.refl U5.heap.size U5).drew)
                have fx := fx.below ((Below.refl U5.heap.size U5).drew)
                have B := B.drew
                clear ka_0 ka_1 ka_2 ka_l kb_0 kb_1 kb_2 kb_l kt_0 kt_1 kt_2 kt_l
                obtain ⟨ka_0, ka_1, ka_2⟩ := block3 ka
                have ka_l := ka.lt
                obtain ⟨kb_0, kb_1, kb_2⟩ := block3 kb
                have kb_l := kb.lt
                obtain ⟨kt_0, kt_1, kt_2⟩ := block3 kt
                have kt_l := kt.lt
                obtain ⟨fx_0, fx_1, fx_2, fx_3⟩ := block4 fx
                have fx_l := fx.lt
                have tok0 : True := trivial
                go_region_held3 (fun w' => w'.cell? ⟨W2.heap.size, 0, none⟩ = some (.bool t1_) ∧ w'.cell? ⟨W2.heap.size, 1, none⟩ = some (.slice oa1 na1 ca1) ∧ w'.cell? ⟨W2.heap.size, 2, none⟩ = some (.slice ob1 nb1 cb1) ∧ w'.cell? ⟨W4.heap.size, 0, none⟩ = some (.bool false) ∧ w'.cell? ⟨W4.heap.size, 1, none⟩ = some (.string n1) ∧ w'.cell? ⟨W4.heap.size, 2, none⟩ = some (.string d1))
                  (first | go_keep | (exact ⟨kt_0, kt_1, kt_2, fx_0, fx_1, fx_2⟩))
                  (first | (go_at_call 32; have _t := tok0; clear _t tok0; have tok1 : True := trivial; refine (DV.out _).mono ?_; rintro e W6 ⟨rfl, bq⟩; have hx := hx.below bq; have hy := hy.below bq; have ht := ht.below bq; have ka := ka.below bq; have kb := kb.below bq; have kt := kt.below bq; have fx := fx.below bq; have B := B.trans (bq.mono B.size); clear bq; clear ka_0 ka_1 ka_2 ka_l kb_0 kb_1 kb_2 kb_l kt_0 kt_1 kt_2 kt_l fx_0 fx_1 fx_2 fx_3 fx_l; obtain ⟨ka_0, ka_1, ka_2⟩ := block3 ka; have ka_l := ka.lt; obtain ⟨kb_0, kb_1, kb_2⟩ := block3 kb; have kb_l := kb.lt; obtain ⟨kt_0, kt_1, kt_2⟩ := block3 kt; have kt_l := kt.lt; obtain ⟨fx_0, fx_1, fx_2, fx_3⟩ := block4 fx; have fx_l := fx.lt) | (go_at_call 19; have _t := tok1; clear _t tok1; have tok2 : True := trivial; refine (RD.out _).mono ?_; rintro e W7 ⟨rfl, bq⟩; have hx := hx.below bq; have hy := hy.below bq; have ht := ht.below bq; have ka := ka.below bq; have kb := kb.below bq; have kt := kt.below bq; have fx := fx.below bq; have B := B.trans (bq.mono B.size); clear bq; clear ka_0 ka_1 ka_2 ka_l kb_0 kb_1 kb_2 kb_l kt_0 kt_1 kt_2 kt_l fx_0 fx_1 fx_2 fx_3 fx_l; obtain ⟨ka_0, ka_1, ka_2⟩ := block3 ka; have ka_l := ka.lt; obtain ⟨kb_0, kb_1, kb_2⟩ := block3 kb; have kb_l := kb.lt; obtain ⟨kt_0, kt_1, kt_2⟩ := block3 kt; have kt_l := kt.lt; obtain ⟨fx_0, fx_1, fx_2, fx_3⟩ := block4 fx; have fx_l := fx.lt) | (go_at_call 31; have _t := tok2; clear _t tok2; have tok3 : True := trivial; refine (IS.out _ _ ht).mono ?_; rintro e W8 ⟨rfl, bq⟩; have hx := hx.below bq; have hy := hy.below bq; have ht := ht.below bq; have ka := ka.below bq; have kb := kb.below bq; have kt := kt.below bq; have fx := fx.below bq; have B := B.trans (bq.mono B.size); clear bq; clear ka_0 ka_1 ka_2 ka_l kb_0 kb_1 kb_2 kb_l kt_0 kt_1 kt_2 kt_l fx_0 fx_1 fx_2 fx_3 fx_l; obtain ⟨ka_0, ka_1, ka_2⟩ := block3 ka; have ka_l := ka.lt; obtain ⟨kb_0, kb_1, kb_2⟩ := block3 kb; have kb_l := kb.lt; obtain ⟨kt_0, kt_1, kt_2⟩ := block3 kt; have kt_l := kt.lt; obtain ⟨fx_0, fx_1, fx_2, fx_3⟩ := block4 fx; have fx_l := fx.lt) | (go_at_call 14; have _t := tok3; clear _t tok3; have tok4 : True := trivial; refine (aliveR _).mono ?_; rintro e W9 ⟨rfl, bq⟩; have hx := hx.below bq; have hy := hy.below bq; have ht := ht.below bq; have ka := ka.below bq; have kb := kb.below bq; have kt := kt.below bq; have fx := fx.below bq; have B := B.trans (bq.mono B.size); clear bq; clear ka_0 ka_1 ka_2 ka_l kb_0 kb_1 kb_2 kb_l kt_0 kt_1 kt_2 kt_l fx_0 fx_1 fx_2 fx_3 fx_l; obtain ⟨ka_0, ka_1, ka_2⟩ := block3 ka; have ka_l := ka.lt; obtain ⟨kb_0, kb_1, kb_2⟩ := block3 kb; have kb_l := kb.lt; obtain ⟨kt_0, kt_1, kt_2⟩ := block3 kt; have kt_l := kt.lt; obtain ⟨fx_0, fx_1, fx_2, fx_3⟩ := block4 fx; have fx_l := fx.lt))
                clear tok4
                clear fQ
                clear kt_0 kt_1 kt_2 kt_l kt ht
                have HC := Lib.hid (refR_rat hy)
                go_wp2_with fail
                refine HC.out.mono ?_
                rintro e W10 ⟨rfl, bq⟩
                clear HC
                have hx := hx.below bq
                have hy := hy.below bq
                have ka := ka.below bq
                have kb := kb.below bq
                have fx := fx.below bq
                have B := B.trans (bq.mono B.size)
                clear bq
                clear ka_0 ka_1 ka_2 ka_l kb_0 kb_1 kb_2 kb_l fx_0 fx_1 fx_2 fx_3 fx_l
                obtain ⟨ka_0, ka_1, ka_2⟩ := block3 ka
                have ka_l := ka.lt
                obtain ⟨kb_0, kb_1, kb_2⟩ := block3 kb
                have kb_l := kb.lt
                obtain ⟨fx_0, fx_1, fx_2, fx_3⟩ := block4 fx
                have fx_l := fx.lt
                have HC := Lib.hid (OFY.out _ _ hy)
                go_wp2_with fail
                refine HC.out.mono ?_
                rintro e W11 ⟨rfl, bq⟩
                clear HC
                have hx := hx.below bq
                have hy := hy.below bq
                have ka := ka.below bq
                have kb := kb.below bq
                have fx := fx.below bq
                have B := B.trans (bq.mono B.size)
                clear bq
                clear ka_0 ka_1 ka_2 ka_l kb_0 kb_1 kb_2 kb_l fx_0 fx_1 fx_2 fx_3 fx_l
                obtain ⟨ka_0, ka_1, ka_2⟩ := block3 ka
                have ka_l := ka.lt
                obtain ⟨kb_0, kb_1, kb_2⟩ := block3 kb
                have kb_l := kb.lt
                obtain ⟨fx_0, fx_1, fx_2, fx_3⟩ := block4 fx
                have fx_l := fx.lt
                have b4 : Below W11.heap.size W11 (W11.alloc (.cells #[.bool true, .string n2, .string d2, .bool false] 37)) := (Below.refl _ _).alloc (Nat.le_refl _) _
                have fy := BlockAt.new W11 #[.bool true, .string n2, .string d2, .bool false] 37
                have hx := hx.below b4
                have hy := hy.below b4
                have ka := ka.below b4
                have kb := kb.below b4
                have fx := fx.below b4
                have B := B.trans (b4.mono B.size)
                clear b4
                clear ka_0 ka_1 ka_2 ka_l kb_0 kb_1 kb_2 kb_l hx hy ka kb
                go_wp2_with fail
                generalize W11.alloc (.cells #[.bool true, .string n2, .string d2, .bool false] 37) = U12 at *
                have fx := fx.below ((Below.refl U12.heap.size U12).drew)
                have fy := fy.below ((Below.refl U12.heap.size U12).drew)
                have B := B.drew
                clear fx_0 fx_1 fx_2 fx_3 fx_l
                obtain ⟨fx_0, fx_1, fx_2, fx_3⟩ := block4 fx
                have fx_l := fx.lt
                obtain ⟨fy_0, fy_1, fy_2, fy_3⟩ := block4 fy
                have fy_l := fy.lt
                have tok0 : True := trivial
                go_region_held3 (fun w' => w'.cell? ⟨W4.heap.size, 1, none⟩ = some (.string n1) ∧ w'.cell? ⟨W4.heap.size, 2, none⟩ = some (.string d1) ∧ w'.cell? ⟨W11.heap.size, 1, none⟩ = some (.string n2) ∧ w'.cell? ⟨W11.heap.size, 2, none⟩ = some (.string d2))
                  (first | go_keep | (exact ⟨fx_1, fx_2, fy_1, fy_2⟩))
                  (first | (go_at_call 33; have _t := tok0; clear _t tok0; have tok1 : True := trivial; refine (M1.out _).mono ?_; rintro e W13 ⟨rfl, bq⟩; have fx := fx.below bq; have fy := fy.below bq; have B := B.trans (bq.mono B.size); clear bq; clear fx_0 fx_1 fx_2 fx_3 fx_l fy_0 fy_1 fy_2 fy_3 fy_l; obtain ⟨fx_0, fx_1, fx_2, fx_3⟩ := block4 fx; have fx_l := fx.lt; obtain ⟨fy_0, fy_1, fy_2, fy_3⟩ := block4 fy; have fy_l := fy.lt) | (go_at_call 33; have _t := tok1; clear _t tok1; have tok2 : True := trivial; refine (M2.out _).mono ?_; rintro e W14 ⟨rfl, bq⟩; have fx := fx.below bq; have fy := fy.below bq; have B := B.trans (bq.mono B.size); clear bq; clear fx_0 fx_1 fx_2 fx_3 fx_l fy_0 fy_1 fy_2 fy_3 fy_l; obtain ⟨fx_0, fx_1, fx_2, fx_3⟩ := block4 fx; have fx_l := fx.lt; obtain ⟨fy_0, fy_1, fy_2, fy_3⟩ := block4 fy; have fy_l := fy.lt))
                clear tok2
                have HC := Lib.hid (O1.out W14)
                go_wp2_with fail
                refine HC.out.mono ?_
                rintro e W15 ⟨rfl, bq⟩
                clear HC
                have fx := fx.below bq
                have fy := fy.below bq
                have B := B.trans (bq.mono B.size)
                clear bq
                clear fx_0 fx_1 fx_2 fx_3 fx_l fy_0 fy_1 fy_2 fy_3 fy_l
                obtain ⟨fx_0, fx_1, fx_2, fx_3⟩ := block4 fx
                have fx_l := fx.lt
                obtain ⟨fy_0, fy_1, fy_2, fy_3⟩ := block4 fy
                have fy_l := fy.lt
                have HC := Lib.hid (O2.out W15)
                go_wp2_with fail
                refine HC.out.mono ?_
                rintro e W16 ⟨rfl, bq⟩
                clear HC
                have fx := fx.below bq
                have fy := fy.below bq
                have B := B.trans (bq.mono B.size)
                clear bq
                clear fx_0 fx_1 fx_2 fx_3 fx_l fy_0 fy_1 fy_2 fy_3 fy_l
                obtain ⟨fx_0, fx_1, fx_2, fx_3⟩ := block4 fx
                have fx_l := fx.lt
                obtain ⟨fy_0, fy_1, fy_2, fy_3⟩ := block4 fy
                have fy_l := fy.lt
                go_wp2_with fail
                refine (CM.out _).mono ?_
                rintro e w' ⟨rfl, rfl⟩
                go_wp2_with fail
                go_ret
                exact ⟨rfl, B⟩
            · cases ny
              · have HS := Lib.hid g9
                rw [if_pos rfl, if_neg Bool.false_ne_true] at HS
                clear g9
                obtain ⟨ka_0, ka_1, ka_2⟩ := block3 ka
                have ka_l := ka.lt
                obtain ⟨kb_0, kb_1, kb_2⟩ := block3 kb
                have kb_l := kb.lt
                have HC := Lib.hid (cmp_rat _ _ x y _ hx hy)
                go_wp2_with fail
                refine HC.out.mono ?_
                rintro e W1 ⟨hk, bq⟩
                clear HC
                have hx := hx.below bq
                have hy := hy.below bq
                have ka := ka.below bq
                have kb := kb.below bq
                have B := B.trans (bq.mono B.size)
                clear bq
                clear ka_0 ka_1 ka_2 ka_l kb_0 kb_1 kb_2 kb_l
                obtain ⟨ka_0, ka_1, ka_2⟩ := block3 ka
                have ka_l := ka.lt
                obtain ⟨kb_0, kb_1, kb_2⟩ := block3 kb
                have kb_l := kb.lt
                have he := hk.ok HO.out
                rw [HS.out] at he
                obtain rfl := he
                have HC := Lib.hid (trunc_rat _ x _ hx)
                go_wp2_with fail
                refine HC.out.mono ?_
                rintro e W2 ⟨⟨rt, rfl, ht⟩, bq⟩
                clear HC
                have hx := hx.below bq
                have hy := hy.below bq
                have ka := ka.below bq
                have kb := kb.below bq
                have B := B.trans (bq.mono B.size)
                clear bq
                clear ka_0 ka_1 ka_2 ka_l kb_0 kb_1 kb_2 kb_l
                obtain ⟨ka_0, ka_1, ka_2⟩ := block3 ka
                have ka_l := ka.lt
                obtain ⟨kb_0, kb_1, kb_2⟩ := block3 kb
                have kb_l := kb.lt
                obtain ⟨t1_, oa1, na1, ca1, ob1, nb1, cb1, rfl⟩ := RawN.form ht
                have b4 : Below W2.heap.size W2 (W2.alloc (.cells #[.bool t1_, .slice oa1 na1 ca1, .slice ob1 nb1 cb1] 25)) := (Below.refl _ _).alloc (Nat.le_refl _) _
                have kt := BlockAt.new W2 #[.bool t1_, .slice oa1 na1 ca1, .slice ob1 nb1 cb1] 25
                have hx := hx.below b4
                have hy := hy.below b4
                have ht := ht.below b4
                have ka := ka.below b4
                have kb := kb.below b4
                have B := B.trans (b4.mono B.size)
                clear b4
                have HC := Lib.hid (refR_rat hx)
                go_wp2_with fail
                refine HC.out.mono ?_
                rintro e W3 ⟨rfl, bq⟩
                clear HC
                have hx := hx.below bq
                have hy := hy.below bq
                have ht := ht.below bq
                have ka := ka.below bq
                have kb := kb.below bq
                have kt := kt.below bq
                have B := B.trans (bq.mono B.size)
                clear bq
                clear ka_0 ka_1 ka_2 ka_l kb_0 kb_1 kb_2 kb_l
                obtain ⟨ka_0, ka_1, ka_2⟩ := block3 ka
                have ka_l := ka.lt
                obtain ⟨kb_0, kb_1, kb_2⟩ := block3 kb
                have kb_l := kb.lt
                obtain ⟨kt_0, kt_1, kt_2⟩ := block3 kt
                have kt_l := kt.lt
                have HC := Lib.hid (OF.out _ _ hx)
                go_wp2_with fail
                refine HC.out.mono ?_
                rintro e W4 ⟨rfl, bq⟩
                clear HC
                have hx := hx.below bq
                have hy := hy.below bq
                have ht := ht.below bq
                have ka := ka.below bq
                have kb := kb.below bq
                have kt := kt.below bq
                have B := B.trans (bq.mono B.size)
                clear bq
                clear ka_0 ka_1 ka_2 ka_l kb_0 kb_1 kb_2 kb_l kt_0 kt_1 kt_2 kt_l
                obtain ⟨ka_0, ka_1, ka_2⟩ := block3 ka
                have ka_l := ka.lt
                obtain ⟨kb_0, kb_1, kb_2⟩ := block3 kb
                have kb_l := kb.lt
                obtain ⟨kt_0, kt_1, kt_2⟩ := block3 kt
                have kt_l := kt.lt
                have b4 : Below W4.heap.size W4 (W4.alloc (.cells #[.bool true, .string n1, .string d1, .bool false] 37)) := (Below.refl _ _).alloc (Nat.le_refl _) _
                have fx := BlockAt.new W4 #[.bool true, .string n1, .string d1, .bool false] 37
                have hx := hx.below b4
                have hy := hy.below b4
                have ht := ht.below b4
                have ka := ka.below b4
                have kb := kb.below b4
                have kt := kt.below b4
                have B := B.trans (b4.mono B.size)
                clear b4
                have fQ := fieldQ
                go_wp2_with fail
                generalize W4.alloc (.cells #[.bool true, .string n1, .string d1, .bool false] 37) = U5 at *
                have hx := hx.below ((Below.refl U5.heap.size U5).drew)
                have hy := hy.below ((Below.refl U5.heap.size U5).drew)
                have ht := ht.below ((Below.refl U5.heap.size U5).drew)
                have ka := ka.below ((Below.refl U5.heap.size U5).drew)
                have kb := kb.below ((Below.refl U5.heap.size U5).drew)
                have kt := kt.below ((Below.refl U5.heap.size U5).drew)
                have fx := fx.below ((Below.refl U5.heap.size U5).drew)
                have B := B.drew
                clear ka_0 ka_1 ka_2 ka_l kb_0 kb_1 kb_2 kb_l kt_0 kt_1 kt_2 kt_l
                obtain ⟨ka_0, ka_1, ka_2⟩ := block3 ka
                have ka_l := ka.lt
                obtain ⟨kb_0, kb_1, kb_2⟩ := block3 kb
                have kb_l := kb.lt
                obtain ⟨kt_0, kt_1, kt_2⟩ := block3 kt
                have kt_l := kt.lt
                obtain ⟨fx_0, fx_1, fx_2, fx_3⟩ := block4 fx
                have fx_l := fx.lt
                have tok0 : True := trivial
                go_region_held3 (fun w' => w'.cell? ⟨W2.heap.size, 0, none⟩ = some (.bool t1_) ∧ w'.cell? ⟨W2.heap.size, 1, none⟩ = some (.slice oa1 na1 ca1) ∧ w'.cell? ⟨W2.heap.size, 2, none⟩ = some (.slice ob1 nb1 cb1) ∧ w'.cell? ⟨W4.heap.size, 0, none⟩ = some (.bool true) ∧ w'.cell? ⟨W4.heap.size, 1, none⟩ = some (.string n1) ∧ w'.cell? ⟨W4.heap.size, 2, none⟩ = some (.string d1))
                  (first | go_keep | (exact ⟨kt_0, kt_1, kt_2, fx_0, fx_1, fx_2⟩))
                  (first | (go_at_call 32; have _t := tok0; clear _t tok0; have tok1 : True := trivial; refine (DV.out _).mono ?_; rintro e W6 ⟨rfl, bq⟩; have hx := hx.below bq; have hy := hy.below bq; have ht := ht.below bq; have ka := ka.below bq; have kb := kb.below bq; have kt := kt.below bq; have fx := fx.below bq; have B := B.trans (bq.mono B.size); clear bq; clear ka_0 ka_1 ka_2 ka_l kb_0 kb_1 kb_2 kb_l kt_0 kt_1 kt_2 kt_l fx_0 fx_1 fx_2 fx_3 fx_l; obtain ⟨ka_0, ka_1, ka_2⟩ := block3 ka; have ka_l := ka.lt; obtain ⟨kb_0, kb_1, kb_2⟩ := block3 kb; have kb_l := kb.lt; obtain ⟨kt_0, kt_1, kt_2⟩ := block3 kt; have kt_l := kt.lt; obtain ⟨fx_0, fx_1, fx_2, fx_3⟩ := block4 fx; have fx_l := fx.lt) | (go_at_call 19; have _t := tok1; clear _t tok1; have tok2 : True := trivial; refine (RD.out _).mono ?_; rintro e W7 ⟨rfl, bq⟩; have hx := hx.below bq; have hy := hy.below bq; have ht := ht.below bq; have ka := ka.below bq; have kb := kb.below bq; have kt := kt.below bq; have fx := fx.below bq; have B := B.trans (bq.mono B.size); clear bq; clear ka_0 ka_1 ka_2 ka_l kb_0 kb_1 kb_2 kb_l kt_0 kt_1 kt_2 kt_l fx_0 fx_1 fx_2 fx_3 fx_l; obtain ⟨ka_0, ka_1, ka_2⟩ := block3 ka; have ka_l := ka.lt; obtain ⟨kb_0, kb_1, kb_2⟩ := block3 kb; have kb_l := kb.lt; obtain ⟨kt_0, kt_1, kt_2⟩ := block3 kt; have kt_l := kt.lt; obtain ⟨fx_0, fx_1, fx_2, fx_3⟩ := block4 fx; have fx_l := fx.lt) | (go_at_call 31; have _t := tok2; clear _t tok2; have tok3 : True := trivial; refine (IS.out _ _ ht).mono ?_; rintro e W8 ⟨rfl, bq⟩; have hx := hx.below bq; have hy := hy.below bq; have ht := ht.below bq; have ka := ka.below bq; have kb := kb.below bq; have kt := kt.below bq; have fx := fx.below bq; have B := B.trans (bq.mono B.size); clear bq; clear ka_0 ka_1 ka_2 ka_l kb_0 kb_1 kb_2 kb_l kt_0 kt_1 kt_2 kt_l fx_0 fx_1 fx_2 fx_3 fx_l; obtain ⟨ka_0, ka_1, ka_2⟩ := block3 ka; have ka_l := ka.lt; obtain ⟨kb_0, kb_1, kb_2⟩ := block3 kb; have kb_l := kb.lt; obtain ⟨kt_0, kt_1, kt_2⟩ := block3 kt; have kt_l := kt.lt; obtain ⟨fx_0, fx_1, fx_2, fx_3⟩ := block4 fx; have fx_l := fx.lt) | (go_at_call 14; have _t := tok3; clear _t tok3; have tok4 : True := trivial; refine (aliveR _).mono ?_; rintro e W9 ⟨rfl, bq⟩; have hx := hx.below bq; have hy := hy.below bq; have ht := ht.below bq; have ka := ka.below bq; have kb := kb.below bq; have kt := kt.below bq; have fx := fx.below bq; have B := B.trans (bq.mono B.size); clear bq; clear ka_0 ka_1 ka_2 ka_l kb_0 kb_1 kb_2 kb_l kt_0 kt_1 kt_2 kt_l fx_0 fx_1 fx_2 fx_3 fx_l; obtain ⟨ka_0, ka_1, ka_2⟩ := block3 ka; have ka_l := ka.lt; obtain ⟨kb_0, kb_1, kb_2⟩ := block3 kb; have kb_l := kb.lt; obtain ⟨kt_0, kt_1, kt_2⟩ := block3 kt; have kt_l := kt.lt; obtain ⟨fx_0, fx_1, fx_2, fx_3⟩ := block4 fx; have fx_l := fx.lt))
                clear tok4
                clear fQ
                clear kt_0 kt_1 kt_2 kt_l kt ht
                have HC := Lib.hid (refR_rat hy)
                go_wp2_with fail
                refine HC.out.mono ?_
                rintro e W10 ⟨rfl, bq⟩
                clear HC
                have hx := hx.below bq
                have hy := hy.below bq
                have ka := ka.below bq
                have kb := kb.below bq
                have fx := fx.below bq
                have B := B.trans (bq.mono B.size)
                clear bq
                clear ka_0 ka_1 ka_2 ka_l kb_0 kb_1 kb_2 kb_l fx_0 fx_1 fx_2 fx_3 fx_l
                obtain ⟨ka_0, ka_1, ka_2⟩ := block3 ka
                have ka_l := ka.lt
                obtain ⟨kb_0, kb_1, kb_2⟩ := block3 kb
                have kb_l := kb.lt
                obtain ⟨fx_0, fx_1, fx_2, fx_3⟩ := block4 fx
                have fx_l := fx.lt
                have HC := Lib.hid (OFY.out _ _ hy)
                go_wp2_with fail
                refine HC.out.mono ?_
                rintro e W11 ⟨rfl, bq⟩
                clear HC
                have hx := hx.below bq
                have hy := hy.below bq
                have ka := ka.below bq
                have kb := kb.below bq
                have fx := fx.below bq
                have B := B.trans (bq.mono B.size)
                clear bq
                clear ka_0 ka_1 ka_2 ka_l kb_0 kb_1 kb_2 kb_l fx_0 fx_1 fx_2 fx_3 fx_l
                obtain ⟨ka_0, ka_1, ka_2⟩ := block3 ka
                have ka_l := ka.lt
                obtain ⟨kb_0, kb_1, kb_2⟩ := block3 kb
                have kb_l := kb.lt
                obtain ⟨fx_0, fx_1, fx_2, fx_3⟩ := block4 fx
                have fx_l := fx.lt
                have b4 : Below W11.heap.size W11 (W11.alloc (.cells #[.bool false, .string n2, .string d2, .bool false] 37)) := (Below.refl _ _).alloc (Nat.le_refl _) _
                have fy := BlockAt.new W11 #[.bool false, .string n2, .string d2, .bool false] 37
                have hx := hx.below b4
                have hy := hy.below b4
                have ka := ka.below b4
                have kb := kb.below b4
                have fx := fx.below b4
                have B := B.trans (b4.mono B.size)
                clear b4
                clear ka_0 ka_1 ka_2 ka_l kb_0 kb_1 kb_2 kb_l hx hy ka kb
                go_wp2_with fail
                generalize W11.alloc (.cells #[.bool false, .string n2, .string d2, .bool false] 37) = U12 at *
                have fx := fx.below ((Below.refl U12.heap.size U12).drew)
                have fy := fy.below ((Below.refl U12.heap.size U12).drew)
                have B := B.drew
                clear fx_0 fx_1 fx_2 fx_3 fx_l
                obtain ⟨fx_0, fx_1, fx_2, fx_3⟩ := block4 fx
                have fx_l := fx.lt
                obtain ⟨fy_0, fy_1, fy_2, fy_3⟩ := block4 fy
                have fy_l := fy.lt
                have tok0 : True := trivial
                go_region_held3 (fun w' => w'.cell? ⟨W4.heap.size, 1, none⟩ = some (.string n1) ∧ w'.cell? ⟨W4.heap.size, 2, none⟩ = some (.string d1) ∧ w'.cell? ⟨W11.heap.size, 1, none⟩ = some (.string n2) ∧ w'.cell? ⟨W11.heap.size, 2, none⟩ = some (.string d2))
                  (first | go_keep | (exact ⟨fx_1, fx_2, fy_1, fy_2⟩))
                  (first | (go_at_call 33; have _t := tok0; clear _t tok0; have tok1 : True := trivial; refine (M1.out _).mono ?_; rintro e W13 ⟨rfl, bq⟩; have fx := fx.below bq; have fy := fy.below bq; have B := B.trans (bq.mono B.size); clear bq; clear fx_0 fx_1 fx_2 fx_3 fx_l fy_0 fy_1 fy_2 fy_3 fy_l; obtain ⟨fx_0, fx_1, fx_2, fx_3⟩ := block4 fx; have fx_l := fx.lt; obtain ⟨fy_0, fy_1, fy_2, fy_3⟩ := block4 fy; have fy_l := fy.lt) | (go_at_call 33; have _t := tok1; clear _t tok1; have tok2 : True := trivial; refine (M2.out _).mono ?_; rintro e W14 ⟨rfl, bq⟩; have fx := fx.below bq; have fy := fy.below bq; have B := B.trans (bq.mono B.size); clear bq; clear fx_0 fx_1 fx_2 fx_3 fx_l fy_0 fy_1 fy_2 fy_3 fy_l; obtain ⟨fx_0, fx_1, fx_2, fx_3⟩ := block4 fx; have fx_l := fx.lt; obtain ⟨fy_0, fy_1, fy_2, fy_3⟩ := block4 fy; have fy_l := fy.lt))
                clear tok2
                have HC := Lib.hid (O1.out W14)
                go_wp2_with fail
                refine HC.out.mono ?_
                rintro e W15 ⟨rfl, bq⟩
                clear HC
                have fx := fx.below bq
                have fy := fy.below bq
                have B := B.trans (bq.mono B.size)
                clear bq
                clear fx_0 fx_1 fx_2 fx_3 fx_l fy_0 fy_1 fy_2 fy_3 fy_l
                obtain ⟨fx_0, fx_1, fx_2, fx_3⟩ := block4 fx
                have fx_l := fx.lt
                obtain ⟨fy_0, fy_1, fy_2, fy_3⟩ := block4 fy
                have fy_l := fy.lt
                have HC := Lib.hid (O2.out W15)
                go_wp2_with fail
                refine HC.out.mono ?_
                rintro e W16 ⟨rfl, bq⟩
                clear HC
                have fx := fx.below bq
                have fy := fy.below bq
                have B := B.trans (bq.mono B.size)
                clear bq
                clear fx_0 fx_1 fx_2 fx_3 fx_l fy_0 fy_1 fy_2 fy_3 fy_l
                obtain ⟨fx_0, fx_1, fx_2, fx_3⟩ := block4 fx
                have fx_l := fx.lt
                obtain ⟨fy_0, fy_1, fy_2, fy_3⟩ := block4 fy
                have fy_l := fy.lt
                go_wp2_with fail
                refine (CM.out _).mono ?_
                rintro e w' ⟨rfl, rfl⟩
                go_wp2_with fail
                go_ret
                exact ⟨rfl, B⟩
              · have HS := Lib.hid g9
                rw [if_pos rfl, if_pos rfl] at HS
                clear g9
                obtain ⟨ka_0, ka_1, ka_2⟩ := block3 ka
                have ka_l := ka.lt
                obtain ⟨kb_0, kb_1, kb_2⟩ := block3 kb
                have kb_l := kb.lt
                have HC := Lib.hid (cmp_rat _ _ x y _ hx hy)
                go_wp2_with fail
                refine HC.out.mono ?_
                rintro e W1 ⟨hk, bq⟩
                clear HC
                have hx := hx.below bq
                have hy := hy.below bq
                have ka := ka.below bq
                have kb := kb.below bq
                have B := B.trans (bq.mono B.size)
                clear bq
                clear ka_0 ka_1 ka_2 ka_l kb_0 kb_1 kb_2 kb_l
                obtain ⟨ka_0, ka_1, ka_2⟩ := block3 ka
                have ka_l := ka.lt
                obtain ⟨kb_0, kb_1, kb_2⟩ := block3 kb
                have kb_l := kb.lt
                have he := hk.ok HO.out
                rw [HS.out] at he
                obtain rfl := he
                have HC := Lib.hid (trunc_rat _ x _ hx)
                go_wp2_with fail
                refine HC.out.mono ?_
                rintro e W2 ⟨⟨rt, rfl, ht⟩, bq⟩
                clear HC
                have hx := hx.below bq
                have hy := hy.below bq
                have ka := ka.below bq
                have kb := kb.below bq
                have B := B.trans (bq.mono B.size)
                clear bq
                clear ka_0 ka_1 ka_2 ka_l kb_0 kb_1 kb_2 kb_l
                obtain ⟨ka_0, ka_1, ka_2⟩ := block3 ka
                have ka_l := ka.lt
                obtain ⟨kb_0, kb_1, kb_2⟩ := block3 kb
                have kb_l := kb.lt
                obtain ⟨t1_, oa1, na1, ca1, ob1, nb1, cb1, rfl⟩ := RawN.form ht
                have b4 : Below W2.heap.size W2 (W2.alloc (.cells #[.bool t1_, .slice oa1 na1 ca1, .slice ob1 nb1 cb1] 25)) := (Below.refl _ _).alloc (Nat.le_refl _) _
                have kt := BlockAt.new W2 #[.bool t1_, .slice oa1 na1 ca1, .slice ob1 nb1 cb1] 25
                have hx := hx.below b4
                have hy := hy.below b4
                have ht := ht.below b4
                have ka := ka.below b4
                have kb := kb.below b4
                have B := B.trans (b4.mono B.size)
                clear b4
                have HC := Lib.hid (refR_rat hx)
                go_wp2_with fail
                refine HC.out.mono ?_
                rintro e W3 ⟨rfl, bq⟩
                clear HC
                have hx := hx.below bq
                have hy := hy.below bq
                have ht := ht.below bq
                have ka := ka.below bq
                have kb := kb.below bq
                have kt := kt.below bq
                have B := B.trans (bq.mono B.size)
                clear bq
                clear ka_0 ka_1 ka_2 ka_l kb_0 kb_1 kb_2 kb_l
                obtain ⟨ka_0, ka_1, ka_2⟩ := block3 ka
                have ka_l := ka.lt
                obtain ⟨kb_0, kb_1, kb_2⟩ := block3 kb
                have kb_l := kb.lt
                obtain ⟨kt_0, kt_1, kt_2⟩ := block3 kt
                have kt_l := kt.lt
                have HC := Lib.hid (OF.out _ _ hx)
                go_wp2_with fail
                refine HC.out.mono ?_
                rintro e W4 ⟨rfl, bq⟩
                clear HC
                have hx := hx.below bq
                have hy := hy.below bq
                have ht := ht.below bq
                have ka := ka.below bq
                have kb := kb.below bq
                have kt := kt.below bq
                have B := B.trans (bq.mono B.size)
                clear bq
                clear ka_0 ka_1 ka_2 ka_l kb_0 kb_1 kb_2 kb_l kt_0 kt_1 kt_2 kt_l
                obtain ⟨ka_0, ka_1, ka_2⟩ := block3 ka
                have ka_l := ka.lt
                obtain ⟨kb_0, kb_1, kb_2⟩ := block3 kb
                have kb_l := kb.lt
                obtain ⟨kt_0, kt_1, kt_2⟩ := block3 kt
                have kt_l := kt.lt
                have b4 : Below W4.heap.size W4 (W4.alloc (.cells #[.bool true, .string n1, .string d1, .bool false] 37)) := (Below.refl _ _).alloc (Nat.le_refl _) _
                have fx := BlockAt.new W4 #[.bool true, .string n1, .string d1, .bool false] 37
                have hx := hx.below b4
                have hy := hy.below b4
                have ht := ht.below b4
                have ka := ka.below b4
                have kb := kb.below b4
                have kt := kt.below b4
                have B := B.trans (b4.mono B.size)
                clear b4
                have fQ := fieldQ
                go_wp2_with fail
                generalize W4.alloc (.cells #[.bool true, .string n1, .string d1, .bool false] 37) = U5 at *
                have hx := hx.below ((Below.refl U5.heap.size U5).drew)
                have hy := hy.below ((Below.refl U5.heap.size U5).drew)
                have ht := ht.below ((Below.refl U5.heap.size U5).drew)
                have ka := ka.below ((Below.refl U5.heap.size U5).drew)
                have kb := kb.below ((Below.refl U5.heap.size U5).drew)
                have kt := kt.below ((Below.refl U5.heap.size U5).drew)
                have fx := fx.below ((Below.refl U5.heap.size U5).drew)
                have B := B.drew
                clear ka_0 ka_1 ka_2 ka_l kb_0 kb_1 kb_2 kb_l kt_0 kt_1 kt_2 kt_l
                obtain ⟨ka_0, ka_1, ka_2⟩ := block3 ka
                have ka_l := ka.lt
                obtain ⟨kb_0, kb_1, kb_2⟩ := block3 kb
                have kb_l := kb.lt
                obtain ⟨kt_0, kt_1, kt_2⟩ := block3 kt
                have kt_l := kt.lt
                obtain ⟨fx_0, fx_1, fx_2, fx_3⟩ := block4 fx
                have fx_l := fx.lt
                have tok0 : True := trivial
                go_region_held3 (fun w' => w'.cell? ⟨W2.heap.size, 0, none⟩ = some (.bool t1_) ∧ w'.cell? ⟨W2.heap.size, 1, none⟩ = some (.slice oa1 na1 ca1) ∧ w'.cell? ⟨W2.heap.size, 2, none⟩ = some (.slice ob1 nb1 cb1) ∧ w'.cell? ⟨W4.heap.size, 0, none⟩ = some (.bool true) ∧ w'.cell? ⟨W4.heap.size, 1, none⟩ = some (.string n1) ∧ w'.cell? ⟨W4.heap.size, 2, none⟩ = some (.string d1))
                  (first | go_keep | (exact ⟨kt_0, kt_1, kt_2, fx_0, fx_1, fx_2⟩))
                  (first | (go_at_call 32; have _t := tok0; clear _t tok0; have tok1 : True := trivial; refine (DV.out _).mono ?_; rintro e W6 ⟨rfl, bq⟩; have hx := hx.below bq; have hy := hy.below bq; have ht := ht.below bq; have ka := ka.below bq; have kb := kb.below bq; have kt := kt.below bq; have fx := fx.below bq; have B := B.trans (bq.mono B.size); clear bq; clear ka_0 ka_1 ka_2 ka_l kb_0 kb_1 kb_2 kb_l kt_0 kt_1 kt_2 kt_l fx_0 fx_1 fx_2 fx_3 fx_l; obtain ⟨ka_0, ka_1, ka_2⟩ := block3 ka; have ka_l := ka.lt; obtain ⟨kb_0, kb_1, kb_2⟩ := block3 kb; have kb_l := kb.lt; obtain ⟨kt_0, kt_1, kt_2⟩ := block3 kt; have kt_l := kt.lt; obtain ⟨fx_0, fx_1, fx_2, fx_3⟩ := block4 fx; have fx_l := fx.lt) | (go_at_call 19; have _t := tok1; clear _t tok1; have tok2 : True := trivial; refine (RD.out _).mono ?_; rintro e W7 ⟨rfl, bq⟩; have hx := hx.below bq; have hy := hy.below bq; have ht := ht.below bq; have ka := ka.below bq; have kb := kb.below bq; have kt := kt.below bq; have fx := fx.below bq; have B := B.trans (bq.mono B.size); clear bq; clear ka_0 ka_1 ka_2 ka_l kb_0 kb_1 kb_2 kb_l kt_0 kt_1 kt_2 kt_l fx_0 fx_1 fx_2 fx_3 fx_l; obtain ⟨ka_0, ka_1, ka_2⟩ := block3 ka; have ka_l := ka.lt; obtain ⟨kb_0, kb_1, kb_2⟩ := block3 kb; have kb_l := kb.lt; obtain ⟨kt_0, kt_1, kt_2⟩ := block3 kt; have kt_l := kt.lt; obtain ⟨fx_0, fx_1, fx_2, fx_3⟩ := block4 fx; have fx_l := fx.lt) | (go_at_call 31; have _t := tok2; clear _t tok2; have tok3 : True := trivial; refine (IS.out _ _ ht).mono ?_; rintro e W8 ⟨rfl, bq⟩; have hx := hx.below bq; have hy := hy.below bq; have ht := ht.below bq; have ka := ka.below bq; have kb := kb.below bq; have kt := kt.below bq; have fx := fx.below bq; have B := B.trans (bq.mono B.size); clear bq; clear ka_0 ka_1 ka_2 ka_l kb_0 kb_1 kb_2 kb_l kt_0 kt_1 kt_2 kt_l fx_0 fx_1 fx_2 fx_3 fx_l; obtain ⟨ka_0, ka_1, ka_2⟩ := block3 ka; have ka_l := ka.lt; obtain ⟨kb_0, kb_1, kb_2⟩ := block3 kb; have kb_l := kb.lt; obtain ⟨kt_0, kt_1, kt_2⟩ := block3 kt; have kt_l := kt.lt; obtain ⟨fx_0, fx_1, fx_2, fx_3⟩ := block4 fx; have fx_l := fx.lt) | (go_at_call 14; have _t := tok3; clear _t tok3; have tok4 : True := trivial; refine (aliveR _).mono ?_; rintro e W9 ⟨rfl, bq⟩; have hx := hx.below bq; have hy := hy.below bq; have ht := ht.below bq; have ka := ka.below bq; have kb := kb.below bq; have kt := kt.below bq; have fx := fx.below bq; have B := B.trans (bq.mono B.size); clear bq; clear ka_0 ka_1 ka_2 ka_l kb_0 kb_1 kb_2 kb_l kt_0 kt_1 kt_2 kt_l fx_0 fx_1 fx_2 fx_3 fx_l; obtain ⟨ka_0, ka_1, ka_2⟩ := block3 ka; have ka_l := ka.lt; obtain ⟨kb_0, kb_1, kb_2⟩ := block3 kb; have kb_l := kb.lt; obtain ⟨kt_0, kt_1, kt_2⟩ := block3 kt; have kt_l := kt.lt; obtain ⟨fx_0, fx_1, fx_2, fx_3⟩ := block4 fx; have fx_l := fx.lt))
                clear tok4
                clear fQ
                clear kt_0 kt_1 kt_2 kt_l kt ht
                have HC := Lib.hid (refR_rat hy)
                go_wp2_with fail
                refine HC.out.mono ?_
                rintro e W10 ⟨rfl, bq⟩
                clear HC
                have hx := hx.below bq
                have hy := hy.below bq
                have ka := ka.below bq
                have kb := kb.below bq
                have fx := fx.below bq
                have B := B.trans (bq.mono B.size)
                clear bq
                clear ka_0 ka_1 ka_2 ka_l kb_0 kb_1 kb_2 kb_l fx_0 fx_1 fx_2 fx_3 fx_l
                obtain ⟨ka_0, ka_1, ka_2⟩ := block3 ka
                have ka_l := ka.lt
                obtain ⟨kb_0, kb_1, kb_2⟩ := block3 kb
                have kb_l := kb.lt
                obtain ⟨fx_0, fx_1, fx_2, fx_3⟩ := block4 fx
                have fx_l := fx.lt
                have HC := Lib.hid (OFY.out _ _ hy)
                go_wp2_with fail
                refine HC.out.mono ?_
                rintro e W11 ⟨rfl, bq⟩
                clear HC
                have hx := hx.below bq
                have hy := hy.below bq
                have ka := ka.below bq
                have kb := kb.below bq
                have fx := fx.below bq
                have B := B.trans (bq.mono B.size)
                clear bq
                clear ka_0 ka_1 ka_2 ka_l kb_0 kb_1 kb_2 kb_l fx_0 fx_1 fx_2 fx_3 fx_l
                obtain ⟨ka_0, ka_1, ka_2⟩ := block3 ka
                have ka_l := ka.lt
                obtain ⟨kb_0, kb_1, kb_2⟩ := block3 kb
                have kb_l := kb.lt
                obtain ⟨fx_0, fx_1, fx_2, fx_3⟩ := block4 fx
                have fx_l := fx.lt
                have b4 : Below W11.heap.size W11 (W11.alloc (.cells #[.bool true, .string n2, .string d2, .bool false] 37)) := (Below.refl _ _).alloc (Nat.le_refl _) _
                have fy := BlockAt.new W11 #[.bool true, .string n2, .string d2, .bool false] 37
                have hx := hx.below b4
                have hy := hy.below b4
                have ka := ka.below b4
                have kb := kb.below b4
                have fx := fx.below b4
                have B := B.trans (b4.mono B.size)
                clear b4
                clear ka_0 ka_1 ka_2 ka_l kb_0 kb_1 kb_2 kb_l hx hy ka kb
                go_wp2_with fail
                generalize W11.alloc (.cells #[.bool true, .string n2, .string d2, .bool false] 37) = U12 at *
                have fx := fx.below ((Below.refl U12.heap.size U12).drew)
                have fy := fy.below ((Below.refl U12.heap.size U12).drew)
                have B := B.drew
                clear fx_0 fx_1 fx_2 fx_3 fx_l
                obtain ⟨fx_0, fx_1, fx_2, fx_3⟩ := block4 fx
                have fx_l := fx.lt
                obtain ⟨fy_0, fy_1, fy_2, fy_3⟩ := block4 fy
                have fy_l := fy.lt
                have tok0 : True := trivial
                go_region_held3 (fun w' => w'.cell? ⟨W4.heap.size, 1, none⟩ = some (.string n1) ∧ w'.cell? ⟨W4.heap.size, 2, none⟩ = some (.string d1) ∧ w'.cell? ⟨W11.heap.size, 1, none⟩ = some (.string n2) ∧ w'.cell? ⟨W11.heap.size, 2, none⟩ = some (.string d2))
                  (first | go_keep | (exact ⟨fx_1, fx_2, fy_1, fy_2⟩))
                  (first | (go_at_call 33; have _t := tok0; clear _t tok0; have tok1 : True := trivial; refine (M1.out _).mono ?_; rintro e W13 ⟨rfl, bq⟩; have fx := fx.below bq; have fy := fy.below bq; have B := B.trans (bq.mono B.size); clear bq; clear fx_0 fx_1 fx_2 fx_3 fx_l fy_0 fy_1 fy_2 fy_3 fy_l; obtain ⟨fx_0, fx_1, fx_2, fx_3⟩ := block4 fx; have fx_l := fx.lt; obtain ⟨fy_0, fy_1, fy_2, fy_3⟩ := block4 fy; have fy_l := fy.lt) | (go_at_call 33; have _t := tok1; clear _t tok1; have tok2 : True := trivial; refine (M2.out _).mono ?_; rintro e W14 ⟨rfl, bq⟩; have fx := fx.below bq; have fy := fy.below bq; have B := B.trans (bq.mono B.size); clear bq; clear fx_0 fx_1 fx_2 fx_3 fx_l fy_0 fy_1 fy_2 fy_3 fy_l; obtain ⟨fx_0, fx_1, fx_2, fx_3⟩ := block4 fx; have fx_l := fx.lt; obtain ⟨fy_0, fy_1, fy_2, fy_3⟩ := block4 fy; have fy_l := fy.lt))
                clear tok2
                have HC := Lib.hid (O1.out W14)
                go_wp2_with fail
                refine HC.out.mono ?_
                rintro e W15 ⟨rfl, bq⟩
                clear HC
                have fx := fx.below bq
                have fy := fy.below bq
                have B := B.trans (bq.mono B.size)
                clear bq
                clear fx_0 fx_1 fx_2 fx_3 fx_l fy_0 fy_1 fy_2 fy_3 fy_l
                obtain ⟨fx_0, fx_1, fx_2, fx_3⟩ := block4 fx
                have fx_l := fx.lt
                obtain ⟨fy_0, fy_1, fy_2, fy_3⟩ := block4 fy
                have fy_l := fy.lt
                have HC := Lib.hid (O2.out W15)
                go_wp2_with fail
                refine HC.out.mono ?_
                rintro e W16 ⟨rfl, bq⟩
                clear HC
                have fx := fx.below bq
                have fy := fy.below bq
                have B := B.trans (bq.mono B.size)
                clear bq
                clear fx_0 fx_1 fx_2 fx_3 fx_l fy_0 fy_1 fy_2 fy_3 fy_l
                obtain ⟨fx_0, fx_1, fx_2, fx_3⟩ := block4 fx
                have fx_l := fx.lt
                obtain ⟨fy_0, fy_1, fy_2, fy_3⟩ := block4 fy
                have fy_l := fy.lt
                go_wp2_with fail
                refine (CM.out _).mono ?_
                rintro e w' ⟨rfl, rfl⟩
                go_wp2_with fail
                go_ret
                exact ⟨rfl, B⟩
          · have HO := Lib.hid (show OverC x y from g7.1 (.inr rfl))
            clear g7 g8 g9
            obtain ⟨ka_0, ka_1, ka_2⟩ := block3 ka
            have ka_l := ka.lt
            obtain ⟨kb_0, kb_1, kb_2⟩ := block3 kb
            have kb_l := kb.lt
            have HC := Lib.hid (cmp_rat _ _ x y _ hx hy)
            go_wp2_with fail
            refine HC.out.mono ?_
            rintro e W1 ⟨hk, bq⟩
            clear HC
            have hx := hx.below bq
            have hy := hy.below bq
            have ka := ka.below bq
            have kb := kb.below bq
            have B := B.trans (bq.mono B.size)
            clear bq
            clear ka_0 ka_1 ka_2 ka_l kb_0 kb_1 kb_2 kb_l
            obtain ⟨ka_0, ka_1, ka_2⟩ := block3 ka
            have ka_l := ka.lt
            obtain ⟨kb_0, kb_1, kb_2⟩ := block3 kb
            have kb_l := kb.lt
            obtain rfl := hk.over HO.out
            have HC := Lib.hid (trunc_rat _ x _ hx)
            go_wp2_with fail
            refine HC.out.mono ?_
            rintro e W2 ⟨⟨rt, rfl, ht⟩, bq⟩
            clear HC
            have hx := hx.below bq
            have hy := hy.below bq
            have ka := ka.below bq
            have kb := kb.below bq
            have B := B.trans (bq.mono B.size)
            clear bq
            clear ka_0 ka_1 ka_2 ka_l kb_0 kb_1 kb_2 kb_l
            obtain ⟨ka_0, ka_1, ka_2⟩ := block3 ka
            have ka_l := ka.lt
            obtain ⟨kb_0, kb_1, kb_2⟩ := block3 kb
            have kb_l := kb.lt
            obtain ⟨t1_, oa1, na1, ca1, ob1, nb1, cb1, rfl⟩ := RawN.form ht
            have b4 : Below W2.heap.size W2 (W2.alloc (.cells #[.bool t1_, .slice oa1 na1 ca1, .slice ob1 nb1 cb1] 25)) := (Below.refl _ _).alloc (Nat.le_refl _) _
            have kt := BlockAt.new W2 #[.bool t1_, .slice oa1 na1 ca1, .slice ob1 nb1 cb1] 25
            have hx := hx.below b4
            have hy := hy.below b4
            have ht := ht.below b4
            have ka := ka.below b4
            have kb := kb.below b4
            have B := B.trans (b4.mono B.size)
            clear b4
            have HC := Lib.hid (refR_rat hx)
            go_wp2_with fail
            refine HC.out.mono ?_
            rintro e W3 ⟨rfl, bq⟩
            clear HC
            have hx := hx.below bq
            have hy := hy.below bq
            have ht := ht.below bq
            have ka := ka.below bq
            have kb := kb.below bq
            have kt := kt.below bq
            have B := B.trans (bq.mono B.size)
            clear bq
            clear ka_0 ka_1 ka_2 ka_l kb_0 kb_1 kb_2 kb_l
            obtain ⟨ka_0, ka_1, ka_2⟩ := block3 ka
            have ka_l := ka.lt
            obtain ⟨kb_0, kb_1, kb_2⟩ := block3 kb
            have kb_l := kb.lt
            obtain ⟨kt_0, kt_1, kt_2⟩ := block3 kt
            have kt_l := kt.lt
            have HC := Lib.hid (OF.out _ _ hx)
            go_wp2_with fail
            refine HC.out.mono ?_
            rintro e W4 ⟨rfl, bq⟩
            clear HC
            have hx := hx.below bq
            have hy := hy.below bq
            have ht := ht.below bq
            have ka := ka.below bq
            have kb := kb.below bq
            have kt := kt.below bq
            have B := B.trans (bq.mono B.size)
            clear bq
            clear ka_0 ka_1 ka_2 ka_l kb_0 kb_1 kb_2 kb_l kt_0 kt_1 kt_2 kt_l
            obtain ⟨ka_0, ka_1, ka_2⟩ := block3 ka
            have ka_l := ka.lt
            obtain ⟨kb_0, kb_1, kb_2⟩ := block3 kb
            have kb_l := kb.lt
            obtain ⟨kt_0, kt_1, kt_2⟩ := block3 kt
            have kt_l := kt.lt
            have b4 : Below W4.heap.size W4 (W4.alloc (.cells #[.bool nx, .string n1, .string d1, .bool false] 37)) := (Below.refl _ _).alloc (Nat.le_refl _) _
            have fx := BlockAt.new W4 #[.bool nx, .string n1, .string d1, .bool false] 37
            have hx := hx.below b4
            have hy := hy.below b4
            have ht := ht.below b4
            have ka := ka.below b4
            have kb := kb.below b4
            have kt := kt.below b4
            have B := B.trans (b4.mono B.size)
            clear b4
            have fQ := fieldQ
            go_wp2_with fail
            generalize W4.alloc (.cells #[.bool nx, .string n1, .string d1, .bool false] 37) = U5 at *
            have hx := hx.below ((Below.refl U5.heap.size U5).drew)
            have hy := hy.below ((Below.refl U5.heap.size U5).drew)
            have ht := ht.below ((Below.refl U5.heap.size U5).drew)
            have ka := ka.below ((Below.refl U5.heap.size U5).drew)
            have kb := kb.below ((Below.refl U5.heap.size U5).drew)
            have kt := kt.below ((Below.refl U5.heap.size U5).drew)
            have fx := fx.below ((Below.refl U5.heap.size U5).drew)
            have B := B.drew
            clear ka_0 ka_1 ka_2 ka_l kb_0 kb_1 kb_2 kb_l kt_0 kt_1 kt_2 kt_l
            obtain ⟨ka_0, ka_1, ka_2⟩ := block3 ka
            have ka_l := ka.lt
            obtain ⟨kb_0, kb_1, kb_2⟩ := block3 kb
            have kb_l := kb.lt
            obtain ⟨kt_0, kt_1, kt_2⟩ := block3 kt
            have kt_l := kt.lt
            obtain ⟨fx_0, fx_1, fx_2, fx_3⟩ := block4 fx
            have fx_l := fx.lt
            have tok0 : True := trivial
            go_region_held3 (fun w' => w'.cell? ⟨W2.heap.size, 0, none⟩ = some (.bool t1_) ∧ w'.cell? ⟨W2.heap.size, 1, none⟩ = some (.slice oa1 na1 ca1) ∧ w'.cell? ⟨W2.heap.size, 2, none⟩ = some (.slice ob1 nb1 cb1) ∧ w'.cell? ⟨W4.heap.size, 0, none⟩ = some (.bool nx) ∧ w'.cell? ⟨W4.heap.size, 1, none⟩ = some (.string n1) ∧ w'.cell? ⟨W4.heap.size, 2, none⟩ = some (.string d1))
              (first | go_keep | (exact ⟨kt_0, kt_1, kt_2, fx_0, fx_1, fx_2⟩))
              (first | (go_at_call 32; have _t := tok0; clear _t tok0; have tok1 : True := trivial; refine (DV.out _).mono ?_; rintro e W6 ⟨rfl, bq⟩; have hx := hx.below bq; have hy := hy.below bq; have ht := ht.below bq; have ka := ka.below bq; have kb := kb.below bq; have kt := kt.below bq; have fx := fx.below bq; have B := B.trans (bq.mono B.size); clear bq; clear ka_0 ka_1 ka_2 ka_l kb_0 kb_1 kb_2 kb_l kt_0 kt_1 kt_2 kt_l fx_0 fx_1 fx_2 fx_3 fx_l; obtain ⟨ka_0, ka_1, ka_2⟩ := block3 ka; have ka_l := ka.lt; obtain ⟨kb_0, kb_1, kb_2⟩ := block3 kb; have kb_l := kb.lt; obtain ⟨kt_0, kt_1, kt_2⟩ := block3 kt; have kt_l := kt.lt; obtain ⟨fx_0, fx_1, fx_2, fx_3⟩ := block4 fx; have fx_l := fx.lt) | (go_at_call 19; have _t := tok1; clear _t tok1; have tok2 : True := trivial; refine (RD.out _).mono ?_; rintro e W7 ⟨rfl, bq⟩; have hx := hx.below bq; have hy := hy.below bq; have ht := ht.below bq; have ka := ka.below bq; have kb := kb.below bq; have kt := kt.below bq; have fx := fx.below bq; have B := B.trans (bq.mono B.size); clear bq; clear ka_0 ka_1 ka_2 ka_l kb_0 kb_1 kb_2 kb_l kt_0 kt_1 kt_2 kt_l fx_0 fx_1 fx_2 fx_3 fx_l; obtain ⟨ka_0, ka_1, ka_2⟩ := block3 ka; have ka_l := ka.lt; obtain ⟨kb_0, kb_1, kb_2⟩ := block3 kb; have kb_l := kb.lt; obtain ⟨kt_0, kt_1, kt_2⟩ := block3 kt; have kt_l := kt.lt; obtain ⟨fx_0, fx_1, fx_2, fx_3⟩ := block4 fx; have fx_l := fx.lt) | (go_at_call 31; have _t := tok2; clear _t tok2; have tok3 : True := trivial; refine (IS.out _ _ ht).mono ?_; rintro e W8 ⟨rfl, bq⟩; have hx := hx.below bq; have hy := hy.below bq; have ht := ht.below bq; have ka := ka.below bq; have kb := kb.below bq; have kt := kt.below bq; have fx := fx.below bq; have B := B.trans (bq.mono B.size); clear bq; clear ka_0 ka_1 ka_2 ka_l kb_0 kb_1 kb_2 kb_l kt_0 kt_1 kt_2 kt_l fx_0 fx_1 fx_2 fx_3 fx_l; obtain ⟨ka_0, ka_1, ka_2⟩ := block3 ka; have ka_l := ka.lt; obtain ⟨kb_0, kb_1, kb_2⟩ := block3 kb; have kb_l := kb.lt; obtain ⟨kt_0, kt_1, kt_2⟩ := block3 kt; have kt_l := kt.lt; obtain ⟨fx_0, fx_1, fx_2, fx_3⟩ := block4 fx; have fx_l := fx.lt) | (go_at_call 14; have _t := tok3; clear _t tok3; have tok4 : True := trivial; refine (aliveR _).mono ?_; rintro e W9 ⟨rfl, bq⟩; have hx := hx.below bq; have hy := hy.below bq; have ht := ht.below bq; have ka := ka.below bq; have kb := kb.below bq; have kt := kt.below bq; have fx := fx.below bq; have B := B.trans (bq.mono B.size); clear bq; clear ka_0 ka_1 ka_2 ka_l kb_0 kb_1 kb_2 kb_l kt_0 kt_1 kt_2 kt_l fx_0 fx_1 fx_2 fx_3 fx_l; obtain ⟨ka_0, ka_1, ka_2⟩ := block3 ka; have ka_l := ka.lt; obtain ⟨kb_0, kb_1, kb_2⟩ := block3 kb; have kb_l := kb.lt; obtain ⟨kt_0, kt_1, kt_2⟩ := block3 kt; have kt_l := kt.lt; obtain ⟨fx_0, fx_1, fx_2, fx_3⟩ := block4 fx; have fx_l := fx.lt))
            clear tok4
            clear fQ
            clear kt_0 kt_1 kt_2 kt_l kt ht
            have HC := Lib.hid (refR_rat hy)
            go_wp2_with fail
            refine HC.out.mono ?_
            rintro e W10 ⟨rfl, bq⟩
            clear HC
            have hx := hx.below bq
            have hy := hy.below bq
            have ka := ka.below bq
            have kb := kb.below bq
            have fx := fx.below bq
            have B := B.trans (bq.mono B.size)
            clear bq
            clear ka_0 ka_1 ka_2 ka_l kb_0 kb_1 kb_2 kb_l fx_0 fx_1 fx_2 fx_3 fx_l
            obtain ⟨ka_0, ka_1, ka_2⟩ := block3 ka
            have ka_l := ka.lt
            obtain ⟨kb_0, kb_1, kb_2⟩ := block3 kb
            have kb_l := kb.lt
            obtain ⟨fx_0, fx_1, fx_2, fx_3⟩ := block4 fx
            have fx_l := fx.lt
            have HC := Lib.hid (OFY.out _ _ hy)
            go_wp2_with fail
            refine HC.out.mono ?_
            rintro e W11 ⟨rfl, bq⟩
            clear HC
            have hx := hx.below bq
            have hy := hy.below bq
            have ka := ka.below bq
            have kb := kb.below bq
            have fx := fx.below bq
            have B := B.trans (bq.mono B.size)
            clear bq
            clear ka_0 ka_1 ka_2 ka_l kb_0 kb_1 kb_2 kb_l fx_0 fx_1 fx_2 fx_3 fx_l
            obtain ⟨ka_0, ka_1, ka_2⟩ := block3 ka
            have ka_l := ka.lt
            obtain ⟨kb_0, kb_1, kb_2⟩ := block3 kb
            have kb_l := kb.lt
            obtain ⟨fx_0, fx_1, fx_2, fx_3⟩ := block4 fx
            have fx_l := fx.lt
            have b4 : Below W11.heap.size W11 (W11.alloc (.cells #[.bool ny, .string n2, .string d2, .bool false] 37)) := (Below.refl _ _).alloc (Nat.le_refl _) _
            have fy := BlockAt.new W11 #[.bool ny, .string n2, .string d2, .bool false] 37
            have hx := hx.below b4
            have hy := hy.below b4
            have ka := ka.below b4
            have kb := kb.below b4
            have fx := fx.below b4
            have B := B.trans (b4.mono B.size)
            clear b4
            clear ka_0 ka_1 ka_2 ka_l kb_0 kb_1 kb_2 kb_l hx hy ka kb
            go_wp2_with fail
            generalize W11.alloc (.cells #[.bool ny, .string n2, .string d2, .bool false] 37) = U12 at *
            have fx := fx.below ((Below.refl U12.heap.size U12).drew)
            have fy := fy.below ((Below.refl U12.heap.size U12).drew)
            have B := B.drew
            clear fx_0 fx_1 fx_2 fx_3 fx_l
            obtain ⟨fx_0, fx_1, fx_2, fx_3⟩ := block4 fx
            have fx_l := fx.lt
            obtain ⟨fy_0, fy_1, fy_2, fy_3⟩ := block4 fy
            have fy_l := fy.lt
            have tok0 : True := trivial
            go_region_held3 (fun w' => w'.cell? ⟨W4.heap.size, 1, none⟩ = some (.string n1) ∧ w'.cell? ⟨W4.heap.size, 2, none⟩ = some (.string d1) ∧ w'.cell? ⟨W11.heap.size, 1, none⟩ = some (.string n2) ∧ w'.cell? ⟨W11.heap.size, 2, none⟩ = some (.string d2))
              (first | go_keep | (exact ⟨fx_1, fx_2, fy_1, fy_2⟩))
              (first | (go_at_call 33; have _t := tok0; clear _t tok0; have tok1 : True := trivial; refine (M1.out _).mono ?_; rintro e W13 ⟨rfl, bq⟩; have fx := fx.below bq; have fy := fy.below bq; have B := B.trans (bq.mono B.size); clear bq; clear fx_0 fx_1 fx_2 fx_3 fx_l fy_0 fy_1 fy_2 fy_3 fy_l; obtain ⟨fx_0, fx_1, fx_2, fx_3⟩ := block4 fx; have fx_l := fx.lt; obtain ⟨fy_0, fy_1, fy_2, fy_3⟩ := block4 fy; have fy_l := fy.lt) | (go_at_call 33; have _t := tok1; clear _t tok1; have tok2 : True := trivial; refine (M2.out _).mono ?_; rintro e W14 ⟨rfl, bq⟩; have fx := fx.below bq; have fy := fy.below bq; have B := B.trans (bq.mono B.size); clear bq; clear fx_0 fx_1 fx_2 fx_3 fx_l fy_0 fy_1 fy_2 fy_3 fy_l; obtain ⟨fx_0, fx_1, fx_2, fx_3⟩ := block4 fx; have fx_l := fx.lt; obtain ⟨fy_0, fy_1, fy_2, fy_3⟩ := block4 fy; have fy_l := fy.lt))
            clear tok2
            have HC := Lib.hid (O1.out W14)
            go_wp2_with fail
            refine HC.out.mono ?_
            rintro e W15 ⟨rfl, bq⟩
            clear HC
            have fx := fx.below bq
            have fy := fy.below bq
            have B := B.trans (bq.mono B.size)
            clear bq
            clear fx_0 fx_1 fx_2 fx_3 fx_l fy_0 fy_1 fy_2 fy_3 fy_l
            obtain ⟨fx_0, fx_1, fx_2, fx_3⟩ := block4 fx
            have fx_l := fx.lt
            obtain ⟨fy_0, fy_1, fy_2, fy_3⟩ := block4 fy
            have fy_l := fy.lt
            have HC := Lib.hid (O2.out W15)
            go_wp2_with fail
            refine HC.out.mono ?_
            rintro e W16 ⟨rfl, bq⟩
            clear HC
            have fx := fx.below bq
            have fy := fy.below bq
            have B := B.trans (bq.mono B.size)
            clear bq
            clear fx_0 fx_1 fx_2 fx_3 fx_l fy_0 fy_1 fy_2 fy_3 fy_l
            obtain ⟨fx_0, fx_1, fx_2, fx_3⟩ := block4 fx
            have fx_l := fx.lt
            obtain ⟨fy_0, fy_1, fy_2, fy_3⟩ := block4 fy
            have fy_l := fy.lt
            go_wp2_with fail
            go_ret
            exact ⟨rfl, B⟩
        · have HO := Lib.hid (show OverC x y from g7.1 (.inl rfl))
          clear g7 g8 g9
          obtain ⟨ka_0, ka_1, ka_2⟩ := block3 ka
          have ka_l := ka.lt
          obtain ⟨kb_0, kb_1, kb_2⟩ := block3 kb
          have kb_l := kb.lt
          have HC := Lib.hid (cmp_rat _ _ x y _ hx hy)
          go_wp2_with fail
          refine HC.out.mono ?_
          rintro e W1 ⟨hk, bq⟩
          clear HC
          have hx := hx.below bq
          have hy := hy.below bq
          have ka := ka.below bq
          have kb := kb.below bq
          have B := B.trans (bq.mono B.size)
          clear bq
          clear ka_0 ka_1 ka_2 ka_l kb_0 kb_1 kb_2 kb_l
          obtain ⟨ka_0, ka_1, ka_2⟩ := block3 ka
          have ka_l := ka.lt
          obtain ⟨kb_0, kb_1, kb_2⟩ := block3 kb
          have kb_l := kb.lt
          obtain rfl := hk.over HO.out
          have HC := Lib.hid (trunc_rat _ x _ hx)
          go_wp2_with fail
          refine HC.out.mono ?_
          rintro e W2 ⟨⟨rt, rfl, ht⟩, bq⟩
          clear HC
          have hx := hx.below bq
          have hy := hy.below bq
          have ka := ka.below bq
          have kb := kb.below bq
          have B := B.trans (bq.mono B.size)
          clear bq
          clear ka_0 ka_1 ka_2 ka_l kb_0 kb_1 kb_2 kb_l
          obtain ⟨ka_0, ka_1, ka_2⟩ := block3 ka
          have ka_l := ka.lt
          obtain ⟨kb_0, kb_1, kb_2⟩ := block3 kb
          have kb_l := kb.lt
          obtain ⟨t1_, oa1, na1, ca1, ob1, nb1, cb1, rfl⟩ := RawN.form ht
          have b4 : Below W2.heap.size W2 (W2.alloc (.cells #[.bool t1_, .slice oa1 na1 ca1, .slice ob1 nb1 cb1] 25)) := (Below.refl _ _).alloc (Nat.le_refl _) _
          have kt := BlockAt.new W2 #[.bool t1_, .slice oa1 na1 ca1, .slice ob1 nb1 cb1] 25
          have hx := hx.below b4
          have hy := hy.below b4
          have ht := ht.below b4
          have ka := ka.below b4
          have kb := kb.below b4
          have B := B.trans (b4.mono B.size)
          clear b4
          have HC := Lib.hid (refR_rat hx)
          go_wp2_with fail
          refine HC.out.mono ?_
          rintro e W3 ⟨rfl, bq⟩
          clear HC
          have hx := hx.below bq
          have hy := hy.below bq
          have ht := ht.below bq
          have ka := ka.below bq
          have kb := kb.below bq
          have kt := kt.below bq
          have B := B.trans (bq.mono B.size)
          clear bq
          clear ka_0 ka_1 ka_2 ka_l kb_0 kb_1 kb_2 kb_l
          obtain ⟨ka_0, ka_1, ka_2⟩ := block3 ka
          have ka_l := ka.lt
          obtain ⟨kb_0, kb_1, kb_2⟩ := block3 kb
          have kb_l := kb.lt
          obtain ⟨kt_0, kt_1, kt_2⟩ := block3 kt
          have kt_l := kt.lt
          have HC := Lib.hid (OF.out _ _ hx)
          go_wp2_with fail
          refine HC.out.mono ?_
          rintro e W4 ⟨rfl, bq⟩
          clear HC
          have hx := hx.below bq
          have hy := hy.below bq
          have ht := ht.below bq
          have ka := ka.below bq
          have kb := kb.below bq
          have kt := kt.below bq
          have B := B.trans (bq.mono B.size)
          clear bq
          clear ka_0 ka_1 ka_2 ka_l kb_0 kb_1 kb_2 kb_l kt_0 kt_1 kt_2 kt_l
          obtain ⟨ka_0, ka_1, ka_2⟩ := block3 ka
          have ka_l := ka.lt
          obtain ⟨kb_0, kb_1, kb_2⟩ := block3 kb
          have kb_l := kb.lt
          obtain ⟨kt_0, kt_1, kt_2⟩ := block3 kt
          have kt_l := kt.lt
          have b4 : Below W4.heap.size W4 (W4.alloc (.cells #[.bool nx, .string n1, .string d1, .bool false] 37)) := (Below.refl _ _).alloc (Nat.le_refl _) _
          have fx := BlockAt.new W4 #[.bool nx, .string n1, .string d1, .bool false] 37
          have hx := hx.below b4
          have hy := hy.below b4
          have ht := ht.below b4
          have ka := ka.below b4
          have kb := kb.below b4
          have kt := kt.below b4
          have B := B.trans (b4.mono B.size)
          clear b4
          have fQ := fieldQ
          go_wp2_with fail
          generalize W4.alloc (.cells #[.bool nx, .string n1, .string d1, .bool false] 37) = U5 at *
          have hx := hx.below ((Below.refl U5.heap.size U5).drew)
          have hy := hy.below ((Below.refl U5.heap.size U5).drew)
          have ht := ht.below ((Below.refl U5.heap.size U5).drew)
          have ka := ka.below ((Below.refl U5.heap.size U5).drew)
          have kb := kb.below ((Below.refl U5.heap.size U5).drew)
          have kt := kt.below ((Below.refl U5.heap.size U5).drew)
          have fx := fx.below ((Below.refl U5.heap.size U5).drew)
          have B := B.drew
          clear ka_0 ka_1 ka_2 ka_l kb_0 kb_1 kb_2 kb_l kt_0 kt_1 kt_2 kt_l
          obtain ⟨ka_0, ka_1, ka_2⟩ := block3 ka
          have ka_l := ka.lt
          obtain ⟨kb_0, kb_1, kb_2⟩ := block3 kb
          have kb_l := kb.lt
          obtain ⟨kt_0, kt_1, kt_2⟩ := block3 kt
          have kt_l := kt.lt
          obtain ⟨fx_0, fx_1, fx_2, fx_3⟩ := block4 fx
          have fx_l := fx.lt
          have tok0 : True := trivial
          go_region_held3 (fun w' => w'.cell? ⟨W2.heap.size, 0, none⟩ = some (.bool t1_) ∧ w'.cell? ⟨W2.heap.size, 1, none⟩ = some (.slice oa1 na1 ca1) ∧ w'.cell? ⟨W2.heap.size, 2, none⟩ = some (.slice ob1 nb1 cb1) ∧ w'.cell? ⟨W4.heap.size, 0, none⟩ = some (.bool nx) ∧ w'.cell? ⟨W4.heap.size, 1, none⟩ = some (.string n1) ∧ w'.cell? ⟨W4.heap.size, 2, none⟩ = some (.string d1))
            (first | go_keep | (exact ⟨kt_0, kt_1, kt_2, fx_0, fx_1, fx_2⟩))
            (first | (go_at_call 32; have _t := tok0; clear _t tok0; have tok1 : True := trivial; refine (DV.out _).mono ?_; rintro e W6 ⟨rfl, bq⟩; have hx := hx.below bq; have hy := hy.below bq; have ht := ht.below bq; have ka := ka.below bq; have kb := kb.below bq; have kt := kt.below bq; have fx := fx.below bq; have B := B.trans (bq.mono B.size); clear bq; clear ka_0 ka_1 ka_2 ka_l kb_0 kb_1 kb_2 kb_l kt_0 kt_1 kt_2 kt_l fx_0 fx_1 fx_2 fx_3 fx_l; obtain ⟨ka_0, ka_1, ka_2⟩ := block3 ka; have ka_l := ka.lt; obtain ⟨kb_0, kb_1, kb_2⟩ := block3 kb; have kb_l := kb.lt; obtain ⟨kt_0, kt_1, kt_2⟩ := block3 kt; have kt_l := kt.lt; obtain ⟨fx_0, fx_1, fx_2, fx_3⟩ := block4 fx; have fx_l := fx.lt) | (go_at_call 19; have _t := tok1; clear _t tok1; have tok2 : True := trivial; refine (RD.out _).mono ?_; rintro e W7 ⟨rfl, bq⟩; have hx := hx.below bq; have hy := hy.below bq; have ht := ht.below bq; have ka := ka.below bq; have kb := kb.below bq; have kt := kt.below bq; have fx := fx.below bq; have B := B.trans (bq.mono B.size); clear bq; clear ka_0 ka_1 ka_2 ka_l kb_0 kb_1 kb_2 kb_l kt_0 kt_1 kt_2 kt_l fx_0 fx_1 fx_2 fx_3 fx_l; obtain ⟨ka_0, ka_1, ka_2⟩ := block3 ka; have ka_l := ka.lt; obtain ⟨kb_0, kb_1, kb_2⟩ := block3 kb; have kb_l := kb.lt; obtain ⟨kt_0, kt_1, kt_2⟩ := block3 kt; have kt_l := kt.lt; obtain ⟨fx_0, fx_1, fx_2, fx_3⟩ := block4 fx; have fx_l := fx.lt) | (go_at_call 31; have _t := tok2; clear _t tok2; have tok3 : True := trivial; refine (IS.out _ _ ht).mono ?_; rintro e W8 ⟨rfl, bq⟩; have hx := hx.below bq; have hy := hy.below bq; have ht := ht.below bq; have ka := ka.below bq; have kb := kb.below bq; have kt := kt.below bq; have fx := fx.below bq; have B := B.trans (bq.mono B.size); clear bq; clear ka_0 ka_1 ka_2 ka_l kb_0 kb_1 kb_2 kb_l kt_0 kt_1 kt_2 kt_l fx_0 fx_1 fx_2 fx_3 fx_l; obtain ⟨ka_0, ka_1, ka_2⟩ := block3 ka; have ka_l := ka.lt; obtain ⟨kb_0, kb_1, kb_2⟩ := block3 kb; have kb_l := kb.lt; obtain ⟨kt_0, kt_1, kt_2⟩ := block3 kt; have kt_l := kt.lt; obtain ⟨fx_0, fx_1, fx_2, fx_3⟩ := block4 fx; have fx_l := fx.lt) | (go_at_call 14; have _t := tok3; clear _t tok3; have tok4 : True := trivial; refine (aliveR _).mono ?_; rintro e W9 ⟨rfl, bq⟩; have hx := hx.below bq; have hy := hy.below bq; have ht := ht.below bq; have ka := ka.below bq; have kb := kb.below bq; have kt := kt.below bq; have fx := fx.below bq; have B := B.trans (bq.mono B.size); clear bq; clear ka_0 ka_1 ka_2 ka_l kb_0 kb_1 kb_2 kb_l kt_0 kt_1 kt_2 kt_l fx_0 fx_1 fx_2 fx_3 fx_l; obtain ⟨ka_0, ka_1, ka_2⟩ := block3 ka; have ka_l := ka.lt; obtain ⟨kb_0, kb_1, kb_2⟩ := block3 kb; have kb_l := kb.lt; obtain ⟨kt_0, kt_1, kt_2⟩ := block3 kt; have kt_l := kt.lt; obtain ⟨fx_0, fx_1, fx_2, fx_3⟩ := block4 fx; have fx_l := fx.lt))
          clear tok4
          clear fQ
          clear kt_0 kt_1 kt_2 kt_l kt ht
          have HC := Lib.hid (refR_rat hy)
          go_wp2_with fail
          refine HC.out.mono ?_
          rintro e W10 ⟨rfl, bq⟩
          clear HC
          have hx := hx.below bq
          have hy := hy.below bq
          have ka := ka.below bq
          have kb := kb.below bq
          have fx := fx.below bq
          have B := B.trans (bq.mono B.size)
          clear bq
          clear ka_0 ka_1 ka_2 ka_l kb_0 kb_1 kb_2 kb_l fx_0 fx_1 fx_2 fx_3 fx_l
          obtain ⟨ka_0, ka_1, ka_2⟩ := block3 ka
          have ka_l := ka.lt
          obtain ⟨kb_0, kb_1, kb_2⟩ := block3 kb
          have kb_l := kb.lt
          obtain ⟨fx_0, fx_1, fx_2, fx_3⟩ := block4 fx
          have fx_l := fx.lt
          have HC := Lib.hid (OFY.out _ _ hy)
          go_wp2_with fail
          refine HC.out.mono ?_
          rintro e W11 ⟨rfl, bq⟩
          clear HC
          have hx := hx.below bq
          have hy := hy.below bq
          have ka := ka.below bq
          have kb := kb.below bq
          have fx := fx.below bq
          have B := B.trans (bq.mono B.size)
          clear bq
          clear ka_0 ka_1 ka_2 ka_l kb_0 kb_1 kb_2 kb_l fx_0 fx_1 fx_2 fx_3 fx_l
          obtain ⟨ka_0, ka_1, ka_2⟩ := block3 ka
          have ka_l := ka.lt
          obtain ⟨kb_0, kb_1, kb_2⟩ := block3 kb
          have kb_l := kb.lt
          obtain ⟨fx_0, fx_1, fx_2, fx_3⟩ := block4 fx
          have fx_l := fx.lt
          have b4 : Below W11.heap.size W11 (W11.alloc (.cells #[.bool ny, .string n2, .string d2, .bool false] 37)) := (Below.refl _ _).alloc (Nat.le_refl _) _
          have fy := BlockAt.new W11 #[.bool ny, .string n2, .string d2, .bool false] 37
          have hx := hx.below b4
          have hy := hy.below b4
          have ka := ka.below b4
          have kb := kb.below b4
          have fx := fx.below b4
          have B := B.trans (b4.mono B.size)
          clear b4
          clear ka_0 ka_1 ka_2 ka_l kb_0 kb_1 kb_2 kb_l hx hy ka kb
          go_wp2_with fail
          generalize W11.alloc (.cells #[.bool ny, .string n2, .string d2, .bool false] 37) = U12 at *
          have fx := fx.below ((Below.refl U12.heap.size U12).drew)
          have fy := fy.below ((Below.refl U12.heap.size U12).drew)
          have B := B.drew
          clear fx_0 fx_1 fx_2 fx_3 fx_l
          obtain ⟨fx_0, fx_1, fx_2, fx_3⟩ := block4 fx
          have fx_l := fx.lt
          obtain ⟨fy_0, fy_1, fy_2, fy_3⟩ := block4 fy
          have fy_l := fy.lt
          have tok0 : True := trivial
          go_region_held3 (fun w' => w'.cell? ⟨W4.heap.size, 1, none⟩ = some (.string n1) ∧ w'.cell? ⟨W4.heap.size, 2, none⟩ = some (.string d1) ∧ w'.cell? ⟨W11.heap.size, 1, none⟩ = some (.string n2) ∧ w'.cell? ⟨W11.heap.size, 2, none⟩ = some (.string d2))
            (first | go_keep | (exact ⟨fx_1, fx_2, fy_1, fy_2⟩))
            (first | (go_at_call 33; have _t := tok0; clear _t tok0; have tok1 : True := trivial; refine (M1.out _).mono ?_; rintro e W13 ⟨rfl, bq⟩; have fx := fx.below bq; have fy := fy.below bq; have B := B.trans (bq.mono B.size); clear bq; clear fx_0 fx_1 fx_2 fx_3 fx_l fy_0 fy_1 fy_2 fy_3 fy_l; obtain ⟨fx_0, fx_1, fx_2, fx_3⟩ := block4 fx; have fx_l := fx.lt; obtain ⟨fy_0, fy_1, fy_2, fy_3⟩ := block4 fy; have fy_l := fy.lt) | (go_at_call 33; have _t := tok1; clear _t tok1; have tok2 : True := trivial; refine (M2.out _).mono ?_; rintro e W14 ⟨rfl, bq⟩; have fx := fx.below bq; have fy := fy.below bq; have B := B.trans (bq.mono B.size); clear bq; clear fx_0 fx_1 fx_2 fx_3 fx_l fy_0 fy_1 fy_2 fy_3 fy_l; obtain ⟨fx_0, fx_1, fx_2, fx_3⟩ := block4 fx; have fx_l := fx.lt; obtain ⟨fy_0, fy_1, fy_2, fy_3⟩ := block4 fy; have fy_l := fy.lt))
          clear tok2
          have HC := Lib.hid (O1.out W14)
          go_wp2_with fail
          refine HC.out.mono ?_
          rintro e W15 ⟨rfl, bq⟩
          clear HC
          have fx := fx.below bq
          have fy := fy.below bq
          have B := B.trans (bq.mono B.size)
          clear bq
          clear fx_0 fx_1 fx_2 fx_3 fx_l fy_0 fy_1 fy_2 fy_3 fy_l
          obtain ⟨fx_0, fx_1, fx_2, fx_3⟩ := block4 fx
          have fx_l := fx.lt
          obtain ⟨fy_0, fy_1, fy_2, fy_3⟩ := block4 fy
          have fy_l := fy.lt
          go_wp2_with fail
          go_ret
          exact ⟨rfl, B⟩
      · have hbad := Lib.hid (show BadPair wc (.agg #[.bool s, .slice ao1 an1 ac1, .slice ao2 an2 ac2]) (.agg #[.bool t, .slice ao3 an3 ac3, .slice ao4 an4 ac4]) from .inr ⟨⟨x, hx⟩, hby⟩)
        clear HX HY en e1 e2
        obtain ⟨ka_0, ka_1, ka_2⟩ := block3 ka
        have ka_l := ka.lt
        obtain ⟨kb_0, kb_1, kb_2⟩ := block3 kb
        have kb_l := kb.lt
        have HC := Lib.hid (cmp_badr _ _ _ hbad.out FB)
        go_wp2_with fail
        refine HC.out.mono ?_
        rintro e W1 ⟨rfl, bq⟩
        clear HC
        have hx := hx.below bq
        have hby := hby.below bq
        have ka := ka.below bq
        have kb := kb.below bq
        have B := B.trans (bq.mono B.size)
        clear bq
        clear ka_0 ka_1 ka_2 ka_l kb_0 kb_1 kb_2 kb_l
        obtain ⟨ka_0, ka_1, ka_2⟩ := block3 ka
        have ka_l := ka.lt
        obtain ⟨kb_0, kb_1, kb_2⟩ := block3 kb
        have kb_l := kb.lt
        clear hbad
        have HC := Lib.hid (trunc_rat _ x _ hx)
        go_wp2_with fail
        refine HC.out.mono ?_
        rintro e W2 ⟨⟨rt, rfl, ht⟩, bq⟩
        clear HC
        have hx := hx.below bq
        have hby := hby.below bq
        have ka := ka.below bq
        have kb := kb.below bq
        have B := B.trans (bq.mono B.size)
        clear bq
        clear ka_0 ka_1 ka_2 ka_l kb_0 kb_1 kb_2 kb_l
        obtain ⟨ka_0, ka_1, ka_2⟩ := block3 ka
        have ka_l := ka.lt
        obtain ⟨kb_0, kb_1, kb_2⟩ := block3 kb
        have kb_l := kb.lt
        obtain ⟨t1_, oa1, na1, ca1, ob1, nb1, cb1, rfl⟩ := RawN.form ht
        have b4 : Below W2.heap.size W2 (W2.alloc (.cells #[.bool t1_, .slice oa1 na1 ca1, .slice ob1 nb1 cb1] 25)) := (Below.refl _ _).alloc (Nat.le_refl _) _
        have kt := BlockAt.new W2 #[.bool t1_, .slice oa1 na1 ca1, .slice ob1 nb1 cb1] 25
        have hx := hx.below b4
        have hby := hby.below b4
        have ht := ht.below b4
        have ka := ka.below b4
        have kb := kb.below b4
        have B := B.trans (b4.mono B.size)
        clear b4
        have HC := Lib.hid (refR_rat hx)
        go_wp2_with fail
        refine HC.out.mono ?_
        rintro e W3 ⟨rfl, bq⟩
        clear HC
        have hx := hx.below bq
        have hby := hby.below bq
        have ht := ht.below bq
        have ka := ka.below bq
        have kb := kb.below bq
        have kt := kt.below bq
        have B := B.trans (bq.mono B.size)
        clear bq
        clear ka_0 ka_1 ka_2 ka_l kb_0 kb_1 kb_2 kb_l
        obtain ⟨ka_0, ka_1, ka_2⟩ := block3 ka
        have ka_l := ka.lt
        obtain ⟨kb_0, kb_1, kb_2⟩ := block3 kb
        have kb_l := kb.lt
        obtain ⟨kt_0, kt_1, kt_2⟩ := block3 kt
        have kt_l := kt.lt
        have HC := Lib.hid (OF.out _ _ hx)
        go_wp2_with fail
        refine HC.out.mono ?_
        rintro e W4 ⟨rfl, bq⟩
        clear HC
        have hx := hx.below bq
        have hby := hby.below bq
        have ht := ht.below bq
        have ka := ka.below bq
        have kb := kb.below bq
        have kt := kt.below bq
        have B := B.trans (bq.mono B.size)
        clear bq
        clear ka_0 ka_1 ka_2 ka_l kb_0 kb_1 kb_2 kb_l kt_0 kt_1 kt_2 kt_l
        obtain ⟨ka_0, ka_1, ka_2⟩ := block3 ka
        have ka_l := ka.lt
        obtain ⟨kb_0, kb_1, kb_2⟩ := block3 kb
        have kb_l := kb.lt
        obtain ⟨kt_0, kt_1, kt_2⟩ := block3 kt
        have kt_l := kt.lt
        have b4 : Below W4.heap.size W4 (W4.alloc (.cells #[.bool nx, .string n1, .string d1, .bool false] 37)) := (Below.refl _ _).alloc (Nat.le_refl _) _
        have fx := BlockAt.new W4 #[.bool nx, .string n1, .string d1, .bool false] 37
        have hx := hx.below b4
        have hby := hby.below b4
        have ht := ht.below b4
        have ka := ka.below b4
        have kb := kb.below b4
        have kt := kt.below b4
        have B := B.trans (b4.mono B.size)
        clear b4
        have fQ := fieldQ
        go_wp2_with fail
        generalize W4.alloc (.cells #[.bool nx, .string n1, .string d1, .bool false] 37) = U5 at *
        have hx := hx.below ((Below.refl U5.heap.size U5).drew)
        have hby := hby.below ((Below.refl U5.heap.size U5).drew)
        have ht := ht.below ((Below.refl U5.heap.size U5).drew)
        have ka := ka.below ((Below.refl U5.heap.size U5).drew)
        have kb := kb.below ((Below.refl U5.heap.size U5).drew)
        have kt := kt.below ((Below.refl U5.heap.size U5).drew)
        have fx := fx.below ((Below.refl U5.heap.size U5).drew)
        have B := B.drew
        clear ka_0 ka_1 ka_2 ka_l kb_0 kb_1 kb_2 kb_l kt_0 kt_1 kt_2 kt_l
        obtain ⟨ka_0, ka_1, ka_2⟩ := block3 ka
        have ka_l := ka.lt
        obtain ⟨kb_0, kb_1, kb_2⟩ := block3 kb
        have kb_l := kb.lt
        obtain ⟨kt_0, kt_1, kt_2⟩ := block3 kt
        have kt_l := kt.lt
        obtain ⟨fx_0, fx_1, fx_2, fx_3⟩ := block4 fx
        have fx_l := fx.lt
        have tok0 : True := trivial
        go_region_held3 (fun w' => w'.cell? ⟨W2.heap.size, 0, none⟩ = some (.bool t1_) ∧ w'.cell? ⟨W2.heap.size, 1, none⟩ = some (.slice oa1 na1 ca1) ∧ w'.cell? ⟨W2.heap.size, 2, none⟩ = some (.slice ob1 nb1 cb1) ∧ w'.cell? ⟨W4.heap.size, 0, none⟩ = some (.bool nx) ∧ w'.cell? ⟨W4.heap.size, 1, none⟩ = some (.string n1) ∧ w'.cell? ⟨W4.heap.size, 2, none⟩ = some (.string d1))
          (first | go_keep | (exact ⟨kt_0, kt_1, kt_2, fx_0, fx_1, fx_2⟩))
          (first | (go_at_call 32; have _t := tok0; clear _t tok0; have tok1 : True := trivial; refine (DV.out _).mono ?_; rintro e W6 ⟨rfl, bq⟩; have hx := hx.below bq; have hby := hby.below bq; have ht := ht.below bq; have ka := ka.below bq; have kb := kb.below bq; have kt := kt.below bq; have fx := fx.below bq; have B := B.trans (bq.mono B.size); clear bq; clear ka_0 ka_1 ka_2 ka_l kb_0 kb_1 kb_2 kb_l kt_0 kt_1 kt_2 kt_l fx_0 fx_1 fx_2 fx_3 fx_l; obtain ⟨ka_0, ka_1, ka_2⟩ := block3 ka; have ka_l := ka.lt; obtain ⟨kb_0, kb_1, kb_2⟩ := block3 kb; have kb_l := kb.lt; obtain ⟨kt_0, kt_1, kt_2⟩ := block3 kt; have kt_l := kt.lt; obtain ⟨fx_0, fx_1, fx_2, fx_3⟩ := block4 fx; have fx_l := fx.lt) | (go_at_call 19; have _t := tok1; clear _t tok1; have tok2 : True := trivial; refine (RD.out _).mono ?_; rintro e W7 ⟨rfl, bq⟩; have hx := hx.below bq; have hby := hby.below bq; have ht := ht.below bq; have ka := ka.below bq; have kb := kb.below bq; have kt := kt.below bq; have fx := fx.below bq; have B := B.trans (bq.mono B.size); clear bq; clear ka_0 ka_1 ka_2 ka_l kb_0 kb_1 kb_2 kb_l kt_0 kt_1 kt_2 kt_l fx_0 fx_1 fx_2 fx_3 fx_l; obtain ⟨ka_0, ka_1, ka_2⟩ := block3 ka; have ka_l := ka.lt; obtain ⟨kb_0, kb_1, kb_2⟩ := block3 kb; have kb_l := kb.lt; obtain ⟨kt_0, kt_1, kt_2⟩ := block3 kt; have kt_l := kt.lt; obtain ⟨fx_0, fx_1, fx_2, fx_3⟩ := block4 fx; have fx_l := fx.lt) | (go_at_call 31; have _t := tok2; clear _t tok2; have tok3 : True := trivial; refine (IS.out _ _ ht).mono ?_; rintro e W8 ⟨rfl, bq⟩; have hx := hx.below bq; have hby := hby.below bq; have ht := ht.below bq; have ka := ka.below bq; have kb := kb.below bq; have kt := kt.below bq; have fx := fx.below bq; have B := B.trans (bq.mono B.size); clear bq; clear ka_0 ka_1 ka_2 ka_l kb_0 kb_1 kb_2 kb_l kt_0 kt_1 kt_2 kt_l fx_0 fx_1 fx_2 fx_3 fx_l; obtain ⟨ka_0, ka_1, ka_2⟩ := block3 ka; have ka_l := ka.lt; obtain ⟨kb_0, kb_1, kb_2⟩ := block3 kb; have kb_l := kb.lt; obtain ⟨kt_0, kt_1, kt_2⟩ := block3 kt; have kt_l := kt.lt; obtain ⟨fx_0, fx_1, fx_2, fx_3⟩ := block4 fx; have fx_l := fx.lt) | (go_at_call 14; have _t := tok3; clear _t tok3; have tok4 : True := trivial; refine (aliveR _).mono ?_; rintro e W9 ⟨rfl, bq⟩; have hx := hx.below bq; have hby := hby.below bq; have ht := ht.below bq; have ka := ka.below bq; have kb := kb.below bq; have kt := kt.below bq; have fx := fx.below bq; have B := B.trans (bq.mono B.size); clear bq; clear ka_0 ka_1 ka_2 ka_l kb_0 kb_1 kb_2 kb_l kt_0 kt_1 kt_2 kt_l fx_0 fx_1 fx_2 fx_3 fx_l; obtain ⟨ka_0, ka_1, ka_2⟩ := block3 ka; have ka_l := ka.lt; obtain ⟨kb_0, kb_1, kb_2⟩ := block3 kb; have kb_l := kb.lt; obtain ⟨kt_0, kt_1, kt_2⟩ := block3 kt; have kt_l := kt.lt; obtain ⟨fx_0, fx_1, fx_2, fx_3⟩ := block4 fx; have fx_l := fx.lt))
        clear tok4
        clear fQ
        clear kt_0 kt_1 kt_2 kt_l kt ht
        have HC := Lib.hid (refR_not hby)
        go_wp2_with fail
        refine HC.out.mono ?_
        rintro e W10 ⟨rfl, bq⟩
        clear HC
        have hx := hx.below bq
        have hby := hby.below bq
        have ka := ka.below bq
        have kb := kb.below bq
        have fx := fx.below bq
        have B := B.trans (bq.mono B.size)
        clear bq
        clear ka_0 ka_1 ka_2 ka_l kb_0 kb_1 kb_2 kb_l fx_0 fx_1 fx_2 fx_3 fx_l
        obtain ⟨ka_0, ka_1, ka_2⟩ := block3 ka
        have ka_l := ka.lt
        obtain ⟨kb_0, kb_1, kb_2⟩ := block3 kb
        have kb_l := kb.lt
        obtain ⟨fx_0, fx_1, fx_2, fx_3⟩ := block4 fx
        have fx_l := fx.lt
        go_wp2_with fail
        go_ret
        exact ⟨rfl, B⟩
    · have hbad := Lib.hid (show BadPair wc (.agg #[.bool s, .slice ao1 an1 ac1, .slice ao2 an2 ac2]) (.agg #[.bool t, .slice ao3 an3 ac3, .slice ao4 an4 ac4]) from .inl hbx)
      clear HX HY
      obtain ⟨ka_0, ka_1, ka_2⟩ := block3 ka
      have ka_l := ka.lt
      obtain ⟨kb_0, kb_1, kb_2⟩ := block3 kb
      have kb_l := kb.lt
      have HC := Lib.hid (cmp_badr _ _ _ hbad.out FB)
      go_wp2_with fail
      refine HC.out.mono ?_
      rintro e W1 ⟨rfl, bq⟩
      clear HC
      have hbx := hbx.below bq
      have ka := ka.below bq
      have kb := kb.below bq
      have B := B.trans (bq.mono B.size)
      clear bq
      clear ka_0 ka_1 ka_2 ka_l kb_0 kb_1 kb_2 kb_l
      obtain ⟨ka_0, ka_1, ka_2⟩ := block3 ka
      have ka_l := ka.lt
      obtain ⟨kb_0, kb_1, kb_2⟩ := block3 kb
      have kb_l := kb.lt
      clear hbad
      have HC := Lib.hid (trunc_badr _ _ hbx)
      go_wp2_with fail
      refine HC.out.mono ?_
      rintro e W2 ⟨hk, bq⟩
      clear HC
      have hbx := hbx.below bq
      have ka := ka.below bq
      have kb := kb.below bq
      have B := B.trans (bq.mono B.size)
      clear bq
      clear ka_0 ka_1 ka_2 ka_l kb_0 kb_1 kb_2 kb_l
      obtain ⟨ka_0, ka_1, ka_2⟩ := block3 ka
      have ka_l := ka.lt
      obtain ⟨kb_0, kb_1, kb_2⟩ := block3 kb
      have kb_l := kb.lt
      unfold nilRat at hk
      obtain rfl := hk
      have b4 : Below W2.heap.size W2 (W2.alloc (.cells #[.bool false, .slice none 0 0, .slice none 0 0] 25)) := (Below.refl _ _).alloc (Nat.le_refl _) _
      have kt := BlockAt.new W2 #[.bool false, .slice none 0 0, .slice none 0 0] 25
      have hbx := hbx.below b4
      have ka := ka.below b4
      have kb := kb.below b4
      have B := B.trans (b4.mono B.size)
      clear b4
      have HC := Lib.hid (refR_not hbx)
      go_wp2_with fail
      refine HC.out.mono ?_
      rintro e W3 ⟨rfl, bq⟩
      clear HC
      have hbx := hbx.below bq
      have ka := ka.below bq
      have kb := kb.below bq
      have kt := kt.below bq
      have B := B.trans (bq.mono B.size)
      clear bq
      clear ka_0 ka_1 ka_2 ka_l kb_0 kb_1 kb_2 kb_l
      obtain ⟨ka_0, ka_1, ka_2⟩ := block3 ka
      have ka_l := ka.lt
      obtain ⟨kb_0, kb_1, kb_2⟩ := block3 kb
      have kb_l := kb.lt
      obtain ⟨kt_0, kt_1, kt_2⟩ := block3 kt
      have kt_l := kt.lt
      have HC := Lib.hid (aliveR W3)
      go_wp2_with fail
      refine HC.out.mono ?_
      rintro e W4 ⟨rfl, bq⟩
      clear HC
      have hbx := hbx.below bq
      have ka := ka.below bq
      have kb := kb.below bq
      have kt := kt.below bq
      have B := B.trans (bq.mono B.size)
      clear bq
      clear ka_0 ka_1 ka_2 ka_l kb_0 kb_1 kb_2 kb_l kt_0 kt_1 kt_2 kt_l
      obtain ⟨ka_0, ka_1, ka_2⟩ := block3 ka
      have ka_l := ka.lt
      obtain ⟨kb_0, kb_1, kb_2⟩ := block3 kb
      have kb_l := kb.lt
      obtain ⟨kt_0, kt_1, kt_2⟩ := block3 kt
      have kt_l := kt.lt
      have HC := Lib.hid (same_none W4)
      go_wp2_with fail
      refine HC.out.mono ?_
      rintro e W5 ⟨rfl, bq⟩
      clear HC
      have hbx := hbx.below bq
      have ka := ka.below bq
      have kb := kb.below bq
      have kt := kt.below bq
      have B := B.trans (bq.mono B.size)
      clear bq
      clear ka_0 ka_1 ka_2 ka_l kb_0 kb_1 kb_2 kb_l kt_0 kt_1 kt_2 kt_l
      obtain ⟨ka_0, ka_1, ka_2⟩ := block3 ka
      have ka_l := ka.lt
      obtain ⟨kb_0, kb_1, kb_2⟩ := block3 kb
      have kb_l := kb.lt
      obtain ⟨kt_0, kt_1, kt_2⟩ := block3 kt
      have kt_l := kt.lt
      go_wp2_with fail
      go_ret
      exact ⟨rfl, B⟩
end Go.Proofs.Ythmhljfaenekfaa
