/- The law RatReckons. -/
import Derived.Test.YthmhljfaenekfaaRatCut
namespace Go.Proofs.Ythmhljfaenekfaa
open Go.RowKit NM

theorem left_drew {B : Nat} {w w' : World} (h : Below B w w') : Below B w.drew w' := ⟨h.os, h.tape, h.output, h.size, h.block⟩
theorem one_new {w w' : World} {cs : Array Value} {t : TypeId} (h : Below (w.alloc (.cells cs t)).heap.size (w.alloc (.cells cs t)) w') : BlockAt w' w.heap.size cs t ∧ Below w.heap.size w w' :=
  ⟨(BlockAt.new w cs t).below h, ((Below.refl w.heap.size w).alloc (Nat.le_refl _) _).trans (h.mono (by simp))⟩
theorem two_new {w w' : World} {cs cs2 : Array Value} {t t2 : TypeId} (h : Below ((w.alloc (.cells cs t)).alloc (.cells cs2 t2)).heap.size ((w.alloc (.cells cs t)).alloc (.cells cs2 t2)) w') :
    BlockAt w' w.heap.size cs t ∧ BlockAt w' (w.heap.size + 1) cs2 t2 ∧ Below w.heap.size w w' := by
  obtain ⟨h1, h2⟩ := one_new h
  have e : (w.alloc (.cells cs t)).heap.size = w.heap.size + 1 := by simp
  obtain ⟨h3, h4⟩ := one_new h2
  rw [e] at h1
  exact ⟨h3, h1, h4⟩
theorem one_new_d {w w' : World} {cs : Array Value} {t : TypeId} (h : Below (w.alloc (.cells cs t)).drew.heap.size (w.alloc (.cells cs t)).drew w') : BlockAt w' w.heap.size cs t ∧ Below w.drew.heap.size w.drew w' := by
  obtain ⟨h1, h2⟩ := one_new (show Below (w.alloc (.cells cs t)).heap.size (w.alloc (.cells cs t)) w' from ⟨h.os, h.tape, h.output, h.size, h.block⟩)
  exact ⟨h1, left_drew h2⟩
theorem two_new_d {w w' : World} {cs cs2 : Array Value} {t t2 : TypeId} (h : Below ((w.alloc (.cells cs t)).alloc (.cells cs2 t2)).drew.heap.size ((w.alloc (.cells cs t)).alloc (.cells cs2 t2)).drew w') :
    BlockAt w' w.heap.size cs t ∧ BlockAt w' (w.heap.size + 1) cs2 t2 ∧ Below w.drew.heap.size w.drew w' := by
  obtain ⟨h1, h2, h3⟩ := two_new (show Below ((w.alloc (.cells cs t)).alloc (.cells cs2 t2)).heap.size ((w.alloc (.cells cs t)).alloc (.cells cs2 t2)) w' from ⟨h.os, h.tape, h.output, h.size, h.block⟩)
  exact ⟨h1, h2, left_drew h3⟩
theorem RatN.a1 {w : World} {v : Value} {x : Rat} {o : Obj} (h : RatN w v x) : RatN (w.alloc o) v x := h.below ((Below.refl w.heap.size w).alloc (Nat.le_refl _) o)
theorem RatN.a2 {w : World} {v : Value} {x : Rat} {o o2 : Obj} (h : RatN w v x) : RatN ((w.alloc o).alloc o2) v x := h.a1.a1
theorem RatN.d0 {w : World} {v : Value} {x : Rat} (h : RatN w.drew v x) : RatN w v x := h.below (w := w.drew) (w' := w) ⟨rfl, rfl, rfl, Nat.le_refl _, fun _ _ => rfl⟩
theorem RatN.dd {w : World} {v : Value} {x : Rat} (h : RatN w v x) : RatN w.drew v x := h.below ((Below.refl w.heap.size w).drew)
theorem RatN.d1 {w : World} {v : Value} {x : Rat} {o : Obj} (h : RatN w.drew v x) : RatN (w.alloc o).drew v x := h.d0.a1.dd
theorem RatN.d2 {w : World} {v : Value} {x : Rat} {o o2 : Obj} (h : RatN w.drew v x) : RatN ((w.alloc o).alloc o2).drew v x := h.d0.a2.dd
theorem leafA {W0 W : World} (xs ys : Array Value) (t : TypeId) (B : Below W0.heap.size W0 W) : BlockAt ((W.alloc (.cells xs t)).alloc (.cells ys t)) W.heap.size xs t ∧ BlockAt ((W.alloc (.cells xs t)).alloc (.cells ys t)) (W.heap.size + 1) ys t ∧ Below W0.heap.size W0 ((W.alloc (.cells xs t)).alloc (.cells ys t)) := by
  obtain ⟨h1, h2, h3⟩ := two_start' W xs ys t t
  exact ⟨h2, h3, B.trans (h1.mono B.size)⟩
theorem leafB {W0 W : World} {p : Nat} {u0 u1 u2 u3 : Value} (v0 v1 v2 v3 : Value) (ys : Array Value) (t : TypeId) (g : BlockAt W p #[u0, u1, u2, u3] t) (hp : W0.heap.size ≤ p) (B : Below W0.heap.size W0 W) :
    BlockAt (((((W.setCell ⟨p, 0, none⟩ v0).setCell ⟨p, 1, none⟩ v1).setCell ⟨p, 2, none⟩ v2).setCell ⟨p, 3, none⟩ v3).alloc (.cells ys t)) p #[v0, v1, v2, v3] t ∧
    BlockAt (((((W.setCell ⟨p, 0, none⟩ v0).setCell ⟨p, 1, none⟩ v1).setCell ⟨p, 2, none⟩ v2).setCell ⟨p, 3, none⟩ v3).alloc (.cells ys t)) W.heap.size ys t ∧
    Below W0.heap.size W0 (((((W.setCell ⟨p, 0, none⟩ v0).setCell ⟨p, 1, none⟩ v1).setCell ⟨p, 2, none⟩ v2).setCell ⟨p, 3, none⟩ v3).alloc (.cells ys t)) := by
  have h := (((g.set 0 v0).set 1 v1).set 2 v2).set 3 v3
  have B2 := (((B.setCell (p := ⟨p, 0, none⟩) hp v0).setCell (p := ⟨p, 1, none⟩) hp v1).setCell (p := ⟨p, 2, none⟩) hp v2).setCell (p := ⟨p, 3, none⟩) hp v3
  have e : ((((W.setCell ⟨p, 0, none⟩ v0).setCell ⟨p, 1, none⟩ v1).setCell ⟨p, 2, none⟩ v2).setCell ⟨p, 3, none⟩ v3).heap.size = W.heap.size := by simp [World.setCell]
  generalize (((W.setCell ⟨p, 0, none⟩ v0).setCell ⟨p, 1, none⟩ v1).setCell ⟨p, 2, none⟩ v2).setCell ⟨p, 3, none⟩ v3 = V at *
  have b : Below V.heap.size V (V.alloc (.cells ys t)) := (Below.refl _ _).alloc (Nat.le_refl _) _
  rw [← e]
  exact ⟨h.below b, BlockAt.new V ys t, B2.trans (b.mono B2.size)⟩
theorem leafC {W0 W : World} {p q : Nat} {u0 u1 u2 u3 z0 z1 z2 z3 : Value} (v0 v1 v2 v3 y0 y1 y2 y3 : Value) {t : TypeId} (g : BlockAt W p #[u0, u1, u2, u3] t) (h : BlockAt W q #[z0, z1, z2, z3] t) (hne : p ≠ q) (hp : W0.heap.size ≤ p) (hq : W0.heap.size ≤ q) (B : Below W0.heap.size W0 W) :
    BlockAt ((((((((W.setCell ⟨p, 0, none⟩ v0).setCell ⟨p, 1, none⟩ v1).setCell ⟨p, 2, none⟩ v2).setCell ⟨p, 3, none⟩ v3).setCell ⟨q, 0, none⟩ y0).setCell ⟨q, 1, none⟩ y1).setCell ⟨q, 2, none⟩ y2).setCell ⟨q, 3, none⟩ y3) p #[v0, v1, v2, v3] t ∧
    BlockAt ((((((((W.setCell ⟨p, 0, none⟩ v0).setCell ⟨p, 1, none⟩ v1).setCell ⟨p, 2, none⟩ v2).setCell ⟨p, 3, none⟩ v3).setCell ⟨q, 0, none⟩ y0).setCell ⟨q, 1, none⟩ y1).setCell ⟨q, 2, none⟩ y2).setCell ⟨q, 3, none⟩ y3) q #[y0, y1, y2, y3] t ∧
    Below W0.heap.size W0 ((((((((W.setCell ⟨p, 0, none⟩ v0).setCell ⟨p, 1, none⟩ v1).setCell ⟨p, 2, none⟩ v2).setCell ⟨p, 3, none⟩ v3).setCell ⟨q, 0, none⟩ y0).setCell ⟨q, 1, none⟩ y1).setCell ⟨q, 2, none⟩ y2).setCell ⟨q, 3, none⟩ y3) := by
  have g2 := (((g.set 0 v0).set 1 v1).set 2 v2).set 3 v3
  have h2 := (((h.other (Ne.symm hne) 0 v0).other (Ne.symm hne) 1 v1).other (Ne.symm hne) 2 v2).other (Ne.symm hne) 3 v3
  have B2 := (((B.setCell (p := ⟨p, 0, none⟩) hp v0).setCell (p := ⟨p, 1, none⟩) hp v1).setCell (p := ⟨p, 2, none⟩) hp v2).setCell (p := ⟨p, 3, none⟩) hp v3
  generalize (((W.setCell ⟨p, 0, none⟩ v0).setCell ⟨p, 1, none⟩ v1).setCell ⟨p, 2, none⟩ v2).setCell ⟨p, 3, none⟩ v3 = V at *
  exact ⟨(((g2.other hne 0 y0).other hne 1 y1).other hne 2 y2).other hne 3 y3, (((h2.set 0 y0).set 1 y1).set 2 y2).set 3 y3,
    (((B2.setCell (p := ⟨q, 0, none⟩) hq y0).setCell (p := ⟨q, 1, none⟩) hq y1).setCell (p := ⟨q, 2, none⟩) hq y2).setCell (p := ⟨q, 3, none⟩) hq y3⟩
/-- What the reference answers to two numbers, every text under a name. -/
theorem reck_facts (x y : Rat) (hx : (x.num.natAbs : Int) < pw 16 ∧ (x.den : Int) < pw 16) (hy : (y.num.natAbs : Int) < pw 16 ∧ (y.den : Int) < pw 16) : ∃ (nx ny : Bool) (n1 d1 n2 d2 : ByteArray) (V1 V2 V3 : Value),
    (∀ (W : World) (v : Value), RatN W v x → Calls Try.prog 16 #[v] W fun e w' => e = .returned (.agg #[.bool nx, .string n1, .string d1, .bool false]) ∧ Below W.heap.size W w') ∧
    (∀ (W : World) (v : Value), RatN W v y → Calls Try.prog 16 #[v] W fun e w' => e = .returned (.agg #[.bool ny, .string n2, .string d2, .bool false]) ∧ Below W.heap.size W w') ∧
    (∀ W : World, Calls Try.prog 26 #[.agg #[.bool ny, .string n2, .string d2, .bool false]] W fun e w' => e = .returned (.agg #[.bool (!ny), .string n2, .string d2, .bool false]) ∧ Below W.heap.size W w') ∧
    (∀ W : World, Calls Try.prog 25 #[.agg #[.bool nx, .string n1, .string d1, .bool false], .agg #[.bool ny, .string n2, .string d2, .bool false]] W fun e w' => e = .returned V1 ∧ Below W.heap.size W w') ∧
    (∀ W : World, Calls Try.prog 25 #[.agg #[.bool nx, .string n1, .string d1, .bool false], .agg #[.bool (!ny), .string n2, .string d2, .bool false]] W fun e w' => e = .returned V2 ∧ Below W.heap.size W w') ∧
    (∀ W : World, Calls Try.prog 27 #[.agg #[.bool nx, .string n1, .string d1, .bool false], .agg #[.bool ny, .string n2, .string d2, .bool false]] W fun e w' => e = .returned V3 ∧ Below W.heap.size W w') ∧
    (∀ (W : World) (r : Value) (k : Int), Res (OverA x y) (x + y) W r k → Calls Try.prog 18 #[r, .int .i64 k, V1] W fun e w' => e = .returned (.bool true) ∧ Below W.heap.size W w') ∧
    (∀ (W : World) (r : Value) (k : Int), Res (OverA x y) (x - y) W r k → Calls Try.prog 18 #[r, .int .i64 k, V2] W fun e w' => e = .returned (.bool true) ∧ Below W.heap.size W w') ∧
    (∀ (W : World) (r : Value) (k : Int), Res (OverM x y) (x * y) W r k → Calls Try.prog 18 #[r, .int .i64 k, V3] W fun e w' => e = .returned (.bool true) ∧ Below W.heap.size W w') ∧
    (n2.toList == [48]) = decide (y = 0) ∧
    (y ≠ 0 → ∃ V4 : Value, (∀ W : World, Calls Try.prog 28 #[.agg #[.bool nx, .string n1, .string d1, .bool false], .agg #[.bool ny, .string n2, .string d2, .bool false]] W fun e w' => e = .returned V4 ∧ Below W.heap.size W w') ∧
      (∀ (W : World) (r : Value) (k : Int), Res (OverQ x y) (x / y) W r k → Calls Try.prog 18 #[r, .int .i64 k, V4] W fun e w' => e = .returned (.bool true) ∧ Below W.heap.size W w')) := by
  refine ⟨decide (x.num < 0), decide (y.num < 0), _, _, _, _, addV x y (decide (y.num < 0)), addV x y (!decide (y.num < 0)), mulV x y, fun W v h => of_rat v x W h, fun W v h => of_rat v y W h, fun W => less_fun _ _ _ _ W,
    fun W => refadd_rat x y _ false false W hx hy, fun W => refadd_rat x y _ false false W hx hy, fun W => refmul_rat x y false false W hx hy,
    fun W r k h => isadd x y W h, fun W r k h => issub x y W h, fun W r k h => ismul x y W h, ?_, fun h0 => ⟨quoV x y, fun W => refquo_rat x y false false W hx hy h0, fun W r k h => isquo x y W h0 h⟩⟩
  by_cases h0 : y = 0
  · rw [decide_eq_true h0, h0]
    rw [show numStr (((0 : Rat).num.natAbs : Nat) : Int) = ⟨#[48]⟩ from numStr_zero]
    decide +kernel
  · rw [decide_eq_false h0]
    apply list_ne48
    intro h
    have := numStr_inj (A := (y.num.natAbs : Int)) (B := 0) (by omega) (by omega) (by rw [h, numStr_zero])
    have := num_pos h0
    omega
theorem quo_none (v u : Value) (x y : Rat) (w : World) (h1 : RatN w v x) (h2 : RatN w u y) (h : y = 0) :
    Calls Try.prog 24 #[v, u] w fun e w' => e = .returned (.tuple #[nilRat, .int .i64 4]) ∧ Below w.heap.size w w' :=
  quo_zero v u x w h1 (by rw [h] at h2; exact h2)

set_option maxHeartbeats 100000000 in
set_option maxRecDepth 100000 in
theorem reckons_walk (s0 : Bool) (a0 : Option Addr) (len0 cap0 : Nat) (z0 : List Int) (a1 : Option Addr) (len1 cap1 : Nat) (z1 : List Int) (t0 : Bool) (a2 : Option Addr) (len2 cap2 : Nat) (z2 : List Int) (a3 : Option Addr) (len3 cap3 : Nat) (z3 : List Int) (w : World)
    (w0 : IsRow .u32 w a0 len0 cap0 z0) (w1 : IsRow .u32 w a1 len1 cap1 z1) (w2 : IsRow .u32 w a2 len2 cap2 z2) (w3 : IsRow .u32 w a3 len3 cap3 z3) :
    Calls Try.prog 4 #[.agg #[.bool s0, .slice a0 len0 cap0, .slice a1 len1 cap1], .agg #[.bool t0, .slice a2 len2 cap2, .slice a3 len3 cap3]] w fun e w' => e = .returned (.bool true) ∧ Below w.heap.size w w' := by
  obtain ⟨B, ha, hb⟩ := two_start w #[.bool s0, .slice a0 len0 cap0, .slice a1 len1 cap1] #[.bool t0, .slice a2 len2 cap2, .slice a3 len3 cap3] 25
  have F := Lib.hid (fun (W : World) (B : Below w.heap.size w W) => fewR s0 a0 len0 cap0 z0 a1 len1 cap1 z1 W (w0.later B) (w1.later B))
  have G := Lib.hid (fun (W : World) (B : Below w.heap.size w W) => fewR t0 a2 len2 cap2 z2 a3 len3 cap3 z3 W (w2.later B) (w3.later B))
  clear w0 w1 w2 w3
  go_enter Try.func4, Try.ntmps4
  go_wp2_with fail
  generalize (w.alloc (.cells #[.bool s0, .slice a0 len0 cap0, .slice a1 len1 cap1] 25)).alloc (.cells #[.bool t0, .slice a2 len2 cap2, .slice a3 len3 cap3] 25) = W at *
  go_cut [] (fun wx => ∃ s t n1 d1 n2 d2 xs ys us vs, Hid (BlockAt wx w.heap.size #[.bool s, n1, d1] 25) ∧ Hid (BlockAt wx (w.heap.size + 1) #[.bool t, n2, d2] 25) ∧ Hid (Sl wx n1 xs ∧ Sl wx d1 ys ∧ Sl wx n2 us ∧ Sl wx d2 vs) ∧ Hid (Below w.heap.size w wx))
  case first =>
    have D := (Below.refl W.heap.size W).drew
    have ha := ha.below D
    have hb := hb.below D
    have B := B.drew
    have tok1 : True := trivial
    clear D
    obtain ⟨k0, k1, k2⟩ := block3 ha
    obtain ⟨k3, k4, k5⟩ := block3 hb
    go_region_with (first
      | (go_at_call 7; have _t := tok1; clear _t tok1; have tok2 : True := trivial; refine (F.out _ B).mono ?_; rintro e W2 ⟨⟨n1, d1, xs, ys, rfl, x1, x2⟩, bq⟩; obtain ⟨p1, p2, p3, rfl⟩ := x1.form; obtain ⟨q1, q2, q3, rfl⟩ := x2.form; have ha := ha.below bq; have hb := hb.below bq; have B := B.trans (bq.mono B.size); clear bq; obtain ⟨k0, k1, k2⟩ := block3 ha; obtain ⟨k3, k4, k5⟩ := block3 hb)
      | (go_at_call 7; have _t := tok2; refine (G.out _ B).mono ?_; rintro e W3 ⟨⟨n2, d2, us, vs, rfl, x3, x4⟩, bq⟩; obtain ⟨p4, p5, p6, rfl⟩ := x3.form; obtain ⟨q4, q5, q6, rfl⟩ := x4.form; have x1 := x1.below bq; have x2 := x2.below bq; have ha := ha.below bq; have hb := hb.below bq; have B := B.trans (bq.mono B.size); clear bq; obtain ⟨k0, k1, k2⟩ := block3 ha; obtain ⟨k3, k4, k5⟩ := block3 hb; have f0 := ha.free 0; have f1 := ha.free 1; have f2 := ha.free 2; have f3 := hb.free 0; have f4 := hb.free 1; have f5 := hb.free 2))
    all_goals
      obtain ⟨V, hV, y1, y2, y3, y4⟩ := both_set (a := s0) (b := t0) ha hb (Nat.le_refl _) B x1 x2 x3 x4
      have Y1 := Lib.hid y1
      have Y2 := Lib.hid y2
      have Y3 := Lib.hid y3
      have Y4 := Lib.hid y4
      have HV := Lib.hid hV
      clear y1 y2 y3 y4 hV x1 x2 x3 x4 ha hb B f0 f1 f2 f3 f4 f5 k0 k1 k2 k3 k4 k5
      go_wp2_with fail
      go_meet
      rw [← HV.out]
      exact ⟨s0, t0, _, _, _, _, _, _, _, _, Y1, Y2, Y3, Y4⟩
  case rest =>
    rename_i wc
    obtain ⟨s, t, n1, d1, n2, d2, xs, ys, us, vs, ka, kb, hsl, hB⟩ := hcut
    obtain ⟨x1, x2, x3, x4⟩ := hsl.out
    have ka := ka.out
    have kb := kb.out
    have B := hB.out
    obtain ⟨ao1, an1, ac1, rfl⟩ := x1.form
    obtain ⟨ao2, an2, ac2, rfl⟩ := x2.form
    obtain ⟨ao3, an3, ac3, rfl⟩ := x3.form
    obtain ⟨ao4, an4, ac4, rfl⟩ := x4.form
    have HX := Lib.hid (rat_ways _ s _ _ _ _ x1 x2)
    have HY := Lib.hid (rat_ways _ t _ _ _ _ x3 x4)
    clear hsl hB x1 x2 x3 x4 F G
    have FB : FormR (.agg #[.bool t, .slice ao3 an3 ac3, .slice ao4 an4 ac4]) := ⟨_, _, _, rfl⟩
    rcases HX.out with ⟨x, hx⟩ | hbx
    · rcases HY.out with ⟨y, hy⟩ | hby
      · obtain ⟨nx, ny, n1, d1, n2, d2, V1, V2, V3, g1, g2, g3, g4, g5, g6, g7, g8, g9, g10, g11⟩ := reck_facts x y hx.lt hy.lt
        have OFX := Lib.hid g1
        have OFY := Lib.hid g2
        have LS := Lib.hid g3
        have A1 := Lib.hid g4
        have A2 := Lib.hid g5
        have MU := Lib.hid g6
        have I1 := Lib.hid g7
        have I2 := Lib.hid g8
        have I3 := Lib.hid g9
        clear g1 g2 g3 g4 g5 g6 g7 g8 g9 HX HY
        by_cases hy0 : y = 0
        · have HZ := Lib.hid hy0
          rw [decide_eq_true hy0] at g10
          clear hy0 g11
          obtain ⟨ka_0, ka_1, ka_2⟩ := block3 ka
          have ka_l := ka.lt
          obtain ⟨kb_0, kb_1, kb_2⟩ := block3 kb
          have kb_l := kb.lt
          have HC := Lib.hid (add_rat _ _ x y _ hx hy)
          go_wp2_with fail
          refine HC.out.mono ?_
          rintro e W1 ⟨hk, bq⟩
          clear HC
          have hx := hx.below bq
          have hy := hy.below bq
          have ka := ka.below bq
          have kb := kb.below bq
          have B := B.trans (bq.mono B.size)
          clear bq
          clear ka_0 ka_1 ka_2 ka_l kb_0 kb_1 kb_2 kb_l
          obtain ⟨ka_0, ka_1, ka_2⟩ := block3 ka
          have ka_l := ka.lt
          obtain ⟨kb_0, kb_1, kb_2⟩ := block3 kb
          have kb_l := kb.lt
          obtain ⟨r1, c1, rfl, h1⟩ := hk.res
          obtain ⟨t1_, oa1, na1, ca1, ob1, nb1, cb1, rfl⟩ := Res.form h1
          have b4 : Below W1.heap.size W1 (W1.alloc (.cells #[.bool t1_, .slice oa1 na1 ca1, .slice ob1 nb1 cb1] 25)) := (Below.refl _ _).alloc (Nat.le_refl _) _
          have ks := BlockAt.new W1 #[.bool t1_, .slice oa1 na1 ca1, .slice ob1 nb1 cb1] 25
          have hx := hx.below b4
          have hy := hy.below b4
          have h1 := h1.below b4
          have ka := ka.below b4
          have kb := kb.below b4
          have B := B.trans (b4.mono B.size)
          clear b4
          have HC := Lib.hid (sub_rat _ _ x y _ hx hy)
          go_wp2_with fail
          refine HC.out.mono ?_
          rintro e W2 ⟨hk, bq⟩
          clear HC
          have hx := hx.below bq
          have hy := hy.below bq
          have h1 := h1.below bq
          have ka := ka.below bq
          have kb := kb.below bq
          have ks := ks.below bq
          have B := B.trans (bq.mono B.size)
          clear bq
          clear ka_0 ka_1 ka_2 ka_l kb_0 kb_1 kb_2 kb_l
          obtain ⟨ka_0, ka_1, ka_2⟩ := block3 ka
          have ka_l := ka.lt
          obtain ⟨kb_0, kb_1, kb_2⟩ := block3 kb
          have kb_l := kb.lt
          obtain ⟨ks_0, ks_1, ks_2⟩ := block3 ks
          have ks_l := ks.lt
          obtain ⟨r2, c2, rfl, h2⟩ := hk.res
          obtain ⟨t2_, oa2, na2, ca2, ob2, nb2, cb2, rfl⟩ := Res.form h2
          have b4 : Below W2.heap.size W2 (W2.alloc (.cells #[.bool t2_, .slice oa2 na2 ca2, .slice ob2 nb2 cb2] 25)) := (Below.refl _ _).alloc (Nat.le_refl _) _
          have kd := BlockAt.new W2 #[.bool t2_, .slice oa2 na2 ca2, .slice ob2 nb2 cb2] 25
          have hx := hx.below b4
          have hy := hy.below b4
          have h1 := h1.below b4
          have h2 := h2.below b4
          have ka := ka.below b4
          have kb := kb.below b4
          have ks := ks.below b4
          have B := B.trans (b4.mono B.size)
          clear b4
          have HC := Lib.hid (mul_rat _ _ x y _ hx hy)
          go_wp2_with fail
          refine HC.out.mono ?_
          rintro e W3 ⟨hk, bq⟩
          clear HC
          have hx := hx.below bq
          have hy := hy.below bq
          have h1 := h1.below bq
          have h2 := h2.below bq
          have ka := ka.below bq
          have kb := kb.below bq
          have ks := ks.below bq
          have kd := kd.below bq
          have B := B.trans (bq.mono B.size)
          clear bq
          clear ka_0 ka_1 ka_2 ka_l kb_0 kb_1 kb_2 kb_l ks_0 ks_1 ks_2 ks_l
          obtain ⟨ka_0, ka_1, ka_2⟩ := block3 ka
          have ka_l := ka.lt
          obtain ⟨kb_0, kb_1, kb_2⟩ := block3 kb
          have kb_l := kb.lt
          obtain ⟨ks_0, ks_1, ks_2⟩ := block3 ks
          have ks_l := ks.lt
          obtain ⟨kd_0, kd_1, kd_2⟩ := block3 kd
          have kd_l := kd.lt
          obtain ⟨r3, c3, rfl, h3⟩ := hk.res
          obtain ⟨t3_, oa3, na3, ca3, ob3, nb3, cb3, rfl⟩ := Res.form h3
          have b4 : Below W3.heap.size W3 (W3.alloc (.cells #[.bool t3_, .slice oa3 na3 ca3, .slice ob3 nb3 cb3] 25)) := (Below.refl _ _).alloc (Nat.le_refl _) _
          have kp := BlockAt.new W3 #[.bool t3_, .slice oa3 na3 ca3, .slice ob3 nb3 cb3] 25
          have hx := hx.below b4
          have hy := hy.below b4
          have h1 := h1.below b4
          have h2 := h2.below b4
          have h3 := h3.below b4
          have ka := ka.below b4
          have kb := kb.below b4
          have ks := ks.below b4
          have kd := kd.below b4
          have B := B.trans (b4.mono B.size)
          clear b4
          have HC := Lib.hid (quo_none _ _ x y _ hx hy HZ.out)
          go_wp2_with fail
          refine HC.out.mono ?_
          rintro e W4 ⟨hk, bq⟩
          clear HC
          have hx := hx.below bq
          have hy := hy.below bq
          have h1 := h1.below bq
          have h2 := h2.below bq
          have h3 := h3.below bq
          have ka := ka.below bq
          have kb := kb.below bq
          have ks := ks.below bq
          have kd := kd.below bq
          have kp := kp.below bq
          have B := B.trans (bq.mono B.size)
          clear bq
          clear ka_0 ka_1 ka_2 ka_l kb_0 kb_1 kb_2 kb_l ks_0 ks_1 ks_2 ks_l kd_0 kd_1 kd_2 kd_l
          obtain ⟨ka_0, ka_1, ka_2⟩ := block3 ka
          have ka_l := ka.lt
          obtain ⟨kb_0, kb_1, kb_2⟩ := block3 kb
          have kb_l := kb.lt
          obtain ⟨ks_0, ks_1, ks_2⟩ := block3 ks
          have ks_l := ks.lt
          obtain ⟨kd_0, kd_1, kd_2⟩ := block3 kd
          have kd_l := kd.lt
          obtain ⟨kp_0, kp_1, kp_2⟩ := block3 kp
          have kp_l := kp.lt
          unfold nilRat at hk
          obtain rfl := hk
          have b4 : Below W4.heap.size W4 (W4.alloc (.cells #[.bool false, .slice none 0 0, .slice none 0 0] 25)) := (Below.refl _ _).alloc (Nat.le_refl _) _
          have kq := BlockAt.new W4 #[.bool false, .slice none 0 0, .slice none 0 0] 25
          have hx := hx.below b4
          have hy := hy.below b4
          have h1 := h1.below b4
          have h2 := h2.below b4
          have h3 := h3.below b4
          have ka := ka.below b4
          have kb := kb.below b4
          have ks := ks.below b4
          have kd := kd.below b4
          have kp := kp.below b4
          have B := B.trans (b4.mono B.size)
          clear b4
          have bn : Below (W4.alloc (.cells #[.bool false, .slice none 0 0, .slice none 0 0] 25)).heap.size (W4.alloc (.cells #[.bool false, .slice none 0 0, .slice none 0 0] 25)) ((W4.alloc (.cells #[.bool false, .slice none 0 0, .slice none 0 0] 25)).alloc (.cells #[.bool false, .slice none 0 0, .slice none 0 0] 25)) := (Below.refl _ _).alloc (Nat.le_refl _) _
          have kn := BlockAt.new (W4.alloc (.cells #[.bool false, .slice none 0 0, .slice none 0 0] 25)) #[.bool false, .slice none 0 0, .slice none 0 0] 25
          rw [show ((W4.alloc (.cells #[.bool false, .slice none 0 0, .slice none 0 0] 25))).heap.size = W4.heap.size + 1 by simp] at kn
          have hx := hx.below bn
          have hy := hy.below bn
          have h1 := h1.below bn
          have h2 := h2.below bn
          have h3 := h3.below bn
          have ka := ka.below bn
          have kb := kb.below bn
          have ks := ks.below bn
          have kd := kd.below bn
          have kp := kp.below bn
          have kq := kq.below bn
          have B := B.trans (bn.mono B.size)
          clear bn
          have HC := Lib.hid (refR_rat hx)
          go_wp2_with fail
          refine HC.out.mono ?_
          rintro e W5 ⟨rfl, bq⟩
          clear HC
          have hx := hx.below bq
          have hy := hy.below bq
          have h1 := h1.below bq
          have h2 := h2.below bq
          have h3 := h3.below bq
          have ka := ka.below bq
          have kb := kb.below bq
          have ks := ks.below bq
          have kd := kd.below bq
          have kp := kp.below bq
          have kq := kq.below bq
          have kn := kn.below bq
          have B := B.trans (bq.mono B.size)
          clear bq
          clear ka_0 ka_1 ka_2 ka_l kb_0 kb_1 kb_2 kb_l ks_0 ks_1 ks_2 ks_l kd_0 kd_1 kd_2 kd_l kp_0 kp_1 kp_2 kp_l
          obtain ⟨ka_0, ka_1, ka_2⟩ := block3 ka
          have ka_l := ka.lt
          obtain ⟨kb_0, kb_1, kb_2⟩ := block3 kb
          have kb_l := kb.lt
          obtain ⟨ks_0, ks_1, ks_2⟩ := block3 ks
          have ks_l := ks.lt
          obtain ⟨kd_0, kd_1, kd_2⟩ := block3 kd
          have kd_l := kd.lt
          obtain ⟨kp_0, kp_1, kp_2⟩ := block3 kp
          have kp_l := kp.lt
          obtain ⟨kq_0, kq_1, kq_2⟩ := block3 kq
          have kq_l := kq.lt
          obtain ⟨kn_0, kn_1, kn_2⟩ := block3 kn
          have kn_l := kn.lt
          have HC := Lib.hid (refR_rat hy)
          go_wp2_with fail
          refine HC.out.mono ?_
          rintro e W6 ⟨rfl, bq⟩
          clear HC
          have hx := hx.below bq
          have hy := hy.below bq
          have h1 := h1.below bq
          have h2 := h2.below bq
          have h3 := h3.below bq
          have ka := ka.below bq
          have kb := kb.below bq
          have ks := ks.below bq
          have kd := kd.below bq
          have kp := kp.below bq
          have kq := kq.below bq
          have kn := kn.below bq
          have B := B.trans (bq.mono B.size)
          clear bq
          clear ka_0 ka_1 ka_2 ka_l kb_0 kb_1 kb_2 kb_l ks_0 ks_1 ks_2 ks_l kd_0 kd_1 kd_2 kd_l kp_0 kp_1 kp_2 kp_l kq_0 kq_1 kq_2 kq_l kn_0 kn_1 kn_2 kn_l
          obtain ⟨ka_0, ka_1, ka_2⟩ := block3 ka
          have ka_l := ka.lt
          obtain ⟨kb_0, kb_1, kb_2⟩ := block3 kb
          have kb_l := kb.lt
          obtain ⟨ks_0, ks_1, ks_2⟩ := block3 ks
          have ks_l := ks.lt
          obtain ⟨kd_0, kd_1, kd_2⟩ := block3 kd
          have kd_l := kd.lt
          obtain ⟨kp_0, kp_1, kp_2⟩ := block3 kp
          have kp_l := kp.lt
          obtain ⟨kq_0, kq_1, kq_2⟩ := block3 kq
          have kq_l := kq.lt
          obtain ⟨kn_0, kn_1, kn_2⟩ := block3 kn
          have kn_l := kn.lt
          go_wp2_with fail
          go_cut [14, 15] (fun va vb wx => ∃ p q, va = .pointer (some ⟨p, 0, none⟩) ∧ vb = .pointer (some ⟨q, 0, none⟩) ∧ Hid (BlockAt wx p #[.bool nx, .string n1, .string d1, .bool false] 37) ∧ Hid (BlockAt wx q #[.bool ny, .string n2, .string d2, .bool false] 37) ∧ Hid (Below W6.heap.size W6 wx))
          case first =>
            clear ks_0 ks_1 ks_2 ks_l kd_0 kd_1 kd_2 kd_l kp_0 kp_1 kp_2 kp_l kq_0 kq_1 kq_2 kq_l kn_0 kn_1 kn_2 kn_l h1 h2 h3 ks kd kp kq kn
            have D := (Below.refl W6.heap.size W6).drew
            have y0 : W6.cell? ⟨w.heap.size, 0, none⟩ = some (.bool s) := ka_0
            have y1 : W6.cell? ⟨w.heap.size, 1, none⟩ = some (.slice ao1 an1 ac1) := ka_1
            have y2 : W6.cell? ⟨w.heap.size, 2, none⟩ = some (.slice ao2 an2 ac2) := ka_2
            have y3 : W6.cell? ⟨w.heap.size + 1, 0, none⟩ = some (.bool t) := kb_0
            have y4 : W6.cell? ⟨w.heap.size + 1, 1, none⟩ = some (.slice ao3 an3 ac3) := kb_1
            have y5 : W6.cell? ⟨w.heap.size + 1, 2, none⟩ = some (.slice ao4 an4 ac4) := kb_2
            have lx0 := Nat.ne_of_lt (Nat.lt_succ_of_lt ka.lt)
            have lx1 := Nat.ne_of_gt (Nat.lt_succ_of_lt ka.lt)
            have ln0 := Nat.ne_of_lt ka.lt
            have ln1 := Nat.ne_of_lt kb.lt
            have ln2 := Nat.ne_of_gt ka.lt
            have ln3 := Nat.ne_of_gt kb.lt
            have lm0 : w.heap.size < W6.heap.size := ka.lt
            have lm1 : w.heap.size + 1 < W6.heap.size := kb.lt
            clear ka_0 ka_1 ka_2 ka_l kb_0 kb_1 kb_2 kb_l
            have hx := hx.below D
            have hy := hy.below D
            have ka := ka.below D
            have kb := kb.below D
            have B0 := D
            clear B D
            obtain ⟨ka_0, ka_1, ka_2⟩ := block3 ka
            obtain ⟨kb_0, kb_1, kb_2⟩ := block3 kb
            have tok1 : True := trivial
            go_region_held3 (fun w' => w'.cell? ⟨w.heap.size, 0, none⟩ = some (.bool s) ∧ w'.cell? ⟨w.heap.size, 1, none⟩ = some (.slice ao1 an1 ac1) ∧ w'.cell? ⟨w.heap.size, 2, none⟩ = some (.slice ao2 an2 ac2) ∧ w'.cell? ⟨w.heap.size + 1, 0, none⟩ = some (.bool t) ∧ w'.cell? ⟨w.heap.size + 1, 1, none⟩ = some (.slice ao3 an3 ac3) ∧ w'.cell? ⟨w.heap.size + 1, 2, none⟩ = some (.slice ao4 an4 ac4))
              (first | go_keep | ((repeat' apply And.intro) <;> go_keep))
              (first | (go_at_call 16; have _t := tok1; clear _t tok1; have tok2 : True := trivial; (first | (with_reducible refine (OFX.out _ _ hx).mono ?_) | (with_reducible refine (OFX.out _ _ hx.d1).mono ?_) | (with_reducible refine (OFX.out _ _ hx.d2).mono ?_)); rintro e W91 ⟨rfl, bq⟩; (first | (have hx := hx.below bq; have hy := hy.below bq; have ka := ka.below bq; have kb := kb.below bq; have B0 := B0.trans (bq.mono B0.size); clear ka_0 ka_1 ka_2 kb_0 kb_1 kb_2; obtain ⟨ka_0, ka_1, ka_2⟩ := block3 ka; obtain ⟨kb_0, kb_1, kb_2⟩ := block3 kb) | (obtain ⟨ga, bq⟩ := one_new_d bq; have hx := hx.below bq; have hy := hy.below bq; have ka := ka.below bq; have kb := kb.below bq; have B0 := B0.trans (bq.mono B0.size); clear ka_0 ka_1 ka_2 kb_0 kb_1 kb_2; obtain ⟨ka_0, ka_1, ka_2⟩ := block3 ka; obtain ⟨kb_0, kb_1, kb_2⟩ := block3 kb; obtain ⟨ga_0, ga_1, ga_2, ga_3⟩ := block4 ga; have ga_4 := ga.free 0; have ga_5 := ga.free 1; have ga_6 := ga.free 2; have ga_7 := ga.free 3; have ga_l := ga.lt) | (obtain ⟨ga, gb, bq⟩ := two_new_d bq; have hx := hx.below bq; have hy := hy.below bq; have ka := ka.below bq; have kb := kb.below bq; have B0 := B0.trans (bq.mono B0.size); clear ka_0 ka_1 ka_2 kb_0 kb_1 kb_2; obtain ⟨ka_0, ka_1, ka_2⟩ := block3 ka; obtain ⟨kb_0, kb_1, kb_2⟩ := block3 kb; obtain ⟨ga_0, ga_1, ga_2, ga_3⟩ := block4 ga; have ga_4 := ga.free 0; have ga_5 := ga.free 1; have ga_6 := ga.free 2; have ga_7 := ga.free 3; have ga_l := ga.lt; obtain ⟨gb_0, gb_1, gb_2, gb_3⟩ := block4 gb; have gb_4 := gb.free 0; have gb_5 := gb.free 1; have gb_6 := gb.free 2; have gb_7 := gb.free 3; have gb_l := gb.lt)); have sz91 := B0.size; have kx0 := Nat.ne_of_lt (Nat.lt_succ_of_lt ka.lt); have kx1 := Nat.ne_of_gt (Nat.lt_succ_of_lt ka.lt); have kl0 := Nat.ne_of_lt ka.lt; have kl1 := Nat.ne_of_lt kb.lt; have kl2 := Nat.ne_of_gt ka.lt; have kl3 := Nat.ne_of_gt kb.lt; have km0 := ka.lt; have km1 := kb.lt; first | (have gn0 := Nat.ne_of_lt ga.lt; have gn1 := Nat.ne_of_gt ga.lt) | skip) | (go_at_call 16; have _t := tok2; (first | (with_reducible refine (OFY.out _ _ hy).mono ?_) | (with_reducible refine (OFY.out _ _ hy.a1).mono ?_) | (with_reducible refine (OFY.out _ _ hy.a2).mono ?_)); rintro e W92 ⟨rfl, bq⟩; (first | (have hx2 := hx.below bq; (first | (have ga := ga.below bq; clear ga_0 ga_1 ga_2 ga_3 ga_4 ga_5 ga_6 ga_7 ga_l; obtain ⟨ga_0, ga_1, ga_2, ga_3⟩ := block4 ga; have ga_4 := ga.free 0; have ga_5 := ga.free 1; have ga_6 := ga.free 2; have ga_7 := ga.free 3; have ga_l := ga.lt) | skip); (first | (have gb := gb.below bq; clear gb_0 gb_1 gb_2 gb_3 gb_4 gb_5 gb_6 gb_7 gb_l; obtain ⟨gb_0, gb_1, gb_2, gb_3⟩ := block4 gb; have gb_4 := gb.free 0; have gb_5 := gb.free 1; have gb_6 := gb.free 2; have gb_7 := gb.free 3; have gb_l := gb.lt) | skip); have hx := hx.below bq; have hy := hy.below bq; have ka := ka.below bq; have kb := kb.below bq; have B0 := B0.trans (bq.mono B0.size); clear ka_0 ka_1 ka_2 kb_0 kb_1 kb_2; obtain ⟨ka_0, ka_1, ka_2⟩ := block3 ka; obtain ⟨kb_0, kb_1, kb_2⟩ := block3 kb) | (obtain ⟨gc, bq⟩ := one_new bq; (first | (have ga := ga.below bq; clear ga_0 ga_1 ga_2 ga_3 ga_4 ga_5 ga_6 ga_7 ga_l; obtain ⟨ga_0, ga_1, ga_2, ga_3⟩ := block4 ga; have ga_4 := ga.free 0; have ga_5 := ga.free 1; have ga_6 := ga.free 2; have ga_7 := ga.free 3; have ga_l := ga.lt) | skip); (first | (have gb := gb.below bq; clear gb_0 gb_1 gb_2 gb_3 gb_4 gb_5 gb_6 gb_7 gb_l; obtain ⟨gb_0, gb_1, gb_2, gb_3⟩ := block4 gb; have gb_4 := gb.free 0; have gb_5 := gb.free 1; have gb_6 := gb.free 2; have gb_7 := gb.free 3; have gb_l := gb.lt) | skip); have hx := hx.below bq; have hy := hy.below bq; have ka := ka.below bq; have kb := kb.below bq; have B0 := B0.trans (bq.mono B0.size); clear ka_0 ka_1 ka_2 kb_0 kb_1 kb_2; obtain ⟨ka_0, ka_1, ka_2⟩ := block3 ka; obtain ⟨kb_0, kb_1, kb_2⟩ := block3 kb; obtain ⟨gc_0, gc_1, gc_2, gc_3⟩ := block4 gc; have gc_4 := gc.free 0; have gc_5 := gc.free 1; have gc_6 := gc.free 2; have gc_7 := gc.free 3; have gc_l := gc.lt) | (obtain ⟨gc, gd, bq⟩ := two_new bq; have hx := hx.below bq; have hy := hy.below bq; have ka := ka.below bq; have kb := kb.below bq; have B0 := B0.trans (bq.mono B0.size); clear ka_0 ka_1 ka_2 kb_0 kb_1 kb_2; obtain ⟨ka_0, ka_1, ka_2⟩ := block3 ka; obtain ⟨kb_0, kb_1, kb_2⟩ := block3 kb; obtain ⟨gc_0, gc_1, gc_2, gc_3⟩ := block4 gc; have gc_4 := gc.free 0; have gc_5 := gc.free 1; have gc_6 := gc.free 2; have gc_7 := gc.free 3; have gc_l := gc.lt; obtain ⟨gd_0, gd_1, gd_2, gd_3⟩ := block4 gd; have gd_4 := gd.free 0; have gd_5 := gd.free 1; have gd_6 := gd.free 2; have gd_7 := gd.free 3; have gd_l := gd.lt)); have jx0 := Nat.ne_of_lt (Nat.lt_succ_of_lt ka.lt); have jx1 := Nat.ne_of_gt (Nat.lt_succ_of_lt ka.lt); have jl0 := Nat.ne_of_lt ka.lt; have jl1 := Nat.ne_of_lt kb.lt; have jl2 := Nat.ne_of_gt ka.lt; have jl3 := Nat.ne_of_gt kb.lt))
            all_goals
              clear OFX OFY
              go_wp2_with fail
              go_meet
              first
                | (obtain ⟨y1, y2, y3⟩ := leafA #[.bool nx, .string n1, .string d1, .bool false] #[.bool ny, .string n2, .string d2, .bool false] 37 B0; with_reducible exact ⟨_, _, rfl, rfl, Lib.hid y1, Lib.hid y2, Lib.hid y3⟩)
                | (obtain ⟨y2, y1, y3⟩ := leafA #[.bool ny, .string n2, .string d2, .bool false] #[.bool nx, .string n1, .string d1, .bool false] 37 B0; with_reducible exact ⟨_, _, rfl, rfl, Lib.hid y1, Lib.hid y2, Lib.hid y3⟩)
                | (revert ga; intro ga; revert gb; intro gb; obtain ⟨y1, y2, y3⟩ := leafC (.bool nx) (.string n1) (.string d1) (.bool false) (.bool ny) (.string n2) (.string d2) (.bool false) ga gb (by omega) (by omega) (by omega) B0; with_reducible exact ⟨_, _, rfl, rfl, Lib.hid y1, Lib.hid y2, Lib.hid y3⟩)
                | (revert gb; intro gb; revert ga; intro ga; obtain ⟨y1, y2, y3⟩ := leafC (.bool nx) (.string n1) (.string d1) (.bool false) (.bool ny) (.string n2) (.string d2) (.bool false) gb ga (by omega) (by omega) (by omega) B0; with_reducible exact ⟨_, _, rfl, rfl, Lib.hid y1, Lib.hid y2, Lib.hid y3⟩)
                | (revert ga; intro ga; revert gc; intro gc; obtain ⟨y1, y2, y3⟩ := leafC (.bool nx) (.string n1) (.string d1) (.bool false) (.bool ny) (.string n2) (.string d2) (.bool false) ga gc (by omega) (by omega) (by omega) B0; with_reducible exact ⟨_, _, rfl, rfl, Lib.hid y1, Lib.hid y2, Lib.hid y3⟩)
                | (revert gc; intro gc; revert ga; intro ga; obtain ⟨y1, y2, y3⟩ := leafC (.bool nx) (.string n1) (.string d1) (.bool false) (.bool ny) (.string n2) (.string d2) (.bool false) gc ga (by omega) (by omega) (by omega) B0; with_reducible exact ⟨_, _, rfl, rfl, Lib.hid y1, Lib.hid y2, Lib.hid y3⟩)
                | (revert gc; intro gc; revert gd; intro gd; obtain ⟨y1, y2, y3⟩ := leafC (.bool nx) (.string n1) (.string d1) (.bool false) (.bool ny) (.string n2) (.string d2) (.bool false) gc gd (by omega) (by omega) (by omega) B0; with_reducible exact ⟨_, _, rfl, rfl, Lib.hid y1, Lib.hid y2, Lib.hid y3⟩)
                | (revert gd; intro gd; revert gc; intro gc; obtain ⟨y1, y2, y3⟩ := leafC (.bool nx) (.string n1) (.string d1) (.bool false) (.bool ny) (.string n2) (.string d2) (.bool false) gd gc (by omega) (by omega) (by omega) B0; with_reducible exact ⟨_, _, rfl, rfl, Lib.hid y1, Lib.hid y2, Lib.hid y3⟩)
                | (revert ga; intro ga; obtain ⟨y1, y2, y3⟩ := leafB (.bool nx) (.string n1) (.string d1) (.bool false) #[.bool ny, .string n2, .string d2, .bool false] 37 ga (by omega) B0; with_reducible exact ⟨_, _, rfl, rfl, Lib.hid y1, Lib.hid y2, Lib.hid y3⟩)
                | (revert ga; intro ga; obtain ⟨y2, y1, y3⟩ := leafB (.bool ny) (.string n2) (.string d2) (.bool false) #[.bool nx, .string n1, .string d1, .bool false] 37 ga (by omega) B0; with_reducible exact ⟨_, _, rfl, rfl, Lib.hid y1, Lib.hid y2, Lib.hid y3⟩)
                | (revert gc; intro gc; obtain ⟨y1, y2, y3⟩ := leafB (.bool nx) (.string n1) (.string d1) (.bool false) #[.bool ny, .string n2, .string d2, .bool false] 37 gc (by omega) B0; with_reducible exact ⟨_, _, rfl, rfl, Lib.hid y1, Lib.hid y2, Lib.hid y3⟩)
                | (revert gc; intro gc; obtain ⟨y2, y1, y3⟩ := leafB (.bool ny) (.string n2) (.string d2) (.bool false) #[.bool nx, .string n1, .string d1, .bool false] 37 gc (by omega) B0; with_reducible exact ⟨_, _, rfl, rfl, Lib.hid y1, Lib.hid y2, Lib.hid y3⟩)
          case rest =>
            obtain ⟨pa, pb, rfl, rfl, fa, fb, bq⟩ := hcut
            have fa := fa.out
            have fb := fb.out
            have bq := bq.out
            clear ka_0 ka_1 ka_2 ka_l kb_0 kb_1 kb_2 kb_l hx hy ka kb
            have h1 := h1.below bq
            have h2 := h2.below bq
            have h3 := h3.below bq
            have ks := ks.below bq
            have kd := kd.below bq
            have kp := kp.below bq
            have kq := kq.below bq
            have kn := kn.below bq
            have B := B.trans (bq.mono B.size)
            clear bq
            clear ks_0 ks_1 ks_2 ks_l kd_0 kd_1 kd_2 kd_l kp_0 kp_1 kp_2 kp_l kq_0 kq_1 kq_2 kq_l kn_0 kn_1 kn_2 kn_l
            obtain ⟨ks_0, ks_1, ks_2⟩ := block3 ks
            have ks_l := ks.lt
            obtain ⟨kd_0, kd_1, kd_2⟩ := block3 kd
            have kd_l := kd.lt
            obtain ⟨kp_0, kp_1, kp_2⟩ := block3 kp
            have kp_l := kp.lt
            obtain ⟨kq_0, kq_1, kq_2⟩ := block3 kq
            have kq_l := kq.lt
            obtain ⟨kn_0, kn_1, kn_2⟩ := block3 kn
            have kn_l := kn.lt
            clear ks_0 ks_1 ks_2 ks_l kd_0 kd_1 kd_2 kd_l kp_0 kp_1 kp_2 kp_l kq_0 kq_1 kq_2 kq_l kn_0 kn_1 kn_2 kn_l
            obtain ⟨ks_0, ks_1, ks_2⟩ := block3 ks
            have ks_l := ks.lt
            obtain ⟨kd_0, kd_1, kd_2⟩ := block3 kd
            have kd_l := kd.lt
            obtain ⟨kp_0, kp_1, kp_2⟩ := block3 kp
            have kp_l := kp.lt
            obtain ⟨kq_0, kq_1, kq_2⟩ := block3 kq
            have kq_l := kq.lt
            obtain ⟨kn_0, kn_1, kn_2⟩ := block3 kn
            have kn_l := kn.lt
            obtain ⟨fa_0, fa_1, fa_2, fa_3⟩ := block4 fa
            have fa_l := fa.lt
            obtain ⟨fb_0, fb_1, fb_2, fb_3⟩ := block4 fb
            have fb_l := fb.lt
            go_wp2_with fail
            have h1 := h1.below ((Below.refl wc.heap.size wc).drew)
            have h2 := h2.below ((Below.refl wc.heap.size wc).drew)
            have h3 := h3.below ((Below.refl wc.heap.size wc).drew)
            have ks := ks.below ((Below.refl wc.heap.size wc).drew)
            have kd := kd.below ((Below.refl wc.heap.size wc).drew)
            have kp := kp.below ((Below.refl wc.heap.size wc).drew)
            have kq := kq.below ((Below.refl wc.heap.size wc).drew)
            have kn := kn.below ((Below.refl wc.heap.size wc).drew)
            have fa := fa.below ((Below.refl wc.heap.size wc).drew)
            have fb := fb.below ((Below.refl wc.heap.size wc).drew)
            have B := B.drew
            clear ks_0 ks_1 ks_2 ks_l kd_0 kd_1 kd_2 kd_l kp_0 kp_1 kp_2 kp_l kq_0 kq_1 kq_2 kq_l kn_0 kn_1 kn_2 kn_l fa_0 fa_1 fa_2 fa_3 fa_l fb_0 fb_1 fb_2 fb_3 fb_l
            obtain ⟨ks_0, ks_1, ks_2⟩ := block3 ks
            have ks_l := ks.lt
            obtain ⟨kd_0, kd_1, kd_2⟩ := block3 kd
            have kd_l := kd.lt
            obtain ⟨kp_0, kp_1, kp_2⟩ := block3 kp
            have kp_l := kp.lt
            obtain ⟨kq_0, kq_1, kq_2⟩ := block3 kq
            have kq_l := kq.lt
            obtain ⟨kn_0, kn_1, kn_2⟩ := block3 kn
            have kn_l := kn.lt
            obtain ⟨fa_0, fa_1, fa_2, fa_3⟩ := block4 fa
            have fa_l := fa.lt
            obtain ⟨fb_0, fb_1, fb_2, fb_3⟩ := block4 fb
            have fb_l := fb.lt
            have tok0 : True := trivial
            go_region_held3 (fun w' => w'.cell? ⟨W1.heap.size, 0, none⟩ = some (.bool t1_) ∧ w'.cell? ⟨W1.heap.size, 1, none⟩ = some (.slice oa1 na1 ca1) ∧ w'.cell? ⟨W1.heap.size, 2, none⟩ = some (.slice ob1 nb1 cb1) ∧ w'.cell? ⟨W2.heap.size, 0, none⟩ = some (.bool t2_) ∧ w'.cell? ⟨W2.heap.size, 1, none⟩ = some (.slice oa2 na2 ca2) ∧ w'.cell? ⟨W2.heap.size, 2, none⟩ = some (.slice ob2 nb2 cb2) ∧ w'.cell? ⟨W3.heap.size, 0, none⟩ = some (.bool t3_) ∧ w'.cell? ⟨W3.heap.size, 1, none⟩ = some (.slice oa3 na3 ca3) ∧ w'.cell? ⟨W3.heap.size, 2, none⟩ = some (.slice ob3 nb3 cb3) ∧ w'.cell? ⟨pa, 0, none⟩ = some (.bool nx) ∧ w'.cell? ⟨pa, 1, none⟩ = some (.string n1) ∧ w'.cell? ⟨pa, 2, none⟩ = some (.string d1) ∧ w'.cell? ⟨pa, 3, none⟩ = some (.bool false) ∧ w'.cell? ⟨pb, 0, none⟩ = some (.bool ny) ∧ w'.cell? ⟨pb, 1, none⟩ = some (.string n2) ∧ w'.cell? ⟨pb, 2, none⟩ = some (.string d2) ∧ w'.cell? ⟨pb, 3, none⟩ = some (.bool false))
              (first | go_keep | (exact ⟨ks_0, ks_1, ks_2, kd_0, kd_1, kd_2, kp_0, kp_1, kp_2, fa_0, fa_1, fa_2, fa_3, fb_0, fb_1, fb_2, fb_3⟩))
              (first | (go_at_call 25; have _t := tok0; clear _t tok0; have tok1 : True := trivial; refine (A1.out _).mono ?_; rintro e W7 ⟨rfl, bq⟩; have h1 := h1.below bq; have h2 := h2.below bq; have h3 := h3.below bq; have ks := ks.below bq; have kd := kd.below bq; have kp := kp.below bq; have kq := kq.below bq; have kn := kn.below bq; have fa := fa.below bq; have fb := fb.below bq; have B := B.trans (bq.mono B.size); clear bq; clear ks_0 ks_1 ks_2 ks_l kd_0 kd_1 kd_2 kd_l kp_0 kp_1 kp_2 kp_l kq_0 kq_1 kq_2 kq_l kn_0 kn_1 kn_2 kn_l fa_0 fa_1 fa_2 fa_3 fa_l fb_0 fb_1 fb_2 fb_3 fb_l; obtain ⟨ks_0, ks_1, ks_2⟩ := block3 ks; have ks_l := ks.lt; obtain ⟨kd_0, kd_1, kd_2⟩ := block3 kd; have kd_l := kd.lt; obtain ⟨kp_0, kp_1, kp_2⟩ := block3 kp; have kp_l := kp.lt; obtain ⟨kq_0, kq_1, kq_2⟩ := block3 kq; have kq_l := kq.lt; obtain ⟨kn_0, kn_1, kn_2⟩ := block3 kn; have kn_l := kn.lt; obtain ⟨fa_0, fa_1, fa_2, fa_3⟩ := block4 fa; have fa_l := fa.lt; obtain ⟨fb_0, fb_1, fb_2, fb_3⟩ := block4 fb; have fb_l := fb.lt) | (go_at_call 18; have _t := tok1; clear _t tok1; have tok2 : True := trivial; refine (I1.out _ _ _ h1).mono ?_; rintro e W8 ⟨rfl, bq⟩; have h1 := h1.below bq; have h2 := h2.below bq; have h3 := h3.below bq; have ks := ks.below bq; have kd := kd.below bq; have kp := kp.below bq; have kq := kq.below bq; have kn := kn.below bq; have fa := fa.below bq; have fb := fb.below bq; have B := B.trans (bq.mono B.size); clear bq; clear ks_0 ks_1 ks_2 ks_l kd_0 kd_1 kd_2 kd_l kp_0 kp_1 kp_2 kp_l kq_0 kq_1 kq_2 kq_l kn_0 kn_1 kn_2 kn_l fa_0 fa_1 fa_2 fa_3 fa_l fb_0 fb_1 fb_2 fb_3 fb_l; obtain ⟨ks_0, ks_1, ks_2⟩ := block3 ks; have ks_l := ks.lt; obtain ⟨kd_0, kd_1, kd_2⟩ := block3 kd; have kd_l := kd.lt; obtain ⟨kp_0, kp_1, kp_2⟩ := block3 kp; have kp_l := kp.lt; obtain ⟨kq_0, kq_1, kq_2⟩ := block3 kq; have kq_l := kq.lt; obtain ⟨kn_0, kn_1, kn_2⟩ := block3 kn; have kn_l := kn.lt; obtain ⟨fa_0, fa_1, fa_2, fa_3⟩ := block4 fa; have fa_l := fa.lt; obtain ⟨fb_0, fb_1, fb_2, fb_3⟩ := block4 fb; have fb_l := fb.lt) | (go_at_call 26; have _t := tok2; clear _t tok2; have tok3 : True := trivial; refine (LS.out _).mono ?_; rintro e W9 ⟨rfl, bq⟩; have h1 := h1.below bq; have h2 := h2.below bq; have h3 := h3.below bq; have ks := ks.below bq; have kd := kd.below bq; have kp := kp.below bq; have kq := kq.below bq; have kn := kn.below bq; have fa := fa.below bq; have fb := fb.below bq; have B := B.trans (bq.mono B.size); clear bq; clear ks_0 ks_1 ks_2 ks_l kd_0 kd_1 kd_2 kd_l kp_0 kp_1 kp_2 kp_l kq_0 kq_1 kq_2 kq_l kn_0 kn_1 kn_2 kn_l fa_0 fa_1 fa_2 fa_3 fa_l fb_0 fb_1 fb_2 fb_3 fb_l; obtain ⟨ks_0, ks_1, ks_2⟩ := block3 ks; have ks_l := ks.lt; obtain ⟨kd_0, kd_1, kd_2⟩ := block3 kd; have kd_l := kd.lt; obtain ⟨kp_0, kp_1, kp_2⟩ := block3 kp; have kp_l := kp.lt; obtain ⟨kq_0, kq_1, kq_2⟩ := block3 kq; have kq_l := kq.lt; obtain ⟨kn_0, kn_1, kn_2⟩ := block3 kn; have kn_l := kn.lt; obtain ⟨fa_0, fa_1, fa_2, fa_3⟩ := block4 fa; have fa_l := fa.lt; obtain ⟨fb_0, fb_1, fb_2, fb_3⟩ := block4 fb; have fb_l := fb.lt) | (go_at_call 25; have _t := tok3; clear _t tok3; have tok4 : True := trivial; refine (A2.out _).mono ?_; rintro e W10 ⟨rfl, bq⟩; have h1 := h1.below bq; have h2 := h2.below bq; have h3 := h3.below bq; have ks := ks.below bq; have kd := kd.below bq; have kp := kp.below bq; have kq := kq.below bq; have kn := kn.below bq; have fa := fa.below bq; have fb := fb.below bq; have B := B.trans (bq.mono B.size); clear bq; clear ks_0 ks_1 ks_2 ks_l kd_0 kd_1 kd_2 kd_l kp_0 kp_1 kp_2 kp_l kq_0 kq_1 kq_2 kq_l kn_0 kn_1 kn_2 kn_l fa_0 fa_1 fa_2 fa_3 fa_l fb_0 fb_1 fb_2 fb_3 fb_l; obtain ⟨ks_0, ks_1, ks_2⟩ := block3 ks; have ks_l := ks.lt; obtain ⟨kd_0, kd_1, kd_2⟩ := block3 kd; have kd_l := kd.lt; obtain ⟨kp_0, kp_1, kp_2⟩ := block3 kp; have kp_l := kp.lt; obtain ⟨kq_0, kq_1, kq_2⟩ := block3 kq; have kq_l := kq.lt; obtain ⟨kn_0, kn_1, kn_2⟩ := block3 kn; have kn_l := kn.lt; obtain ⟨fa_0, fa_1, fa_2, fa_3⟩ := block4 fa; have fa_l := fa.lt; obtain ⟨fb_0, fb_1, fb_2, fb_3⟩ := block4 fb; have fb_l := fb.lt) | (go_at_call 18; have _t := tok4; clear _t tok4; have tok5 : True := trivial; refine (I2.out _ _ _ h2).mono ?_; rintro e W11 ⟨rfl, bq⟩; have h1 := h1.below bq; have h2 := h2.below bq; have h3 := h3.below bq; have ks := ks.below bq; have kd := kd.below bq; have kp := kp.below bq; have kq := kq.below bq; have kn := kn.below bq; have fa := fa.below bq; have fb := fb.below bq; have B := B.trans (bq.mono B.size); clear bq; clear ks_0 ks_1 ks_2 ks_l kd_0 kd_1 kd_2 kd_l kp_0 kp_1 kp_2 kp_l kq_0 kq_1 kq_2 kq_l kn_0 kn_1 kn_2 kn_l fa_0 fa_1 fa_2 fa_3 fa_l fb_0 fb_1 fb_2 fb_3 fb_l; obtain ⟨ks_0, ks_1, ks_2⟩ := block3 ks; have ks_l := ks.lt; obtain ⟨kd_0, kd_1, kd_2⟩ := block3 kd; have kd_l := kd.lt; obtain ⟨kp_0, kp_1, kp_2⟩ := block3 kp; have kp_l := kp.lt; obtain ⟨kq_0, kq_1, kq_2⟩ := block3 kq; have kq_l := kq.lt; obtain ⟨kn_0, kn_1, kn_2⟩ := block3 kn; have kn_l := kn.lt; obtain ⟨fa_0, fa_1, fa_2, fa_3⟩ := block4 fa; have fa_l := fa.lt; obtain ⟨fb_0, fb_1, fb_2, fb_3⟩ := block4 fb; have fb_l := fb.lt) | (go_at_call 27; have _t := tok5; clear _t tok5; have tok6 : True := trivial; refine (MU.out _).mono ?_; rintro e W12 ⟨rfl, bq⟩; have h1 := h1.below bq; have h2 := h2.below bq; have h3 := h3.below bq; have ks := ks.below bq; have kd := kd.below bq; have kp := kp.below bq; have kq := kq.below bq; have kn := kn.below bq; have fa := fa.below bq; have fb := fb.below bq; have B := B.trans (bq.mono B.size); clear bq; clear ks_0 ks_1 ks_2 ks_l kd_0 kd_1 kd_2 kd_l kp_0 kp_1 kp_2 kp_l kq_0 kq_1 kq_2 kq_l kn_0 kn_1 kn_2 kn_l fa_0 fa_1 fa_2 fa_3 fa_l fb_0 fb_1 fb_2 fb_3 fb_l; obtain ⟨ks_0, ks_1, ks_2⟩ := block3 ks; have ks_l := ks.lt; obtain ⟨kd_0, kd_1, kd_2⟩ := block3 kd; have kd_l := kd.lt; obtain ⟨kp_0, kp_1, kp_2⟩ := block3 kp; have kp_l := kp.lt; obtain ⟨kq_0, kq_1, kq_2⟩ := block3 kq; have kq_l := kq.lt; obtain ⟨kn_0, kn_1, kn_2⟩ := block3 kn; have kn_l := kn.lt; obtain ⟨fa_0, fa_1, fa_2, fa_3⟩ := block4 fa; have fa_l := fa.lt; obtain ⟨fb_0, fb_1, fb_2, fb_3⟩ := block4 fb; have fb_l := fb.lt) | (go_at_call 18; have _t := tok6; clear _t tok6; have tok7 : True := trivial; refine (I3.out _ _ _ h3).mono ?_; rintro e W13 ⟨rfl, bq⟩; have h1 := h1.below bq; have h2 := h2.below bq; have h3 := h3.below bq; have ks := ks.below bq; have kd := kd.below bq; have kp := kp.below bq; have kq := kq.below bq; have kn := kn.below bq; have fa := fa.below bq; have fb := fb.below bq; have B := B.trans (bq.mono B.size); clear bq; clear ks_0 ks_1 ks_2 ks_l kd_0 kd_1 kd_2 kd_l kp_0 kp_1 kp_2 kp_l kq_0 kq_1 kq_2 kq_l kn_0 kn_1 kn_2 kn_l fa_0 fa_1 fa_2 fa_3 fa_l fb_0 fb_1 fb_2 fb_3 fb_l; obtain ⟨ks_0, ks_1, ks_2⟩ := block3 ks; have ks_l := ks.lt; obtain ⟨kd_0, kd_1, kd_2⟩ := block3 kd; have kd_l := kd.lt; obtain ⟨kp_0, kp_1, kp_2⟩ := block3 kp; have kp_l := kp.lt; obtain ⟨kq_0, kq_1, kq_2⟩ := block3 kq; have kq_l := kq.lt; obtain ⟨kn_0, kn_1, kn_2⟩ := block3 kn; have kn_l := kn.lt; obtain ⟨fa_0, fa_1, fa_2, fa_3⟩ := block4 fa; have fa_l := fa.lt; obtain ⟨fb_0, fb_1, fb_2, fb_3⟩ := block4 fb; have fb_l := fb.lt) | (go_at_call 14; have _t := tok7; clear _t tok7; have tok8 : True := trivial; refine (aliveR _).mono ?_; rintro e W14 ⟨rfl, bq⟩; have h1 := h1.below bq; have h2 := h2.below bq; have h3 := h3.below bq; have ks := ks.below bq; have kd := kd.below bq; have kp := kp.below bq; have kq := kq.below bq; have kn := kn.below bq; have fa := fa.below bq; have fb := fb.below bq; have B := B.trans (bq.mono B.size); clear bq; clear ks_0 ks_1 ks_2 ks_l kd_0 kd_1 kd_2 kd_l kp_0 kp_1 kp_2 kp_l kq_0 kq_1 kq_2 kq_l kn_0 kn_1 kn_2 kn_l fa_0 fa_1 fa_2 fa_3 fa_l fb_0 fb_1 fb_2 fb_3 fb_l; obtain ⟨ks_0, ks_1, ks_2⟩ := block3 ks; have ks_l := ks.lt; obtain ⟨kd_0, kd_1, kd_2⟩ := block3 kd; have kd_l := kd.lt; obtain ⟨kp_0, kp_1, kp_2⟩ := block3 kp; have kp_l := kp.lt; obtain ⟨kq_0, kq_1, kq_2⟩ := block3 kq; have kq_l := kq.lt; obtain ⟨kn_0, kn_1, kn_2⟩ := block3 kn; have kn_l := kn.lt; obtain ⟨fa_0, fa_1, fa_2, fa_3⟩ := block4 fa; have fa_l := fa.lt; obtain ⟨fb_0, fb_1, fb_2, fb_3⟩ := block4 fb; have fb_l := fb.lt))
            clear tok8
            clear ks_0 ks_1 ks_2 ks_l kd_0 kd_1 kd_2 kd_l kp_0 kp_1 kp_2 kp_l h1 h2 h3 ks kd kp
            have HC := Lib.hid (same_none W14)
            go_wp2_with fail
            refine HC.out.mono ?_
            rintro e W15 ⟨rfl, bq⟩
            clear HC
            have kq := kq.below bq
            have kn := kn.below bq
            have fa := fa.below bq
            have fb := fb.below bq
            have B := B.trans (bq.mono B.size)
            clear bq
            clear kq_0 kq_1 kq_2 kq_l kn_0 kn_1 kn_2 kn_l fa_0 fa_1 fa_2 fa_3 fa_l fb_0 fb_1 fb_2 fb_3 fb_l
            obtain ⟨kq_0, kq_1, kq_2⟩ := block3 kq
            have kq_l := kq.lt
            obtain ⟨kn_0, kn_1, kn_2⟩ := block3 kn
            have kn_l := kn.lt
            obtain ⟨fa_0, fa_1, fa_2, fa_3⟩ := block4 fa
            have fa_l := fa.lt
            obtain ⟨fb_0, fb_1, fb_2, fb_3⟩ := block4 fb
            have fb_l := fb.lt
            go_wp2_with fail
            go_ret
            exact ⟨rfl, B⟩
        · have HZ := Lib.hid hy0
          rw [decide_eq_false hy0] at g10
          obtain ⟨V4, g12, g13⟩ := g11 hy0
          have QU := Lib.hid g12
          have I4 := Lib.hid g13
          clear hy0 g11 g12 g13
          obtain ⟨ka_0, ka_1, ka_2⟩ := block3 ka
          have ka_l := ka.lt
          obtain ⟨kb_0, kb_1, kb_2⟩ := block3 kb
          have kb_l := kb.lt
          have HC := Lib.hid (add_rat _ _ x y _ hx hy)
          go_wp2_with fail
          refine HC.out.mono ?_
          rintro e W1 ⟨hk, bq⟩
          clear HC
          have hx := hx.below bq
          have hy := hy.below bq
          have ka := ka.below bq
          have kb := kb.below bq
          have B := B.trans (bq.mono B.size)
          clear bq
          clear ka_0 ka_1 ka_2 ka_l kb_0 kb_1 kb_2 kb_l
          obtain ⟨ka_0, ka_1, ka_2⟩ := block3 ka
          have ka_l := ka.lt
          obtain ⟨kb_0, kb_1, kb_2⟩ := block3 kb
          have kb_l := kb.lt
          obtain ⟨r1, c1, rfl, h1⟩ := hk.res
          obtain ⟨t1_, oa1, na1, ca1, ob1, nb1, cb1, rfl⟩ := Res.form h1
          have b4 : Below W1.heap.size W1 (W1.alloc (.cells #[.bool t1_, .slice oa1 na1 ca1, .slice ob1 nb1 cb1] 25)) := (Below.refl _ _).alloc (Nat.le_refl _) _
          have ks := BlockAt.new W1 #[.bool t1_, .slice oa1 na1 ca1, .slice ob1 nb1 cb1] 25
          have hx := hx.below b4
          have hy := hy.below b4
          have h1 := h1.below b4
          have ka := ka.below b4
          have kb := kb.below b4
          have B := B.trans (b4.mono B.size)
          clear b4
          have HC := Lib.hid (sub_rat _ _ x y _ hx hy)
          go_wp2_with fail
          refine HC.out.mono ?_
          rintro e W2 ⟨hk, bq⟩
          clear HC
          have hx := hx.below bq
          have hy := hy.below bq
          have h1 := h1.below bq
          have ka := ka.below bq
          have kb := kb.below bq
          have ks := ks.below bq
          have B := B.trans (bq.mono B.size)
          clear bq
          clear ka_0 ka_1 ka_2 ka_l kb_0 kb_1 kb_2 kb_l
          obtain ⟨ka_0, ka_1, ka_2⟩ := block3 ka
          have ka_l := ka.lt
          obtain ⟨kb_0, kb_1, kb_2⟩ := block3 kb
          have kb_l := kb.lt
          obtain ⟨ks_0, ks_1, ks_2⟩ := block3 ks
          have ks_l := ks.lt
          obtain ⟨r2, c2, rfl, h2⟩ := hk.res
          obtain ⟨t2_, oa2, na2, ca2, ob2, nb2, cb2, rfl⟩ := Res.form h2
          have b4 : Below W2.heap.size W2 (W2.alloc (.cells #[.bool t2_, .slice oa2 na2 ca2, .slice ob2 nb2 cb2] 25)) := (Below.refl _ _).alloc (Nat.le_refl _) _
          have kd := BlockAt.new W2 #[.bool t2_, .slice oa2 na2 ca2, .slice ob2 nb2 cb2] 25
          have hx := hx.below b4
          have hy := hy.below b4
          have h1 := h1.below b4
          have h2 := h2.below b4
          have ka := ka.below b4
          have kb := kb.below b4
          have ks := ks.below b4
          have B := B.trans (b4.mono B.size)
          clear b4
          have HC := Lib.hid (mul_rat _ _ x y _ hx hy)
          go_wp2_with fail
          refine HC.out.mono ?_
          rintro e W3 ⟨hk, bq⟩
          clear HC
          have hx := hx.below bq
          have hy := hy.below bq
          have h1 := h1.below bq
          have h2 := h2.below bq
          have ka := ka.below bq
          have kb := kb.below bq
          have ks := ks.below bq
          have kd := kd.below bq
          have B := B.trans (bq.mono B.size)
          clear bq
          clear ka_0 ka_1 ka_2 ka_l kb_0 kb_1 kb_2 kb_l ks_0 ks_1 ks_2 ks_l
          obtain ⟨ka_0, ka_1, ka_2⟩ := block3 ka
          have ka_l := ka.lt
          obtain ⟨kb_0, kb_1, kb_2⟩ := block3 kb
          have kb_l := kb.lt
          obtain ⟨ks_0, ks_1, ks_2⟩ := block3 ks
          have ks_l := ks.lt
          obtain ⟨kd_0, kd_1, kd_2⟩ := block3 kd
          have kd_l := kd.lt
          obtain ⟨r3, c3, rfl, h3⟩ := hk.res
          obtain ⟨t3_, oa3, na3, ca3, ob3, nb3, cb3, rfl⟩ := Res.form h3
          have b4 : Below W3.heap.size W3 (W3.alloc (.cells #[.bool t3_, .slice oa3 na3 ca3, .slice ob3 nb3 cb3] 25)) := (Below.refl _ _).alloc (Nat.le_refl _) _
          have kp := BlockAt.new W3 #[.bool t3_, .slice oa3 na3 ca3, .slice ob3 nb3 cb3] 25
          have hx := hx.below b4
          have hy := hy.below b4
          have h1 := h1.below b4
          have h2 := h2.below b4
          have h3 := h3.below b4
          have ka := ka.below b4
          have kb := kb.below b4
          have ks := ks.below b4
          have kd := kd.below b4
          have B := B.trans (b4.mono B.size)
          clear b4
          have HC := Lib.hid (quo_rat _ _ x y _ hx hy HZ.out)
          go_wp2_with fail
          refine HC.out.mono ?_
          rintro e W4 ⟨hk, bq⟩
          clear HC
          have hx := hx.below bq
          have hy := hy.below bq
          have h1 := h1.below bq
          have h2 := h2.below bq
          have h3 := h3.below bq
          have ka := ka.below bq
          have kb := kb.below bq
          have ks := ks.below bq
          have kd := kd.below bq
          have kp := kp.below bq
          have B := B.trans (bq.mono B.size)
          clear bq
          clear ka_0 ka_1 ka_2 ka_l kb_0 kb_1 kb_2 kb_l ks_0 ks_1 ks_2 ks_l kd_0 kd_1 kd_2 kd_l
          obtain ⟨ka_0, ka_1, ka_2⟩ := block3 ka
          have ka_l := ka.lt
          obtain ⟨kb_0, kb_1, kb_2⟩ := block3 kb
          have kb_l := kb.lt
          obtain ⟨ks_0, ks_1, ks_2⟩ := block3 ks
          have ks_l := ks.lt
          obtain ⟨kd_0, kd_1, kd_2⟩ := block3 kd
          have kd_l := kd.lt
          obtain ⟨kp_0, kp_1, kp_2⟩ := block3 kp
          have kp_l := kp.lt
          obtain ⟨r4, c4, rfl, h4⟩ := hk.res
          obtain ⟨t4_, oa4, na4, ca4, ob4, nb4, cb4, rfl⟩ := Res.form h4
          have b4 : Below W4.heap.size W4 (W4.alloc (.cells #[.bool t4_, .slice oa4 na4 ca4, .slice ob4 nb4 cb4] 25)) := (Below.refl _ _).alloc (Nat.le_refl _) _
          have kq := BlockAt.new W4 #[.bool t4_, .slice oa4 na4 ca4, .slice ob4 nb4 cb4] 25
          have hx := hx.below b4
          have hy := hy.below b4
          have h1 := h1.below b4
          have h2 := h2.below b4
          have h3 := h3.below b4
          have h4 := h4.below b4
          have ka := ka.below b4
          have kb := kb.below b4
          have ks := ks.below b4
          have kd := kd.below b4
          have kp := kp.below b4
          have B := B.trans (b4.mono B.size)
          clear b4
          have bn : Below (W4.alloc (.cells #[.bool t4_, .slice oa4 na4 ca4, .slice ob4 nb4 cb4] 25)).heap.size (W4.alloc (.cells #[.bool t4_, .slice oa4 na4 ca4, .slice ob4 nb4 cb4] 25)) ((W4.alloc (.cells #[.bool t4_, .slice oa4 na4 ca4, .slice ob4 nb4 cb4] 25)).alloc (.cells #[.bool false, .slice none 0 0, .slice none 0 0] 25)) := (Below.refl _ _).alloc (Nat.le_refl _) _
          have kn := BlockAt.new (W4.alloc (.cells #[.bool t4_, .slice oa4 na4 ca4, .slice ob4 nb4 cb4] 25)) #[.bool false, .slice none 0 0, .slice none 0 0] 25
          rw [show ((W4.alloc (.cells #[.bool t4_, .slice oa4 na4 ca4, .slice ob4 nb4 cb4] 25))).heap.size = W4.heap.size + 1 by simp] at kn
          have hx := hx.below bn
          have hy := hy.below bn
          have h1 := h1.below bn
          have h2 := h2.below bn
          have h3 := h3.below bn
          have h4 := h4.below bn
          have ka := ka.below bn
          have kb := kb.below bn
          have ks := ks.below bn
          have kd := kd.below bn
          have kp := kp.below bn
          have kq := kq.below bn
          have B := B.trans (bn.mono B.size)
          clear bn
          have HC := Lib.hid (refR_rat hx)
          go_wp2_with fail
          refine HC.out.mono ?_
          rintro e W5 ⟨rfl, bq⟩
          clear HC
          have hx := hx.below bq
          have hy := hy.below bq
          have h1 := h1.below bq
          have h2 := h2.below bq
          have h3 := h3.below bq
          have h4 := h4.below bq
          have ka := ka.below bq
          have kb := kb.below bq
          have ks := ks.below bq
          have kd := kd.below bq
          have kp := kp.below bq
          have kq := kq.below bq
          have kn := kn.below bq
          have B := B.trans (bq.mono B.size)
          clear bq
          clear ka_0 ka_1 ka_2 ka_l kb_0 kb_1 kb_2 kb_l ks_0 ks_1 ks_2 ks_l kd_0 kd_1 kd_2 kd_l kp_0 kp_1 kp_2 kp_l
          obtain ⟨ka_0, ka_1, ka_2⟩ := block3 ka
          have ka_l := ka.lt
          obtain ⟨kb_0, kb_1, kb_2⟩ := block3 kb
          have kb_l := kb.lt
          obtain ⟨ks_0, ks_1, ks_2⟩ := block3 ks
          have ks_l := ks.lt
          obtain ⟨kd_0, kd_1, kd_2⟩ := block3 kd
          have kd_l := kd.lt
          obtain ⟨kp_0, kp_1, kp_2⟩ := block3 kp
          have kp_l := kp.lt
          obtain ⟨kq_0, kq_1, kq_2⟩ := block3 kq
          have kq_l := kq.lt
          obtain ⟨kn_0, kn_1, kn_2⟩ := block3 kn
          have kn_l := kn.lt
          have HC := Lib.hid (refR_rat hy)
          go_wp2_with fail
          refine HC.out.mono ?_
          rintro e W6 ⟨rfl, bq⟩
          clear HC
          have hx := hx.below bq
          have hy := hy.below bq
          have h1 := h1.below bq
          have h2 := h2.below bq
          have h3 := h3.below bq
          have h4 := h4.below bq
          have ka := ka.below bq
          have kb := kb.below bq
          have ks := ks.below bq
          have kd := kd.below bq
          have kp := kp.below bq
          have kq := kq.below bq
          have kn := kn.below bq
          have B := B.trans (bq.mono B.size)
          clear bq
          clear ka_0 ka_1 ka_2 ka_l kb_0 kb_1 kb_2 kb_l ks_0 ks_1 ks_2 ks_l kd_0 kd_1 kd_2 kd_l kp_0 kp_1 kp_2 kp_l kq_0 kq_1 kq_2 kq_l kn_0 kn_1 kn_2 kn_l
          obtain ⟨ka_0, ka_1, ka_2⟩ := block3 ka
          have ka_l := ka.lt
          obtain ⟨kb_0, kb_1, kb_2⟩ := block3 kb
          have kb_l := kb.lt
          obtain ⟨ks_0, ks_1, ks_2⟩ := block3 ks
          have ks_l := ks.lt
          obtain ⟨kd_0, kd_1, kd_2⟩ := block3 kd
          have kd_l := kd.lt
          obtain ⟨kp_0, kp_1, kp_2⟩ := block3 kp
          have kp_l := kp.lt
          obtain ⟨kq_0, kq_1, kq_2⟩ := block3 kq
          have kq_l := kq.lt
          obtain ⟨kn_0, kn_1, kn_2⟩ := block3 kn
          have kn_l := kn.lt
          go_wp2_with fail
          go_cut [14, 15] (fun va vb wx => ∃ p q, va = .pointer (some ⟨p, 0, none⟩) ∧ vb = .pointer (some ⟨q, 0, none⟩) ∧ Hid (BlockAt wx p #[.bool nx, .string n1, .string d1, .bool false] 37) ∧ Hid (BlockAt wx q #[.bool ny, .string n2, .string d2, .bool false] 37) ∧ Hid (Below W6.heap.size W6 wx))
          case first =>
            clear ks_0 ks_1 ks_2 ks_l kd_0 kd_1 kd_2 kd_l kp_0 kp_1 kp_2 kp_l kq_0 kq_1 kq_2 kq_l kn_0 kn_1 kn_2 kn_l h1 h2 h3 h4 ks kd kp kq kn
            have D := (Below.refl W6.heap.size W6).drew
            have y0 : W6.cell? ⟨w.heap.size, 0, none⟩ = some (.bool s) := ka_0
            have y1 : W6.cell? ⟨w.heap.size, 1, none⟩ = some (.slice ao1 an1 ac1) := ka_1
            have y2 : W6.cell? ⟨w.heap.size, 2, none⟩ = some (.slice ao2 an2 ac2) := ka_2
            have y3 : W6.cell? ⟨w.heap.size + 1, 0, none⟩ = some (.bool t) := kb_0
            have y4 : W6.cell? ⟨w.heap.size + 1, 1, none⟩ = some (.slice ao3 an3 ac3) := kb_1
            have y5 : W6.cell? ⟨w.heap.size + 1, 2, none⟩ = some (.slice ao4 an4 ac4) := kb_2
            have lx0 := Nat.ne_of_lt (Nat.lt_succ_of_lt ka.lt)
            have lx1 := Nat.ne_of_gt (Nat.lt_succ_of_lt ka.lt)
            have ln0 := Nat.ne_of_lt ka.lt
            have ln1 := Nat.ne_of_lt kb.lt
            have ln2 := Nat.ne_of_gt ka.lt
            have ln3 := Nat.ne_of_gt kb.lt
            have lm0 : w.heap.size < W6.heap.size := ka.lt
            have lm1 : w.heap.size + 1 < W6.heap.size := kb.lt
            clear ka_0 ka_1 ka_2 ka_l kb_0 kb_1 kb_2 kb_l
            have hx := hx.below D
            have hy := hy.below D
            have ka := ka.below D
            have kb := kb.below D
            have B0 := D
            clear B D
            obtain ⟨ka_0, ka_1, ka_2⟩ := block3 ka
            obtain ⟨kb_0, kb_1, kb_2⟩ := block3 kb
            have tok1 : True := trivial
            go_region_held3 (fun w' => w'.cell? ⟨w.heap.size, 0, none⟩ = some (.bool s) ∧ w'.cell? ⟨w.heap.size, 1, none⟩ = some (.slice ao1 an1 ac1) ∧ w'.cell? ⟨w.heap.size, 2, none⟩ = some (.slice ao2 an2 ac2) ∧ w'.cell? ⟨w.heap.size + 1, 0, none⟩ = some (.bool t) ∧ w'.cell? ⟨w.heap.size + 1, 1, none⟩ = some (.slice ao3 an3 ac3) ∧ w'.cell? ⟨w.heap.size + 1, 2, none⟩ = some (.slice ao4 an4 ac4))
              (first | go_keep | ((repeat' apply And.intro) <;> go_keep))
              (first | (go_at_call 16; have _t := tok1; clear _t tok1; have tok2 : True := trivial; (first | (with_reducible refine (OFX.out _ _ hx).mono ?_) | (with_reducible refine (OFX.out _ _ hx.d1).mono ?_) | (with_reducible refine (OFX.out _ _ hx.d2).mono ?_)); rintro e W91 ⟨rfl, bq⟩; (first | (have hx := hx.below bq; have hy := hy.below bq; have ka := ka.below bq; have kb := kb.below bq; have B0 := B0.trans (bq.mono B0.size); clear ka_0 ka_1 ka_2 kb_0 kb_1 kb_2; obtain ⟨ka_0, ka_1, ka_2⟩ := block3 ka; obtain ⟨kb_0, kb_1, kb_2⟩ := block3 kb) | (obtain ⟨ga, bq⟩ := one_new_d bq; have hx := hx.below bq; have hy := hy.below bq; have ka := ka.below bq; have kb := kb.below bq; have B0 := B0.trans (bq.mono B0.size); clear ka_0 ka_1 ka_2 kb_0 kb_1 kb_2; obtain ⟨ka_0, ka_1, ka_2⟩ := block3 ka; obtain ⟨kb_0, kb_1, kb_2⟩ := block3 kb; obtain ⟨ga_0, ga_1, ga_2, ga_3⟩ := block4 ga; have ga_4 := ga.free 0; have ga_5 := ga.free 1; have ga_6 := ga.free 2; have ga_7 := ga.free 3; have ga_l := ga.lt) | (obtain ⟨ga, gb, bq⟩ := two_new_d bq; have hx := hx.below bq; have hy := hy.below bq; have ka := ka.below bq; have kb := kb.below bq; have B0 := B0.trans (bq.mono B0.size); clear ka_0 ka_1 ka_2 kb_0 kb_1 kb_2; obtain ⟨ka_0, ka_1, ka_2⟩ := block3 ka; obtain ⟨kb_0, kb_1, kb_2⟩ := block3 kb; obtain ⟨ga_0, ga_1, ga_2, ga_3⟩ := block4 ga; have ga_4 := ga.free 0; have ga_5 := ga.free 1; have ga_6 := ga.free 2; have ga_7 := ga.free 3; have ga_l := ga.lt; obtain ⟨gb_0, gb_1, gb_2, gb_3⟩ := block4 gb; have gb_4 := gb.free 0; have gb_5 := gb.free 1; have gb_6 := gb.free 2; have gb_7 := gb.free 3; have gb_l := gb.lt)); have sz91 := B0.size; have kx0 := Nat.ne_of_lt (Nat.lt_succ_of_lt ka.lt); have kx1 := Nat.ne_of_gt (Nat.lt_succ_of_lt ka.lt); have kl0 := Nat.ne_of_lt ka.lt; have kl1 := Nat.ne_of_lt kb.lt; have kl2 := Nat.ne_of_gt ka.lt; have kl3 := Nat.ne_of_gt kb.lt; have km0 := ka.lt; have km1 := kb.lt; first | (have gn0 := Nat.ne_of_lt ga.lt; have gn1 := Nat.ne_of_gt ga.lt) | skip) | (go_at_call 16; have _t := tok2; (first | (with_reducible refine (OFY.out _ _ hy).mono ?_) | (with_reducible refine (OFY.out _ _ hy.a1).mono ?_) | (with_reducible refine (OFY.out _ _ hy.a2).mono ?_)); rintro e W92 ⟨rfl, bq⟩; (first | (have hx2 := hx.below bq; (first | (have ga := ga.below bq; clear ga_0 ga_1 ga_2 ga_3 ga_4 ga_5 ga_6 ga_7 ga_l; obtain ⟨ga_0, ga_1, ga_2, ga_3⟩ := block4 ga; have ga_4 := ga.free 0; have ga_5 := ga.free 1; have ga_6 := ga.free 2; have ga_7 := ga.free 3; have ga_l := ga.lt) | skip); (first | (have gb := gb.below bq; clear gb_0 gb_1 gb_2 gb_3 gb_4 gb_5 gb_6 gb_7 gb_l; obtain ⟨gb_0, gb_1, gb_2, gb_3⟩ := block4 gb; have gb_4 := gb.free 0; have gb_5 := gb.free 1; have gb_6 := gb.free 2; have gb_7 := gb.free 3; have gb_l := gb.lt) | skip); have hx := hx.below bq; have hy := hy.below bq; have ka := ka.below bq; have kb := kb.below bq; have B0 := B0.trans (bq.mono B0.size); clear ka_0 ka_1 ka_2 kb_0 kb_1 kb_2; obtain ⟨ka_0, ka_1, ka_2⟩ := block3 ka; obtain ⟨kb_0, kb_1, kb_2⟩ := block3 kb) | (obtain ⟨gc, bq⟩ := one_new bq; (first | (have ga := ga.below bq; clear ga_0 ga_1 ga_2 ga_3 ga_4 ga_5 ga_6 ga_7 ga_l; obtain ⟨ga_0, ga_1, ga_2, ga_3⟩ := block4 ga; have ga_4 := ga.free 0; have ga_5 := ga.free 1; have ga_6 := ga.free 2; have ga_7 := ga.free 3; have ga_l := ga.lt) | skip); (first | (have gb := gb.below bq; clear gb_0 gb_1 gb_2 gb_3 gb_4 gb_5 gb_6 gb_7 gb_l; obtain ⟨gb_0, gb_1, gb_2, gb_3⟩ := block4 gb; have gb_4 := gb.free 0; have gb_5 := gb.free 1; have gb_6 := gb.free 2; have gb_7 := gb.free 3; have gb_l := gb.lt) | skip); have hx := hx.below bq; have hy := hy.below bq; have ka := ka.below bq; have kb := kb.below bq; have B0 := B0.trans (bq.mono B0.size); clear ka_0 ka_1 ka_2 kb_0 kb_1 kb_2; obtain ⟨ka_0, ka_1, ka_2⟩ := block3 ka; obtain ⟨kb_0, kb_1, kb_2⟩ := block3 kb; obtain ⟨gc_0, gc_1, gc_2, gc_3⟩ := block4 gc; have gc_4 := gc.free 0; have gc_5 := gc.free 1; have gc_6 := gc.free 2; have gc_7 := gc.free 3; have gc_l := gc.lt) | (obtain ⟨gc, gd, bq⟩ := two_new bq; have hx := hx.below bq; have hy := hy.below bq; have ka := ka.below bq; have kb := kb.below bq; have B0 := B0.trans (bq.mono B0.size); clear ka_0 ka_1 ka_2 kb_0 kb_1 kb_2; obtain ⟨ka_0, ka_1, ka_2⟩ := block3 ka; obtain ⟨kb_0, kb_1, kb_2⟩ := block3 kb; obtain ⟨gc_0, gc_1, gc_2, gc_3⟩ := block4 gc; have gc_4 := gc.free 0; have gc_5 := gc.free 1; have gc_6 := gc.free 2; have gc_7 := gc.free 3; have gc_l := gc.lt; obtain ⟨gd_0, gd_1, gd_2, gd_3⟩ := block4 gd; have gd_4 := gd.free 0; have gd_5 := gd.free 1; have gd_6 := gd.free 2; have gd_7 := gd.free 3; have gd_l := gd.lt)); have jx0 := Nat.ne_of_lt (Nat.lt_succ_of_lt ka.lt); have jx1 := Nat.ne_of_gt (Nat.lt_succ_of_lt ka.lt); have jl0 := Nat.ne_of_lt ka.lt; have jl1 := Nat.ne_of_lt kb.lt; have jl2 := Nat.ne_of_gt ka.lt; have jl3 := Nat.ne_of_gt kb.lt))
            all_goals
              clear OFX OFY
              go_wp2_with fail
              go_meet
              first
                | (obtain ⟨y1, y2, y3⟩ := leafA #[.bool nx, .string n1, .string d1, .bool false] #[.bool ny, .string n2, .string d2, .bool false] 37 B0; with_reducible exact ⟨_, _, rfl, rfl, Lib.hid y1, Lib.hid y2, Lib.hid y3⟩)
                | (obtain ⟨y2, y1, y3⟩ := leafA #[.bool ny, .string n2, .string d2, .bool false] #[.bool nx, .string n1, .string d1, .bool false] 37 B0; with_reducible exact ⟨_, _, rfl, rfl, Lib.hid y1, Lib.hid y2, Lib.hid y3⟩)
                | (revert ga; intro ga; revert gb; intro gb; obtain ⟨y1, y2, y3⟩ := leafC (.bool nx) (.string n1) (.string d1) (.bool false) (.bool ny) (.string n2) (.string d2) (.bool false) ga gb (by omega) (by omega) (by omega) B0; with_reducible exact ⟨_, _, rfl, rfl, Lib.hid y1, Lib.hid y2, Lib.hid y3⟩)
                | (revert gb; intro gb; revert ga; intro ga; obtain ⟨y1, y2, y3⟩ := leafC (.bool nx) (.string n1) (.string d1) (.bool false) (.bool ny) (.string n2) (.string d2) (.bool false) gb ga (by omega) (by omega) (by omega) B0; with_reducible exact ⟨_, _, rfl, rfl, Lib.hid y1, Lib.hid y2, Lib.hid y3⟩)
                | (revert ga; intro ga; revert gc; intro gc; obtain ⟨y1, y2, y3⟩ := leafC (.bool nx) (.string n1) (.string d1) (.bool false) (.bool ny) (.string n2) (.string d2) (.bool false) ga gc (by omega) (by omega) (by omega) B0; with_reducible exact ⟨_, _, rfl, rfl, Lib.hid y1, Lib.hid y2, Lib.hid y3⟩)
                | (revert gc; intro gc; revert ga; intro ga; obtain ⟨y1, y2, y3⟩ := leafC (.bool nx) (.string n1) (.string d1) (.bool false) (.bool ny) (.string n2) (.string d2) (.bool false) gc ga (by omega) (by omega) (by omega) B0; with_reducible exact ⟨_, _, rfl, rfl, Lib.hid y1, Lib.hid y2, Lib.hid y3⟩)
                | (revert gc; intro gc; revert gd; intro gd; obtain ⟨y1, y2, y3⟩ := leafC (.bool nx) (.string n1) (.string d1) (.bool false) (.bool ny) (.string n2) (.string d2) (.bool false) gc gd (by omega) (by omega) (by omega) B0; with_reducible exact ⟨_, _, rfl, rfl, Lib.hid y1, Lib.hid y2, Lib.hid y3⟩)
                | (revert gd; intro gd; revert gc; intro gc; obtain ⟨y1, y2, y3⟩ := leafC (.bool nx) (.string n1) (.string d1) (.bool false) (.bool ny) (.string n2) (.string d2) (.bool false) gd gc (by omega) (by omega) (by omega) B0; with_reducible exact ⟨_, _, rfl, rfl, Lib.hid y1, Lib.hid y2, Lib.hid y3⟩)
                | (revert ga; intro ga; obtain ⟨y1, y2, y3⟩ := leafB (.bool nx) (.string n1) (.string d1) (.bool false) #[.bool ny, .string n2, .string d2, .bool false] 37 ga (by omega) B0; with_reducible exact ⟨_, _, rfl, rfl, Lib.hid y1, Lib.hid y2, Lib.hid y3⟩)
                | (revert ga; intro ga; obtain ⟨y2, y1, y3⟩ := leafB (.bool ny) (.string n2) (.string d2) (.bool false) #[.bool nx, .string n1, .string d1, .bool false] 37 ga (by omega) B0; with_reducible exact ⟨_, _, rfl, rfl, Lib.hid y1, Lib.hid y2, Lib.hid y3⟩)
                | (revert gc; intro gc; obtain ⟨y1, y2, y3⟩ := leafB (.bool nx) (.string n1) (.string d1) (.bool false) #[.bool ny, .string n2, .string d2, .bool false] 37 gc (by omega) B0; with_reducible exact ⟨_, _, rfl, rfl, Lib.hid y1, Lib.hid y2, Lib.hid y3⟩)
                | (revert gc; intro gc; obtain ⟨y2, y1, y3⟩ := leafB (.bool ny) (.string n2) (.string d2) (.bool false) #[.bool nx, .string n1, .string d1, .bool false] 37 gc (by omega) B0; with_reducible exact ⟨_, _, rfl, rfl, Lib.hid y1, Lib.hid y2, Lib.hid y3⟩)
          case rest =>
            obtain ⟨pa, pb, rfl, rfl, fa, fb, bq⟩ := hcut
            have fa := fa.out
            have fb := fb.out
            have bq := bq.out
            clear ka_0 ka_1 ka_2 ka_l kb_0 kb_1 kb_2 kb_l hx hy ka kb
            have h1 := h1.below bq
            have h2 := h2.below bq
            have h3 := h3.below bq
            have h4 := h4.below bq
            have ks := ks.below bq
            have kd := kd.below bq
            have kp := kp.below bq
            have kq := kq.below bq
            have kn := kn.below bq
            have B := B.trans (bq.mono B.size)
            clear bq
            clear ks_0 ks_1 ks_2 ks_l kd_0 kd_1 kd_2 kd_l kp_0 kp_1 kp_2 kp_l kq_0 kq_1 kq_2 kq_l kn_0 kn_1 kn_2 kn_l
            obtain ⟨ks_0, ks_1, ks_2⟩ := block3 ks
            have ks_l := ks.lt
            obtain ⟨kd_0, kd_1, kd_2⟩ := block3 kd
            have kd_l := kd.lt
            obtain ⟨kp_0, kp_1, kp_2⟩ := block3 kp
            have kp_l := kp.lt
            obtain ⟨kq_0, kq_1, kq_2⟩ := block3 kq
            have kq_l := kq.lt
            obtain ⟨kn_0, kn_1, kn_2⟩ := block3 kn
            have kn_l := kn.lt
            clear ks_0 ks_1 ks_2 ks_l kd_0 kd_1 kd_2 kd_l kp_0 kp_1 kp_2 kp_l kq_0 kq_1 kq_2 kq_l kn_0 kn_1 kn_2 kn_l
            obtain ⟨ks_0, ks_1, ks_2⟩ := block3 ks
            have ks_l := ks.lt
            obtain ⟨kd_0, kd_1, kd_2⟩ := block3 kd
            have kd_l := kd.lt
            obtain ⟨kp_0, kp_1, kp_2⟩ := block3 kp
            have kp_l := kp.lt
            obtain ⟨kq_0, kq_1, kq_2⟩ := block3 kq
            have kq_l := kq.lt
            obtain ⟨kn_0, kn_1, kn_2⟩ := block3 kn
            have kn_l := kn.lt
            obtain ⟨fa_0, fa_1, fa_2, fa_3⟩ := block4 fa
            have fa_l := fa.lt
            obtain ⟨fb_0, fb_1, fb_2, fb_3⟩ := block4 fb
            have fb_l := fb.lt
            go_wp2_with fail
            have h1 := h1.below ((Below.refl wc.heap.size wc).drew)
            have h2 := h2.below ((Below.refl wc.heap.size wc).drew)
            have h3 := h3.below ((Below.refl wc.heap.size wc).drew)
            have h4 := h4.below ((Below.refl wc.heap.size wc).drew)
            have ks := ks.below ((Below.refl wc.heap.size wc).drew)
            have kd := kd.below ((Below.refl wc.heap.size wc).drew)
            have kp := kp.below ((Below.refl wc.heap.size wc).drew)
            have kq := kq.below ((Below.refl wc.heap.size wc).drew)
            have kn := kn.below ((Below.refl wc.heap.size wc).drew)
            have fa := fa.below ((Below.refl wc.heap.size wc).drew)
            have fb := fb.below ((Below.refl wc.heap.size wc).drew)
            have B := B.drew
            clear ks_0 ks_1 ks_2 ks_l kd_0 kd_1 kd_2 kd_l kp_0 kp_1 kp_2 kp_l kq_0 kq_1 kq_2 kq_l kn_0 kn_1 kn_2 kn_l fa_0 fa_1 fa_2 fa_3 fa_l fb_0 fb_1 fb_2 fb_3 fb_l
            obtain ⟨ks_0, ks_1, ks_2⟩ := block3 ks
            have ks_l := ks.lt
            obtain ⟨kd_0, kd_1, kd_2⟩ := block3 kd
            have kd_l := kd.lt
            obtain ⟨kp_0, kp_1, kp_2⟩ := block3 kp
            have kp_l := kp.lt
            obtain ⟨kq_0, kq_1, kq_2⟩ := block3 kq
            have kq_l := kq.lt
            obtain ⟨kn_0, kn_1, kn_2⟩ := block3 kn
            have kn_l := kn.lt
            obtain ⟨fa_0, fa_1, fa_2, fa_3⟩ := block4 fa
            have fa_l := fa.lt
            obtain ⟨fb_0, fb_1, fb_2, fb_3⟩ := block4 fb
            have fb_l := fb.lt
            have tok0 : True := trivial
            go_region_held3 (fun w' => w'.cell? ⟨W1.heap.size, 0, none⟩ = some (.bool t1_) ∧ w'.cell? ⟨W1.heap.size, 1, none⟩ = some (.slice oa1 na1 ca1) ∧ w'.cell? ⟨W1.heap.size, 2, none⟩ = some (.slice ob1 nb1 cb1) ∧ w'.cell? ⟨W2.heap.size, 0, none⟩ = some (.bool t2_) ∧ w'.cell? ⟨W2.heap.size, 1, none⟩ = some (.slice oa2 na2 ca2) ∧ w'.cell? ⟨W2.heap.size, 2, none⟩ = some (.slice ob2 nb2 cb2) ∧ w'.cell? ⟨W3.heap.size, 0, none⟩ = some (.bool t3_) ∧ w'.cell? ⟨W3.heap.size, 1, none⟩ = some (.slice oa3 na3 ca3) ∧ w'.cell? ⟨W3.heap.size, 2, none⟩ = some (.slice ob3 nb3 cb3) ∧ w'.cell? ⟨pa, 0, none⟩ = some (.bool nx) ∧ w'.cell? ⟨pa, 1, none⟩ = some (.string n1) ∧ w'.cell? ⟨pa, 2, none⟩ = some (.string d1) ∧ w'.cell? ⟨pa, 3, none⟩ = some (.bool false) ∧ w'.cell? ⟨pb, 0, none⟩ = some (.bool ny) ∧ w'.cell? ⟨pb, 1, none⟩ = some (.string n2) ∧ w'.cell? ⟨pb, 2, none⟩ = some (.string d2) ∧ w'.cell? ⟨pb, 3, none⟩ = some (.bool false))
              (first | go_keep | (exact ⟨ks_0, ks_1, ks_2, kd_0, kd_1, kd_2, kp_0, kp_1, kp_2, fa_0, fa_1, fa_2, fa_3, fb_0, fb_1, fb_2, fb_3⟩))
              (first | (go_at_call 25; have _t := tok0; clear _t tok0; have tok1 : True := trivial; refine (A1.out _).mono ?_; rintro e W7 ⟨rfl, bq⟩; have h1 := h1.below bq; have h2 := h2.below bq; have h3 := h3.below bq; have h4 := h4.below bq; have ks := ks.below bq; have kd := kd.below bq; have kp := kp.below bq; have kq := kq.below bq; have kn := kn.below bq; have fa := fa.below bq; have fb := fb.below bq; have B := B.trans (bq.mono B.size); clear bq; clear ks_0 ks_1 ks_2 ks_l kd_0 kd_1 kd_2 kd_l kp_0 kp_1 kp_2 kp_l kq_0 kq_1 kq_2 kq_l kn_0 kn_1 kn_2 kn_l fa_0 fa_1 fa_2 fa_3 fa_l fb_0 fb_1 fb_2 fb_3 fb_l; obtain ⟨ks_0, ks_1, ks_2⟩ := block3 ks; have ks_l := ks.lt; obtain ⟨kd_0, kd_1, kd_2⟩ := block3 kd; have kd_l := kd.lt; obtain ⟨kp_0, kp_1, kp_2⟩ := block3 kp; have kp_l := kp.lt; obtain ⟨kq_0, kq_1, kq_2⟩ := block3 kq; have kq_l := kq.lt; obtain ⟨kn_0, kn_1, kn_2⟩ := block3 kn; have kn_l := kn.lt; obtain ⟨fa_0, fa_1, fa_2, fa_3⟩ := block4 fa; have fa_l := fa.lt; obtain ⟨fb_0, fb_1, fb_2, fb_3⟩ := block4 fb; have fb_l := fb.lt) | (go_at_call 18; have _t := tok1; clear _t tok1; have tok2 : True := trivial; refine (I1.out _ _ _ h1).mono ?_; rintro e W8 ⟨rfl, bq⟩; have h1 := h1.below bq; have h2 := h2.below bq; have h3 := h3.below bq; have h4 := h4.below bq; have ks := ks.below bq; have kd := kd.below bq; have kp := kp.below bq; have kq := kq.below bq; have kn := kn.below bq; have fa := fa.below bq; have fb := fb.below bq; have B := B.trans (bq.mono B.size); clear bq; clear ks_0 ks_1 ks_2 ks_l kd_0 kd_1 kd_2 kd_l kp_0 kp_1 kp_2 kp_l kq_0 kq_1 kq_2 kq_l kn_0 kn_1 kn_2 kn_l fa_0 fa_1 fa_2 fa_3 fa_l fb_0 fb_1 fb_2 fb_3 fb_l; obtain ⟨ks_0, ks_1, ks_2⟩ := block3 ks; have ks_l := ks.lt; obtain ⟨kd_0, kd_1, kd_2⟩ := block3 kd; have kd_l := kd.lt; obtain ⟨kp_0, kp_1, kp_2⟩ := block3 kp; have kp_l := kp.lt; obtain ⟨kq_0, kq_1, kq_2⟩ := block3 kq; have kq_l := kq.lt; obtain ⟨kn_0, kn_1, kn_2⟩ := block3 kn; have kn_l := kn.lt; obtain ⟨fa_0, fa_1, fa_2, fa_3⟩ := block4 fa; have fa_l := fa.lt; obtain ⟨fb_0, fb_1, fb_2, fb_3⟩ := block4 fb; have fb_l := fb.lt) | (go_at_call 26; have _t := tok2; clear _t tok2; have tok3 : True := trivial; refine (LS.out _).mono ?_; rintro e W9 ⟨rfl, bq⟩; have h1 := h1.below bq; have h2 := h2.below bq; have h3 := h3.below bq; have h4 := h4.below bq; have ks := ks.below bq; have kd := kd.below bq; have kp := kp.below bq; have kq := kq.below bq; have kn := kn.below bq; have fa := fa.below bq; have fb := fb.below bq; have B := B.trans (bq.mono B.size); clear bq; clear ks_0 ks_1 ks_2 ks_l kd_0 kd_1 kd_2 kd_l kp_0 kp_1 kp_2 kp_l kq_0 kq_1 kq_2 kq_l kn_0 kn_1 kn_2 kn_l fa_0 fa_1 fa_2 fa_3 fa_l fb_0 fb_1 fb_2 fb_3 fb_l; obtain ⟨ks_0, ks_1, ks_2⟩ := block3 ks; have ks_l := ks.lt; obtain ⟨kd_0, kd_1, kd_2⟩ := block3 kd; have kd_l := kd.lt; obtain ⟨kp_0, kp_1, kp_2⟩ := block3 kp; have kp_l := kp.lt; obtain ⟨kq_0, kq_1, kq_2⟩ := block3 kq; have kq_l := kq.lt; obtain ⟨kn_0, kn_1, kn_2⟩ := block3 kn; have kn_l := kn.lt; obtain ⟨fa_0, fa_1, fa_2, fa_3⟩ := block4 fa; have fa_l := fa.lt; obtain ⟨fb_0, fb_1, fb_2, fb_3⟩ := block4 fb; have fb_l := fb.lt) | (go_at_call 25; have _t := tok3; clear _t tok3; have tok4 : True := trivial; refine (A2.out _).mono ?_; rintro e W10 ⟨rfl, bq⟩; have h1 := h1.below bq; have h2 := h2.below bq; have h3 := h3.below bq; have h4 := h4.below bq; have ks := ks.below bq; have kd := kd.below bq; have kp := kp.below bq; have kq := kq.below bq; have kn := kn.below bq; have fa := fa.below bq; have fb := fb.below bq; have B := B.trans (bq.mono B.size); clear bq; clear ks_0 ks_1 ks_2 ks_l kd_0 kd_1 kd_2 kd_l kp_0 kp_1 kp_2 kp_l kq_0 kq_1 kq_2 kq_l kn_0 kn_1 kn_2 kn_l fa_0 fa_1 fa_2 fa_3 fa_l fb_0 fb_1 fb_2 fb_3 fb_l; obtain ⟨ks_0, ks_1, ks_2⟩ := block3 ks; have ks_l := ks.lt; obtain ⟨kd_0, kd_1, kd_2⟩ := block3 kd; have kd_l := kd.lt; obtain ⟨kp_0, kp_1, kp_2⟩ := block3 kp; have kp_l := kp.lt; obtain ⟨kq_0, kq_1, kq_2⟩ := block3 kq; have kq_l := kq.lt; obtain ⟨kn_0, kn_1, kn_2⟩ := block3 kn; have kn_l := kn.lt; obtain ⟨fa_0, fa_1, fa_2, fa_3⟩ := block4 fa; have fa_l := fa.lt; obtain ⟨fb_0, fb_1, fb_2, fb_3⟩ := block4 fb; have fb_l := fb.lt) | (go_at_call 18; have _t := tok4; clear _t tok4; have tok5 : True := trivial; refine (I2.out _ _ _ h2).mono ?_; rintro e W11 ⟨rfl, bq⟩; have h1 := h1.below bq; have h2 := h2.below bq; have h3 := h3.below bq; have h4 := h4.below bq; have ks := ks.below bq; have kd := kd.below bq; have kp := kp.below bq; have kq := kq.below bq; have kn := kn.below bq; have fa := fa.below bq; have fb := fb.below bq; have B := B.trans (bq.mono B.size); clear bq; clear ks_0 ks_1 ks_2 ks_l kd_0 kd_1 kd_2 kd_l kp_0 kp_1 kp_2 kp_l kq_0 kq_1 kq_2 kq_l kn_0 kn_1 kn_2 kn_l fa_0 fa_1 fa_2 fa_3 fa_l fb_0 fb_1 fb_2 fb_3 fb_l; obtain ⟨ks_0, ks_1, ks_2⟩ := block3 ks; have ks_l := ks.lt; obtain ⟨kd_0, kd_1, kd_2⟩ := block3 kd; have kd_l := kd.lt; obtain ⟨kp_0, kp_1, kp_2⟩ := block3 kp; have kp_l := kp.lt; obtain ⟨kq_0, kq_1, kq_2⟩ := block3 kq; have kq_l := kq.lt; obtain ⟨kn_0, kn_1, kn_2⟩ := block3 kn; have kn_l := kn.lt; obtain ⟨fa_0, fa_1, fa_2, fa_3⟩ := block4 fa; have fa_l := fa.lt; obtain ⟨fb_0, fb_1, fb_2, fb_3⟩ := block4 fb; have fb_l := fb.lt) | (go_at_call 27; have _t := tok5; clear _t tok5; have tok6 : True := trivial; refine (MU.out _).mono ?_; rintro e W12 ⟨rfl, bq⟩; have h1 := h1.below bq; have h2 := h2.below bq; have h3 := h3.below bq; have h4 := h4.below bq; have ks := ks.below bq; have kd := kd.below bq; have kp := kp.below bq; have kq := kq.below bq; have kn := kn.below bq; have fa := fa.below bq; have fb := fb.below bq; have B := B.trans (bq.mono B.size); clear bq; clear ks_0 ks_1 ks_2 ks_l kd_0 kd_1 kd_2 kd_l kp_0 kp_1 kp_2 kp_l kq_0 kq_1 kq_2 kq_l kn_0 kn_1 kn_2 kn_l fa_0 fa_1 fa_2 fa_3 fa_l fb_0 fb_1 fb_2 fb_3 fb_l; obtain ⟨ks_0, ks_1, ks_2⟩ := block3 ks; have ks_l := ks.lt; obtain ⟨kd_0, kd_1, kd_2⟩ := block3 kd; have kd_l := kd.lt; obtain ⟨kp_0, kp_1, kp_2⟩ := block3 kp; have kp_l := kp.lt; obtain ⟨kq_0, kq_1, kq_2⟩ := block3 kq; have kq_l := kq.lt; obtain ⟨kn_0, kn_1, kn_2⟩ := block3 kn; have kn_l := kn.lt; obtain ⟨fa_0, fa_1, fa_2, fa_3⟩ := block4 fa; have fa_l := fa.lt; obtain ⟨fb_0, fb_1, fb_2, fb_3⟩ := block4 fb; have fb_l := fb.lt) | (go_at_call 18; have _t := tok6; clear _t tok6; have tok7 : True := trivial; refine (I3.out _ _ _ h3).mono ?_; rintro e W13 ⟨rfl, bq⟩; have h1 := h1.below bq; have h2 := h2.below bq; have h3 := h3.below bq; have h4 := h4.below bq; have ks := ks.below bq; have kd := kd.below bq; have kp := kp.below bq; have kq := kq.below bq; have kn := kn.below bq; have fa := fa.below bq; have fb := fb.below bq; have B := B.trans (bq.mono B.size); clear bq; clear ks_0 ks_1 ks_2 ks_l kd_0 kd_1 kd_2 kd_l kp_0 kp_1 kp_2 kp_l kq_0 kq_1 kq_2 kq_l kn_0 kn_1 kn_2 kn_l fa_0 fa_1 fa_2 fa_3 fa_l fb_0 fb_1 fb_2 fb_3 fb_l; obtain ⟨ks_0, ks_1, ks_2⟩ := block3 ks; have ks_l := ks.lt; obtain ⟨kd_0, kd_1, kd_2⟩ := block3 kd; have kd_l := kd.lt; obtain ⟨kp_0, kp_1, kp_2⟩ := block3 kp; have kp_l := kp.lt; obtain ⟨kq_0, kq_1, kq_2⟩ := block3 kq; have kq_l := kq.lt; obtain ⟨kn_0, kn_1, kn_2⟩ := block3 kn; have kn_l := kn.lt; obtain ⟨fa_0, fa_1, fa_2, fa_3⟩ := block4 fa; have fa_l := fa.lt; obtain ⟨fb_0, fb_1, fb_2, fb_3⟩ := block4 fb; have fb_l := fb.lt) | (go_at_call 14; have _t := tok7; clear _t tok7; have tok8 : True := trivial; refine (aliveR _).mono ?_; rintro e W14 ⟨rfl, bq⟩; have h1 := h1.below bq; have h2 := h2.below bq; have h3 := h3.below bq; have h4 := h4.below bq; have ks := ks.below bq; have kd := kd.below bq; have kp := kp.below bq; have kq := kq.below bq; have kn := kn.below bq; have fa := fa.below bq; have fb := fb.below bq; have B := B.trans (bq.mono B.size); clear bq; clear ks_0 ks_1 ks_2 ks_l kd_0 kd_1 kd_2 kd_l kp_0 kp_1 kp_2 kp_l kq_0 kq_1 kq_2 kq_l kn_0 kn_1 kn_2 kn_l fa_0 fa_1 fa_2 fa_3 fa_l fb_0 fb_1 fb_2 fb_3 fb_l; obtain ⟨ks_0, ks_1, ks_2⟩ := block3 ks; have ks_l := ks.lt; obtain ⟨kd_0, kd_1, kd_2⟩ := block3 kd; have kd_l := kd.lt; obtain ⟨kp_0, kp_1, kp_2⟩ := block3 kp; have kp_l := kp.lt; obtain ⟨kq_0, kq_1, kq_2⟩ := block3 kq; have kq_l := kq.lt; obtain ⟨kn_0, kn_1, kn_2⟩ := block3 kn; have kn_l := kn.lt; obtain ⟨fa_0, fa_1, fa_2, fa_3⟩ := block4 fa; have fa_l := fa.lt; obtain ⟨fb_0, fb_1, fb_2, fb_3⟩ := block4 fb; have fb_l := fb.lt))
            clear tok8
            clear ks_0 ks_1 ks_2 ks_l kd_0 kd_1 kd_2 kd_l kp_0 kp_1 kp_2 kp_l h1 h2 h3 ks kd kp
            go_wp2_with fail
            have h4 := h4.below ((Below.refl W14.heap.size W14).drew)
            have kq := kq.below ((Below.refl W14.heap.size W14).drew)
            have kn := kn.below ((Below.refl W14.heap.size W14).drew)
            have fa := fa.below ((Below.refl W14.heap.size W14).drew)
            have fb := fb.below ((Below.refl W14.heap.size W14).drew)
            have B := B.drew
            clear kq_0 kq_1 kq_2 kq_l kn_0 kn_1 kn_2 kn_l fa_0 fa_1 fa_2 fa_3 fa_l fb_0 fb_1 fb_2 fb_3 fb_l
            obtain ⟨kq_0, kq_1, kq_2⟩ := block3 kq
            have kq_l := kq.lt
            obtain ⟨kn_0, kn_1, kn_2⟩ := block3 kn
            have kn_l := kn.lt
            obtain ⟨fa_0, fa_1, fa_2, fa_3⟩ := block4 fa
            have fa_l := fa.lt
            obtain ⟨fb_0, fb_1, fb_2, fb_3⟩ := block4 fb
            have fb_l := fb.lt
            have tok0 : True := trivial
            go_region_held3 (fun w' => w'.cell? ⟨W4.heap.size, 0, none⟩ = some (.bool t4_) ∧ w'.cell? ⟨W4.heap.size, 1, none⟩ = some (.slice oa4 na4 ca4) ∧ w'.cell? ⟨W4.heap.size, 2, none⟩ = some (.slice ob4 nb4 cb4) ∧ w'.cell? ⟨pa, 0, none⟩ = some (.bool nx) ∧ w'.cell? ⟨pa, 1, none⟩ = some (.string n1) ∧ w'.cell? ⟨pa, 2, none⟩ = some (.string d1) ∧ w'.cell? ⟨pa, 3, none⟩ = some (.bool false) ∧ w'.cell? ⟨pb, 0, none⟩ = some (.bool ny) ∧ w'.cell? ⟨pb, 1, none⟩ = some (.string n2) ∧ w'.cell? ⟨pb, 2, none⟩ = some (.string d2) ∧ w'.cell? ⟨pb, 3, none⟩ = some (.bool false))
              (first | go_keep | (exact ⟨kq_0, kq_1, kq_2, fa_0, fa_1, fa_2, fa_3, fb_0, fb_1, fb_2, fb_3⟩))
              (first | (go_at_call 28; have _t := tok0; clear _t tok0; have tok1 : True := trivial; refine (QU.out _).mono ?_; rintro e W15 ⟨rfl, bq⟩; have h4 := h4.below bq; have kq := kq.below bq; have kn := kn.below bq; have fa := fa.below bq; have fb := fb.below bq; have B := B.trans (bq.mono B.size); clear bq; clear kq_0 kq_1 kq_2 kq_l kn_0 kn_1 kn_2 kn_l fa_0 fa_1 fa_2 fa_3 fa_l fb_0 fb_1 fb_2 fb_3 fb_l; obtain ⟨kq_0, kq_1, kq_2⟩ := block3 kq; have kq_l := kq.lt; obtain ⟨kn_0, kn_1, kn_2⟩ := block3 kn; have kn_l := kn.lt; obtain ⟨fa_0, fa_1, fa_2, fa_3⟩ := block4 fa; have fa_l := fa.lt; obtain ⟨fb_0, fb_1, fb_2, fb_3⟩ := block4 fb; have fb_l := fb.lt) | (go_at_call 18; have _t := tok1; clear _t tok1; have tok2 : True := trivial; refine (I4.out _ _ _ h4).mono ?_; rintro e W16 ⟨rfl, bq⟩; have h4 := h4.below bq; have kq := kq.below bq; have kn := kn.below bq; have fa := fa.below bq; have fb := fb.below bq; have B := B.trans (bq.mono B.size); clear bq; clear kq_0 kq_1 kq_2 kq_l kn_0 kn_1 kn_2 kn_l fa_0 fa_1 fa_2 fa_3 fa_l fb_0 fb_1 fb_2 fb_3 fb_l; obtain ⟨kq_0, kq_1, kq_2⟩ := block3 kq; have kq_l := kq.lt; obtain ⟨kn_0, kn_1, kn_2⟩ := block3 kn; have kn_l := kn.lt; obtain ⟨fa_0, fa_1, fa_2, fa_3⟩ := block4 fa; have fa_l := fa.lt; obtain ⟨fb_0, fb_1, fb_2, fb_3⟩ := block4 fb; have fb_l := fb.lt))
            clear tok2
            go_wp2_with fail
            go_ret
            exact ⟨rfl, B⟩
      · have hbad : BadPair wc (.agg #[.bool s, .slice ao1 an1 ac1, .slice ao2 an2 ac2]) (.agg #[.bool t, .slice ao3 an3 ac3, .slice ao4 an4 ac4]) := .inr ⟨⟨x, hx⟩, hby⟩
        clear HX HY
        obtain ⟨ka_0, ka_1, ka_2⟩ := block3 ka
        have ka_l := ka.lt
        obtain ⟨kb_0, kb_1, kb_2⟩ := block3 kb
        have kb_l := kb.lt
        have HC := Lib.hid (add_badr _ _ _ hbad FB)
        go_wp2_with fail
        refine HC.out.mono ?_
        rintro e W1 ⟨hk, bq⟩
        clear HC
        have hx := hx.below bq
        have hby := hby.below bq
        have hbad := hbad.below bq
        have ka := ka.below bq
        have kb := kb.below bq
        have B := B.trans (bq.mono B.size)
        clear bq
        clear ka_0 ka_1 ka_2 ka_l kb_0 kb_1 kb_2 kb_l
        obtain ⟨ka_0, ka_1, ka_2⟩ := block3 ka
        have ka_l := ka.lt
        obtain ⟨kb_0, kb_1, kb_2⟩ := block3 kb
        have kb_l := kb.lt
        unfold nilRat at hk
        obtain rfl := hk
        have b4 : Below W1.heap.size W1 (W1.alloc (.cells #[.bool false, .slice none 0 0, .slice none 0 0] 25)) := (Below.refl _ _).alloc (Nat.le_refl _) _
        have ks := BlockAt.new W1 #[.bool false, .slice none 0 0, .slice none 0 0] 25
        have hx := hx.below b4
        have hby := hby.below b4
        have hbad := hbad.below b4
        have ka := ka.below b4
        have kb := kb.below b4
        have B := B.trans (b4.mono B.size)
        clear b4
        have HC := Lib.hid (sub_badr _ _ _ hbad FB)
        go_wp2_with fail
        refine HC.out.mono ?_
        rintro e W2 ⟨hk, bq⟩
        clear HC
        have hx := hx.below bq
        have hby := hby.below bq
        have hbad := hbad.below bq
        have ka := ka.below bq
        have kb := kb.below bq
        have ks := ks.below bq
        have B := B.trans (bq.mono B.size)
        clear bq
        clear ka_0 ka_1 ka_2 ka_l kb_0 kb_1 kb_2 kb_l
        obtain ⟨ka_0, ka_1, ka_2⟩ := block3 ka
        have ka_l := ka.lt
        obtain ⟨kb_0, kb_1, kb_2⟩ := block3 kb
        have kb_l := kb.lt
        obtain ⟨ks_0, ks_1, ks_2⟩ := block3 ks
        have ks_l := ks.lt
        unfold nilRat at hk
        obtain rfl := hk
        have b4 : Below W2.heap.size W2 (W2.alloc (.cells #[.bool false, .slice none 0 0, .slice none 0 0] 25)) := (Below.refl _ _).alloc (Nat.le_refl _) _
        have kd := BlockAt.new W2 #[.bool false, .slice none 0 0, .slice none 0 0] 25
        have hx := hx.below b4
        have hby := hby.below b4
        have hbad := hbad.below b4
        have ka := ka.below b4
        have kb := kb.below b4
        have ks := ks.below b4
        have B := B.trans (b4.mono B.size)
        clear b4
        have HC := Lib.hid (mul_badr _ _ _ hbad FB)
        go_wp2_with fail
        refine HC.out.mono ?_
        rintro e W3 ⟨hk, bq⟩
        clear HC
        have hx := hx.below bq
        have hby := hby.below bq
        have hbad := hbad.below bq
        have ka := ka.below bq
        have kb := kb.below bq
        have ks := ks.below bq
        have kd := kd.below bq
        have B := B.trans (bq.mono B.size)
        clear bq
        clear ka_0 ka_1 ka_2 ka_l kb_0 kb_1 kb_2 kb_l ks_0 ks_1 ks_2 ks_l
        obtain ⟨ka_0, ka_1, ka_2⟩ := block3 ka
        have ka_l := ka.lt
        obtain ⟨kb_0, kb_1, kb_2⟩ := block3 kb
        have kb_l := kb.lt
        obtain ⟨ks_0, ks_1, ks_2⟩ := block3 ks
        have ks_l := ks.lt
        obtain ⟨kd_0, kd_1, kd_2⟩ := block3 kd
        have kd_l := kd.lt
        unfold nilRat at hk
        obtain rfl := hk
        have b4 : Below W3.heap.size W3 (W3.alloc (.cells #[.bool false, .slice none 0 0, .slice none 0 0] 25)) := (Below.refl _ _).alloc (Nat.le_refl _) _
        have kp := BlockAt.new W3 #[.bool false, .slice none 0 0, .slice none 0 0] 25
        have hx := hx.below b4
        have hby := hby.below b4
        have hbad := hbad.below b4
        have ka := ka.below b4
        have kb := kb.below b4
        have ks := ks.below b4
        have kd := kd.below b4
        have B := B.trans (b4.mono B.size)
        clear b4
        have HC := Lib.hid (quo_badr _ _ _ hbad FB)
        go_wp2_with fail
        refine HC.out.mono ?_
        rintro e W4 ⟨hk, bq⟩
        clear HC
        have hx := hx.below bq
        have hby := hby.below bq
        have hbad := hbad.below bq
        have ka := ka.below bq
        have kb := kb.below bq
        have ks := ks.below bq
        have kd := kd.below bq
        have kp := kp.below bq
        have B := B.trans (bq.mono B.size)
        clear bq
        clear ka_0 ka_1 ka_2 ka_l kb_0 kb_1 kb_2 kb_l ks_0 ks_1 ks_2 ks_l kd_0 kd_1 kd_2 kd_l
        obtain ⟨ka_0, ka_1, ka_2⟩ := block3 ka
        have ka_l := ka.lt
        obtain ⟨kb_0, kb_1, kb_2⟩ := block3 kb
        have kb_l := kb.lt
        obtain ⟨ks_0, ks_1, ks_2⟩ := block3 ks
        have ks_l := ks.lt
        obtain ⟨kd_0, kd_1, kd_2⟩ := block3 kd
        have kd_l := kd.lt
        obtain ⟨kp_0, kp_1, kp_2⟩ := block3 kp
        have kp_l := kp.lt
        unfold nilRat at hk
        obtain rfl := hk
        have b4 : Below W4.heap.size W4 (W4.alloc (.cells #[.bool false, .slice none 0 0, .slice none 0 0] 25)) := (Below.refl _ _).alloc (Nat.le_refl _) _
        have kq := BlockAt.new W4 #[.bool false, .slice none 0 0, .slice none 0 0] 25
        have hx := hx.below b4
        have hby := hby.below b4
        have hbad := hbad.below b4
        have ka := ka.below b4
        have kb := kb.below b4
        have ks := ks.below b4
        have kd := kd.below b4
        have kp := kp.below b4
        have B := B.trans (b4.mono B.size)
        clear b4
        clear hbad
        have bn : Below (W4.alloc (.cells #[.bool false, .slice none 0 0, .slice none 0 0] 25)).heap.size (W4.alloc (.cells #[.bool false, .slice none 0 0, .slice none 0 0] 25)) ((W4.alloc (.cells #[.bool false, .slice none 0 0, .slice none 0 0] 25)).alloc (.cells #[.bool false, .slice none 0 0, .slice none 0 0] 25)) := (Below.refl _ _).alloc (Nat.le_refl _) _
        have kn := BlockAt.new (W4.alloc (.cells #[.bool false, .slice none 0 0, .slice none 0 0] 25)) #[.bool false, .slice none 0 0, .slice none 0 0] 25
        rw [show ((W4.alloc (.cells #[.bool false, .slice none 0 0, .slice none 0 0] 25))).heap.size = W4.heap.size + 1 by simp] at kn
        have hx := hx.below bn
        have hby := hby.below bn
        have ka := ka.below bn
        have kb := kb.below bn
        have ks := ks.below bn
        have kd := kd.below bn
        have kp := kp.below bn
        have kq := kq.below bn
        have B := B.trans (bn.mono B.size)
        clear bn
        have HC := Lib.hid (refR_rat hx)
        go_wp2_with fail
        refine HC.out.mono ?_
        rintro e W5 ⟨rfl, bq⟩
        clear HC
        have hx := hx.below bq
        have hby := hby.below bq
        have ka := ka.below bq
        have kb := kb.below bq
        have ks := ks.below bq
        have kd := kd.below bq
        have kp := kp.below bq
        have kq := kq.below bq
        have kn := kn.below bq
        have B := B.trans (bq.mono B.size)
        clear bq
        clear ka_0 ka_1 ka_2 ka_l kb_0 kb_1 kb_2 kb_l ks_0 ks_1 ks_2 ks_l kd_0 kd_1 kd_2 kd_l kp_0 kp_1 kp_2 kp_l
        obtain ⟨ka_0, ka_1, ka_2⟩ := block3 ka
        have ka_l := ka.lt
        obtain ⟨kb_0, kb_1, kb_2⟩ := block3 kb
        have kb_l := kb.lt
        obtain ⟨ks_0, ks_1, ks_2⟩ := block3 ks
        have ks_l := ks.lt
        obtain ⟨kd_0, kd_1, kd_2⟩ := block3 kd
        have kd_l := kd.lt
        obtain ⟨kp_0, kp_1, kp_2⟩ := block3 kp
        have kp_l := kp.lt
        obtain ⟨kq_0, kq_1, kq_2⟩ := block3 kq
        have kq_l := kq.lt
        obtain ⟨kn_0, kn_1, kn_2⟩ := block3 kn
        have kn_l := kn.lt
        have HC := Lib.hid (refR_not hby)
        go_wp2_with fail
        refine HC.out.mono ?_
        rintro e W6 ⟨rfl, bq⟩
        clear HC
        have hx := hx.below bq
        have hby := hby.below bq
        have ka := ka.below bq
        have kb := kb.below bq
        have ks := ks.below bq
        have kd := kd.below bq
        have kp := kp.below bq
        have kq := kq.below bq
        have kn := kn.below bq
        have B := B.trans (bq.mono B.size)
        clear bq
        clear ka_0 ka_1 ka_2 ka_l kb_0 kb_1 kb_2 kb_l ks_0 ks_1 ks_2 ks_l kd_0 kd_1 kd_2 kd_l kp_0 kp_1 kp_2 kp_l kq_0 kq_1 kq_2 kq_l kn_0 kn_1 kn_2 kn_l
        obtain ⟨ka_0, ka_1, ka_2⟩ := block3 ka
        have ka_l := ka.lt
        obtain ⟨kb_0, kb_1, kb_2⟩ := block3 kb
        have kb_l := kb.lt
        obtain ⟨ks_0, ks_1, ks_2⟩ := block3 ks
        have ks_l := ks.lt
        obtain ⟨kd_0, kd_1, kd_2⟩ := block3 kd
        have kd_l := kd.lt
        obtain ⟨kp_0, kp_1, kp_2⟩ := block3 kp
        have kp_l := kp.lt
        obtain ⟨kq_0, kq_1, kq_2⟩ := block3 kq
        have kq_l := kq.lt
        obtain ⟨kn_0, kn_1, kn_2⟩ := block3 kn
        have kn_l := kn.lt
        have HC := Lib.hid (aliveR W6)
        go_wp2_with fail
        refine HC.out.mono ?_
        rintro e W7 ⟨rfl, bq⟩
        clear HC
        have hx := hx.below bq
        have hby := hby.below bq
        have ka := ka.below bq
        have kb := kb.below bq
        have ks := ks.below bq
        have kd := kd.below bq
        have kp := kp.below bq
        have kq := kq.below bq
        have kn := kn.below bq
        have B := B.trans (bq.mono B.size)
        clear bq
        clear ka_0 ka_1 ka_2 ka_l kb_0 kb_1 kb_2 kb_l ks_0 ks_1 ks_2 ks_l kd_0 kd_1 kd_2 kd_l kp_0 kp_1 kp_2 kp_l kq_0 kq_1 kq_2 kq_l kn_0 kn_1 kn_2 kn_l
        obtain ⟨ka_0, ka_1, ka_2⟩ := block3 ka
        have ka_l := ka.lt
        obtain ⟨kb_0, kb_1, kb_2⟩ := block3 kb
        have kb_l := kb.lt
        obtain ⟨ks_0, ks_1, ks_2⟩ := block3 ks
        have ks_l := ks.lt
        obtain ⟨kd_0, kd_1, kd_2⟩ := block3 kd
        have kd_l := kd.lt
        obtain ⟨kp_0, kp_1, kp_2⟩ := block3 kp
        have kp_l := kp.lt
        obtain ⟨kq_0, kq_1, kq_2⟩ := block3 kq
        have kq_l := kq.lt
        obtain ⟨kn_0, kn_1, kn_2⟩ := block3 kn
        have kn_l := kn.lt
        have HC := Lib.hid (same_none W7)
        go_wp2_with fail
        refine HC.out.mono ?_
        rintro e W8 ⟨rfl, bq⟩
        clear HC
        have hx := hx.below bq
        have hby := hby.below bq
        have ka := ka.below bq
        have kb := kb.below bq
        have ks := ks.below bq
        have kd := kd.below bq
        have kp := kp.below bq
        have kq := kq.below bq
        have kn := kn.below bq
        have B := B.trans (bq.mono B.size)
        clear bq
        clear ka_0 ka_1 ka_2 ka_l kb_0 kb_1 kb_2 kb_l ks_0 ks_1 ks_2 ks_l kd_0 kd_1 kd_2 kd_l kp_0 kp_1 kp_2 kp_l kq_0 kq_1 kq_2 kq_l kn_0 kn_1 kn_2 kn_l
        obtain ⟨ka_0, ka_1, ka_2⟩ := block3 ka
        have ka_l := ka.lt
        obtain ⟨kb_0, kb_1, kb_2⟩ := block3 kb
        have kb_l := kb.lt
        obtain ⟨ks_0, ks_1, ks_2⟩ := block3 ks
        have ks_l := ks.lt
        obtain ⟨kd_0, kd_1, kd_2⟩ := block3 kd
        have kd_l := kd.lt
        obtain ⟨kp_0, kp_1, kp_2⟩ := block3 kp
        have kp_l := kp.lt
        obtain ⟨kq_0, kq_1, kq_2⟩ := block3 kq
        have kq_l := kq.lt
        obtain ⟨kn_0, kn_1, kn_2⟩ := block3 kn
        have kn_l := kn.lt
        have HC := Lib.hid (same_none W8)
        go_wp2_with fail
        refine HC.out.mono ?_
        rintro e W9 ⟨rfl, bq⟩
        clear HC
        have hx := hx.below bq
        have hby := hby.below bq
        have ka := ka.below bq
        have kb := kb.below bq
        have ks := ks.below bq
        have kd := kd.below bq
        have kp := kp.below bq
        have kq := kq.below bq
        have kn := kn.below bq
        have B := B.trans (bq.mono B.size)
        clear bq
        clear ka_0 ka_1 ka_2 ka_l kb_0 kb_1 kb_2 kb_l ks_0 ks_1 ks_2 ks_l kd_0 kd_1 kd_2 kd_l kp_0 kp_1 kp_2 kp_l kq_0 kq_1 kq_2 kq_l kn_0 kn_1 kn_2 kn_l
        obtain ⟨ka_0, ka_1, ka_2⟩ := block3 ka
        have ka_l := ka.lt
        obtain ⟨kb_0, kb_1, kb_2⟩ := block3 kb
        have kb_l := kb.lt
        obtain ⟨ks_0, ks_1, ks_2⟩ := block3 ks
        have ks_l := ks.lt
        obtain ⟨kd_0, kd_1, kd_2⟩ := block3 kd
        have kd_l := kd.lt
        obtain ⟨kp_0, kp_1, kp_2⟩ := block3 kp
        have kp_l := kp.lt
        obtain ⟨kq_0, kq_1, kq_2⟩ := block3 kq
        have kq_l := kq.lt
        obtain ⟨kn_0, kn_1, kn_2⟩ := block3 kn
        have kn_l := kn.lt
        have HC := Lib.hid (same_none W9)
        go_wp2_with fail
        refine HC.out.mono ?_
        rintro e W10 ⟨rfl, bq⟩
        clear HC
        have hx := hx.below bq
        have hby := hby.below bq
        have ka := ka.below bq
        have kb := kb.below bq
        have ks := ks.below bq
        have kd := kd.below bq
        have kp := kp.below bq
        have kq := kq.below bq
        have kn := kn.below bq
        have B := B.trans (bq.mono B.size)
        clear bq
        clear ka_0 ka_1 ka_2 ka_l kb_0 kb_1 kb_2 kb_l ks_0 ks_1 ks_2 ks_l kd_0 kd_1 kd_2 kd_l kp_0 kp_1 kp_2 kp_l kq_0 kq_1 kq_2 kq_l kn_0 kn_1 kn_2 kn_l
        obtain ⟨ka_0, ka_1, ka_2⟩ := block3 ka
        have ka_l := ka.lt
        obtain ⟨kb_0, kb_1, kb_2⟩ := block3 kb
        have kb_l := kb.lt
        obtain ⟨ks_0, ks_1, ks_2⟩ := block3 ks
        have ks_l := ks.lt
        obtain ⟨kd_0, kd_1, kd_2⟩ := block3 kd
        have kd_l := kd.lt
        obtain ⟨kp_0, kp_1, kp_2⟩ := block3 kp
        have kp_l := kp.lt
        obtain ⟨kq_0, kq_1, kq_2⟩ := block3 kq
        have kq_l := kq.lt
        obtain ⟨kn_0, kn_1, kn_2⟩ := block3 kn
        have kn_l := kn.lt
        have HC := Lib.hid (same_none W10)
        go_wp2_with fail
        refine HC.out.mono ?_
        rintro e W11 ⟨rfl, bq⟩
        clear HC
        have hx := hx.below bq
        have hby := hby.below bq
        have ka := ka.below bq
        have kb := kb.below bq
        have ks := ks.below bq
        have kd := kd.below bq
        have kp := kp.below bq
        have kq := kq.below bq
        have kn := kn.below bq
        have B := B.trans (bq.mono B.size)
        clear bq
        clear ka_0 ka_1 ka_2 ka_l kb_0 kb_1 kb_2 kb_l ks_0 ks_1 ks_2 ks_l kd_0 kd_1 kd_2 kd_l kp_0 kp_1 kp_2 kp_l kq_0 kq_1 kq_2 kq_l kn_0 kn_1 kn_2 kn_l
        obtain ⟨ka_0, ka_1, ka_2⟩ := block3 ka
        have ka_l := ka.lt
        obtain ⟨kb_0, kb_1, kb_2⟩ := block3 kb
        have kb_l := kb.lt
        obtain ⟨ks_0, ks_1, ks_2⟩ := block3 ks
        have ks_l := ks.lt
        obtain ⟨kd_0, kd_1, kd_2⟩ := block3 kd
        have kd_l := kd.lt
        obtain ⟨kp_0, kp_1, kp_2⟩ := block3 kp
        have kp_l := kp.lt
        obtain ⟨kq_0, kq_1, kq_2⟩ := block3 kq
        have kq_l := kq.lt
        obtain ⟨kn_0, kn_1, kn_2⟩ := block3 kn
        have kn_l := kn.lt
        go_wp2_with fail
        go_ret
        exact ⟨rfl, B⟩
    · have hbad : BadPair wc (.agg #[.bool s, .slice ao1 an1 ac1, .slice ao2 an2 ac2]) (.agg #[.bool t, .slice ao3 an3 ac3, .slice ao4 an4 ac4]) := .inl hbx
      clear HX HY
      obtain ⟨ka_0, ka_1, ka_2⟩ := block3 ka
      have ka_l := ka.lt
      obtain ⟨kb_0, kb_1, kb_2⟩ := block3 kb
      have kb_l := kb.lt
      have HC := Lib.hid (add_badr _ _ _ hbad FB)
      go_wp2_with fail
      refine HC.out.mono ?_
      rintro e W1 ⟨hk, bq⟩
      clear HC
      have hbx := hbx.below bq
      have hbad := hbad.below bq
      have ka := ka.below bq
      have kb := kb.below bq
      have B := B.trans (bq.mono B.size)
      clear bq
      clear ka_0 ka_1 ka_2 ka_l kb_0 kb_1 kb_2 kb_l
      obtain ⟨ka_0, ka_1, ka_2⟩ := block3 ka
      have ka_l := ka.lt
      obtain ⟨kb_0, kb_1, kb_2⟩ := block3 kb
      have kb_l := kb.lt
      unfold nilRat at hk
      obtain rfl := hk
      have b4 : Below W1.heap.size W1 (W1.alloc (.cells #[.bool false, .slice none 0 0, .slice none 0 0] 25)) := (Below.refl _ _).alloc (Nat.le_refl _) _
      have ks := BlockAt.new W1 #[.bool false, .slice none 0 0, .slice none 0 0] 25
      have hbx := hbx.below b4
      have hbad := hbad.below b4
      have ka := ka.below b4
      have kb := kb.below b4
      have B := B.trans (b4.mono B.size)
      clear b4
      have HC := Lib.hid (sub_badr _ _ _ hbad FB)
      go_wp2_with fail
      refine HC.out.mono ?_
      rintro e W2 ⟨hk, bq⟩
      clear HC
      have hbx := hbx.below bq
      have hbad := hbad.below bq
      have ka := ka.below bq
      have kb := kb.below bq
      have ks := ks.below bq
      have B := B.trans (bq.mono B.size)
      clear bq
      clear ka_0 ka_1 ka_2 ka_l kb_0 kb_1 kb_2 kb_l
      obtain ⟨ka_0, ka_1, ka_2⟩ := block3 ka
      have ka_l := ka.lt
      obtain ⟨kb_0, kb_1, kb_2⟩ := block3 kb
      have kb_l := kb.lt
      obtain ⟨ks_0, ks_1, ks_2⟩ := block3 ks
      have ks_l := ks.lt
      unfold nilRat at hk
      obtain rfl := hk
      have b4 : Below W2.heap.size W2 (W2.alloc (.cells #[.bool false, .slice none 0 0, .slice none 0 0] 25)) := (Below.refl _ _).alloc (Nat.le_refl _) _
      have kd := BlockAt.new W2 #[.bool false, .slice none 0 0, .slice none 0 0] 25
      have hbx := hbx.below b4
      have hbad := hbad.below b4
      have ka := ka.below b4
      have kb := kb.below b4
      have ks := ks.below b4
      have B := B.trans (b4.mono B.size)
      clear b4
      have HC := Lib.hid (mul_badr _ _ _ hbad FB)
      go_wp2_with fail
      refine HC.out.mono ?_
      rintro e W3 ⟨hk, bq⟩
      clear HC
      have hbx := hbx.below bq
      have hbad := hbad.below bq
      have ka := ka.below bq
      have kb := kb.below bq
      have ks := ks.below bq
      have kd := kd.below bq
      have B := B.trans (bq.mono B.size)
      clear bq
      clear ka_0 ka_1 ka_2 ka_l kb_0 kb_1 kb_2 kb_l ks_0 ks_1 ks_2 ks_l
      obtain ⟨ka_0, ka_1, ka_2⟩ := block3 ka
      have ka_l := ka.lt
      obtain ⟨kb_0, kb_1, kb_2⟩ := block3 kb
      have kb_l := kb.lt
      obtain ⟨ks_0, ks_1, ks_2⟩ := block3 ks
      have ks_l := ks.lt
      obtain ⟨kd_0, kd_1, kd_2⟩ := block3 kd
      have kd_l := kd.lt
      unfold nilRat at hk
      obtain rfl := hk
      have b4 : Below W3.heap.size W3 (W3.alloc (.cells #[.bool false, .slice none 0 0, .slice none 0 0] 25)) := (Below.refl _ _).alloc (Nat.le_refl _) _
      have kp := BlockAt.new W3 #[.bool false, .slice none 0 0, .slice none 0 0] 25
      have hbx := hbx.below b4
      have hbad := hbad.below b4
      have ka := ka.below b4
      have kb := kb.below b4
      have ks := ks.below b4
      have kd := kd.below b4
      have B := B.trans (b4.mono B.size)
      clear b4
      have HC := Lib.hid (quo_badr _ _ _ hbad FB)
      go_wp2_with fail
      refine HC.out.mono ?_
      rintro e W4 ⟨hk, bq⟩
      clear HC
      have hbx := hbx.below bq
      have hbad := hbad.below bq
      have ka := ka.below bq
      have kb := kb.below bq
      have ks := ks.below bq
      have kd := kd.below bq
      have kp := kp.below bq
      have B := B.trans (bq.mono B.size)
      clear bq
      clear ka_0 ka_1 ka_2 ka_l kb_0 kb_1 kb_2 kb_l ks_0 ks_1 ks_2 ks_l kd_0 kd_1 kd_2 kd_l
      obtain ⟨ka_0, ka_1, ka_2⟩ := block3 ka
      have ka_l := ka.lt
      obtain ⟨kb_0, kb_1, kb_2⟩ := block3 kb
      have kb_l := kb.lt
      obtain ⟨ks_0, ks_1, ks_2⟩ := block3 ks
      have ks_l := ks.lt
      obtain ⟨kd_0, kd_1, kd_2⟩ := block3 kd
      have kd_l := kd.lt
      obtain ⟨kp_0, kp_1, kp_2⟩ := block3 kp
      have kp_l := kp.lt
      unfold nilRat at hk
      obtain rfl := hk
      have b4 : Below W4.heap.size W4 (W4.alloc (.cells #[.bool false, .slice none 0 0, .slice none 0 0] 25)) := (Below.refl _ _).alloc (Nat.le_refl _) _
      have kq := BlockAt.new W4 #[.bool false, .slice none 0 0, .slice none 0 0] 25
      have hbx := hbx.below b4
      have hbad := hbad.below b4
      have ka := ka.below b4
      have kb := kb.below b4
      have ks := ks.below b4
      have kd := kd.below b4
      have kp := kp.below b4
      have B := B.trans (b4.mono B.size)
      clear b4
      clear hbad
      have bn : Below (W4.alloc (.cells #[.bool false, .slice none 0 0, .slice none 0 0] 25)).heap.size (W4.alloc (.cells #[.bool false, .slice none 0 0, .slice none 0 0] 25)) ((W4.alloc (.cells #[.bool false, .slice none 0 0, .slice none 0 0] 25)).alloc (.cells #[.bool false, .slice none 0 0, .slice none 0 0] 25)) := (Below.refl _ _).alloc (Nat.le_refl _) _
      have kn := BlockAt.new (W4.alloc (.cells #[.bool false, .slice none 0 0, .slice none 0 0] 25)) #[.bool false, .slice none 0 0, .slice none 0 0] 25
      rw [show ((W4.alloc (.cells #[.bool false, .slice none 0 0, .slice none 0 0] 25))).heap.size = W4.heap.size + 1 by simp] at kn
      have hbx := hbx.below bn
      have ka := ka.below bn
      have kb := kb.below bn
      have ks := ks.below bn
      have kd := kd.below bn
      have kp := kp.below bn
      have kq := kq.below bn
      have B := B.trans (bn.mono B.size)
      clear bn
      have HC := Lib.hid (refR_not hbx)
      go_wp2_with fail
      refine HC.out.mono ?_
      rintro e W5 ⟨rfl, bq⟩
      clear HC
      have hbx := hbx.below bq
      have ka := ka.below bq
      have kb := kb.below bq
      have ks := ks.below bq
      have kd := kd.below bq
      have kp := kp.below bq
      have kq := kq.below bq
      have kn := kn.below bq
      have B := B.trans (bq.mono B.size)
      clear bq
      clear ka_0 ka_1 ka_2 ka_l kb_0 kb_1 kb_2 kb_l ks_0 ks_1 ks_2 ks_l kd_0 kd_1 kd_2 kd_l kp_0 kp_1 kp_2 kp_l
      obtain ⟨ka_0, ka_1, ka_2⟩ := block3 ka
      have ka_l := ka.lt
      obtain ⟨kb_0, kb_1, kb_2⟩ := block3 kb
      have kb_l := kb.lt
      obtain ⟨ks_0, ks_1, ks_2⟩ := block3 ks
      have ks_l := ks.lt
      obtain ⟨kd_0, kd_1, kd_2⟩ := block3 kd
      have kd_l := kd.lt
      obtain ⟨kp_0, kp_1, kp_2⟩ := block3 kp
      have kp_l := kp.lt
      obtain ⟨kq_0, kq_1, kq_2⟩ := block3 kq
      have kq_l := kq.lt
      obtain ⟨kn_0, kn_1, kn_2⟩ := block3 kn
      have kn_l := kn.lt
      have HC := Lib.hid (aliveR W5)
      go_wp2_with fail
      refine HC.out.mono ?_
      rintro e W6 ⟨rfl, bq⟩
      clear HC
      have hbx := hbx.below bq
      have ka := ka.below bq
      have kb := kb.below bq
      have ks := ks.below bq
      have kd := kd.below bq
      have kp := kp.below bq
      have kq := kq.below bq
      have kn := kn.below bq
      have B := B.trans (bq.mono B.size)
      clear bq
      clear ka_0 ka_1 ka_2 ka_l kb_0 kb_1 kb_2 kb_l ks_0 ks_1 ks_2 ks_l kd_0 kd_1 kd_2 kd_l kp_0 kp_1 kp_2 kp_l kq_0 kq_1 kq_2 kq_l kn_0 kn_1 kn_2 kn_l
      obtain ⟨ka_0, ka_1, ka_2⟩ := block3 ka
      have ka_l := ka.lt
      obtain ⟨kb_0, kb_1, kb_2⟩ := block3 kb
      have kb_l := kb.lt
      obtain ⟨ks_0, ks_1, ks_2⟩ := block3 ks
      have ks_l := ks.lt
      obtain ⟨kd_0, kd_1, kd_2⟩ := block3 kd
      have kd_l := kd.lt
      obtain ⟨kp_0, kp_1, kp_2⟩ := block3 kp
      have kp_l := kp.lt
      obtain ⟨kq_0, kq_1, kq_2⟩ := block3 kq
      have kq_l := kq.lt
      obtain ⟨kn_0, kn_1, kn_2⟩ := block3 kn
      have kn_l := kn.lt
      have HC := Lib.hid (same_none W6)
      go_wp2_with fail
      refine HC.out.mono ?_
      rintro e W7 ⟨rfl, bq⟩
      clear HC
      have hbx := hbx.below bq
      have ka := ka.below bq
      have kb := kb.below bq
      have ks := ks.below bq
      have kd := kd.below bq
      have kp := kp.below bq
      have kq := kq.below bq
      have kn := kn.below bq
      have B := B.trans (bq.mono B.size)
      clear bq
      clear ka_0 ka_1 ka_2 ka_l kb_0 kb_1 kb_2 kb_l ks_0 ks_1 ks_2 ks_l kd_0 kd_1 kd_2 kd_l kp_0 kp_1 kp_2 kp_l kq_0 kq_1 kq_2 kq_l kn_0 kn_1 kn_2 kn_l
      obtain ⟨ka_0, ka_1, ka_2⟩ := block3 ka
      have ka_l := ka.lt
      obtain ⟨kb_0, kb_1, kb_2⟩ := block3 kb
      have kb_l := kb.lt
      obtain ⟨ks_0, ks_1, ks_2⟩ := block3 ks
      have ks_l := ks.lt
      obtain ⟨kd_0, kd_1, kd_2⟩ := block3 kd
      have kd_l := kd.lt
      obtain ⟨kp_0, kp_1, kp_2⟩ := block3 kp
      have kp_l := kp.lt
      obtain ⟨kq_0, kq_1, kq_2⟩ := block3 kq
      have kq_l := kq.lt
      obtain ⟨kn_0, kn_1, kn_2⟩ := block3 kn
      have kn_l := kn.lt
      have HC := Lib.hid (same_none W7)
      go_wp2_with fail
      refine HC.out.mono ?_
      rintro e W8 ⟨rfl, bq⟩
      clear HC
      have hbx := hbx.below bq
      have ka := ka.below bq
      have kb := kb.below bq
      have ks := ks.below bq
      have kd := kd.below bq
      have kp := kp.below bq
      have kq := kq.below bq
      have kn := kn.below bq
      have B := B.trans (bq.mono B.size)
      clear bq
      clear ka_0 ka_1 ka_2 ka_l kb_0 kb_1 kb_2 kb_l ks_0 ks_1 ks_2 ks_l kd_0 kd_1 kd_2 kd_l kp_0 kp_1 kp_2 kp_l kq_0 kq_1 kq_2 kq_l kn_0 kn_1 kn_2 kn_l
      obtain ⟨ka_0, ka_1, ka_2⟩ := block3 ka
      have ka_l := ka.lt
      obtain ⟨kb_0, kb_1, kb_2⟩ := block3 kb
      have kb_l := kb.lt
      obtain ⟨ks_0, ks_1, ks_2⟩ := block3 ks
      have ks_l := ks.lt
      obtain ⟨kd_0, kd_1, kd_2⟩ := block3 kd
      have kd_l := kd.lt
      obtain ⟨kp_0, kp_1, kp_2⟩ := block3 kp
      have kp_l := kp.lt
      obtain ⟨kq_0, kq_1, kq_2⟩ := block3 kq
      have kq_l := kq.lt
      obtain ⟨kn_0, kn_1, kn_2⟩ := block3 kn
      have kn_l := kn.lt
      have HC := Lib.hid (same_none W8)
      go_wp2_with fail
      refine HC.out.mono ?_
      rintro e W9 ⟨rfl, bq⟩
      clear HC
      have hbx := hbx.below bq
      have ka := ka.below bq
      have kb := kb.below bq
      have ks := ks.below bq
      have kd := kd.below bq
      have kp := kp.below bq
      have kq := kq.below bq
      have kn := kn.below bq
      have B := B.trans (bq.mono B.size)
      clear bq
      clear ka_0 ka_1 ka_2 ka_l kb_0 kb_1 kb_2 kb_l ks_0 ks_1 ks_2 ks_l kd_0 kd_1 kd_2 kd_l kp_0 kp_1 kp_2 kp_l kq_0 kq_1 kq_2 kq_l kn_0 kn_1 kn_2 kn_l
      obtain ⟨ka_0, ka_1, ka_2⟩ := block3 ka
      have ka_l := ka.lt
      obtain ⟨kb_0, kb_1, kb_2⟩ := block3 kb
      have kb_l := kb.lt
      obtain ⟨ks_0, ks_1, ks_2⟩ := block3 ks
      have ks_l := ks.lt
      obtain ⟨kd_0, kd_1, kd_2⟩ := block3 kd
      have kd_l := kd.lt
      obtain ⟨kp_0, kp_1, kp_2⟩ := block3 kp
      have kp_l := kp.lt
      obtain ⟨kq_0, kq_1, kq_2⟩ := block3 kq
      have kq_l := kq.lt
      obtain ⟨kn_0, kn_1, kn_2⟩ := block3 kn
      have kn_l := kn.lt
      have HC := Lib.hid (same_none W9)
      go_wp2_with fail
      refine HC.out.mono ?_
      rintro e W10 ⟨rfl, bq⟩
      clear HC
      have hbx := hbx.below bq
      have ka := ka.below bq
      have kb := kb.below bq
      have ks := ks.below bq
      have kd := kd.below bq
      have kp := kp.below bq
      have kq := kq.below bq
      have kn := kn.below bq
      have B := B.trans (bq.mono B.size)
      clear bq
      clear ka_0 ka_1 ka_2 ka_l kb_0 kb_1 kb_2 kb_l ks_0 ks_1 ks_2 ks_l kd_0 kd_1 kd_2 kd_l kp_0 kp_1 kp_2 kp_l kq_0 kq_1 kq_2 kq_l kn_0 kn_1 kn_2 kn_l
      obtain ⟨ka_0, ka_1, ka_2⟩ := block3 ka
      have ka_l := ka.lt
      obtain ⟨kb_0, kb_1, kb_2⟩ := block3 kb
      have kb_l := kb.lt
      obtain ⟨ks_0, ks_1, ks_2⟩ := block3 ks
      have ks_l := ks.lt
      obtain ⟨kd_0, kd_1, kd_2⟩ := block3 kd
      have kd_l := kd.lt
      obtain ⟨kp_0, kp_1, kp_2⟩ := block3 kp
      have kp_l := kp.lt
      obtain ⟨kq_0, kq_1, kq_2⟩ := block3 kq
      have kq_l := kq.lt
      obtain ⟨kn_0, kn_1, kn_2⟩ := block3 kn
      have kn_l := kn.lt
      go_wp2_with fail
      go_ret
      exact ⟨rfl, B⟩
end Go.Proofs.Ythmhljfaenekfaa
