/- The law RatBack. -/
import Derived.Test.YthmhljfaenekfaaRatAlive
import Derived.Deep.DeepCutAuto
namespace Go.Proofs.Ythmhljfaenekfaa
open Go.RowKit NM

theorem Sl.form {w : World} {v : Value} {xs : List Int} (h : Sl w v xs) : ∃ o n c, v = .slice o n c := by
  obtain ⟨o, c, h, _⟩ := h
  exact ⟨o, _, c, h⟩
theorem Sl.set3any {w : World} {v : Value} {xs : List Int} {a a' : Bool} {b : Nat} {t : TypeId} {o1 o2 o3 o4 : Option Addr} {n1 n2 n3 n4 c1 c2 c3 c4 : Nat} (h : Sl w v xs) (hb : BlockAt w b #[.bool a', .slice o3 n3 c3, .slice o4 n4 c4] t) :
    Sl (((w.setCell ⟨b, 0, none⟩ (.bool a)).setCell ⟨b, 1, none⟩ (.slice o1 n1 c1)).setCell ⟨b, 2, none⟩ (.slice o2 n2 c2)) v xs := by
  obtain ⟨ao, ca, h1, h2, h3, h4⟩ := h
  have s1 := hb.set 0 (.bool a)
  have s2 := s1.set 1 (.slice o1 n1 c1)
  exact ⟨ao, ca, h1, h2, ((h3.set_other hb (noLimb3 (fun _ h => by cases h) (fun _ h => by cases h)) _ _).set_other s1 (noLimb3 (fun _ h => by cases h) (fun _ h => by cases h)) _ _).set_other s2 (noLimb3 (fun _ h => by cases h) (fun _ h => by cases h)) _ _, h4⟩
/-- Both arguments, cut. -/
theorem both_set {w W : World} {a b a' b' : Bool} {p : Nat} {t : TypeId} {o1 o2 o3 o4 u1 u2 u3 u4 : Option Addr} {n1 n2 n3 n4 c1 c2 c3 c4 m1 m2 m3 m4 e1 e2 e3 e4 : Nat} {x1 x2 x3 x4 : List Int}
    (ha : BlockAt W p #[.bool a', .slice u1 m1 e1, .slice u2 m2 e2] t) (hb : BlockAt W (p + 1) #[.bool b', .slice u3 m3 e3, .slice u4 m4 e4] t) (hp : w.heap.size ≤ p) (B : Below w.heap.size w W)
    (h1 : Sl W (.slice o1 n1 c1) x1) (h2 : Sl W (.slice o2 n2 c2) x2) (h3 : Sl W (.slice o3 n3 c3) x3) (h4 : Sl W (.slice o4 n4 c4) x4) :
    ∃ V, V = ((((((W.setCell ⟨p, 0, none⟩ (.bool a)).setCell ⟨p, 1, none⟩ (.slice o1 n1 c1)).setCell ⟨p, 2, none⟩ (.slice o2 n2 c2)).setCell ⟨p + 1, 0, none⟩ (.bool b)).setCell ⟨p + 1, 1, none⟩ (.slice o3 n3 c3)).setCell ⟨p + 1, 2, none⟩ (.slice o4 n4 c4)) ∧
      BlockAt V p #[.bool a, .slice o1 n1 c1, .slice o2 n2 c2] t ∧ BlockAt V (p + 1) #[.bool b, .slice o3 n3 c3, .slice o4 n4 c4] t ∧ (Sl V (.slice o1 n1 c1) x1 ∧ Sl V (.slice o2 n2 c2) x2 ∧ Sl V (.slice o3 n3 c3) x3 ∧ Sl V (.slice o4 n4 c4) x4) ∧ Below w.heap.size w V := by
  refine ⟨_, rfl, ?_⟩
  have a1 := ((ha.set 0 (.bool a)).set 1 (.slice o1 n1 c1)).set 2 (.slice o2 n2 c2)
  have b1 := ((hb.other (show p + 1 ≠ p by omega) 0 (.bool a)).other (show p + 1 ≠ p by omega) 1 (.slice o1 n1 c1)).other (show p + 1 ≠ p by omega) 2 (.slice o2 n2 c2)
  have k1 := Sl.set3any (a := a) (o1 := o1) (n1 := n1) (c1 := c1) (o2 := o2) (n2 := n2) (c2 := c2) h1 ha
  have k2 := Sl.set3any (a := a) (o1 := o1) (n1 := n1) (c1 := c1) (o2 := o2) (n2 := n2) (c2 := c2) h2 ha
  have k3 := Sl.set3any (a := a) (o1 := o1) (n1 := n1) (c1 := c1) (o2 := o2) (n2 := n2) (c2 := c2) h3 ha
  have k4 := Sl.set3any (a := a) (o1 := o1) (n1 := n1) (c1 := c1) (o2 := o2) (n2 := n2) (c2 := c2) h4 ha
  have B1 := ((B.setCell (p := ⟨p, 0, none⟩) hp (.bool a)).setCell (p := ⟨p, 1, none⟩) hp (.slice o1 n1 c1)).setCell (p := ⟨p, 2, none⟩) hp (.slice o2 n2 c2)
  generalize ((W.setCell ⟨p, 0, none⟩ (.bool a)).setCell ⟨p, 1, none⟩ (.slice o1 n1 c1)).setCell ⟨p, 2, none⟩ (.slice o2 n2 c2) = U at *
  have hp1 : w.heap.size ≤ p + 1 := by omega
  exact ⟨((a1.other (by omega) _ _).other (by omega) _ _).other (by omega) _ _, ((b1.set 0 (.bool b)).set 1 (.slice o3 n3 c3)).set 2 (.slice o4 n4 c4), ⟨k1.set3any b1, k2.set3any b1, k3.set3any b1, k4.set3any b1⟩, ((B1.setCell (p := ⟨p + 1, 0, none⟩) hp1 _).setCell (p := ⟨p + 1, 1, none⟩) hp1 _).setCell (p := ⟨p + 1, 2, none⟩) hp1 _⟩
theorem RkPost.ok {over : Prop} {x : Rat} {e : Ending} {w : World} (h : RkPost over x e w) (ho : ¬ over) : ∃ r, e = .returned (.tuple #[r, .int .i64 0]) ∧ RatN w r x := by
  rcases h with ⟨_, h⟩ | ⟨h, _⟩
  · exact h
  · exact absurd h ho
theorem RkPost.over {over : Prop} {x : Rat} {e : Ending} {w : World} (h : RkPost over x e w) (ho : over) : e = .returned (.tuple #[.agg #[.bool false, .slice none 0 0, .slice none 0 0], .int .i64 2]) := by
  rcases h with ⟨h, _⟩ | ⟨_, h⟩
  · exact absurd ho h
  · exact h
theorem CmpPost.ok {over : Prop} {n : Int} {e : Ending} (h : CmpPost over n e) (ho : ¬ over) : e = .returned (.tuple #[.int .i64 n, .int .i64 0]) := by
  rcases h with ⟨_, h⟩ | ⟨h, _⟩
  · exact h
  · exact absurd h ho
theorem CmpPost.over {over : Prop} {n : Int} {e : Ending} (h : CmpPost over n e) (ho : over) : e = .returned (.tuple #[.int .i64 0, .int .i64 2]) := by
  rcases h with ⟨h, _⟩ | ⟨_, h⟩
  · exact absurd ho h
  · exact h
theorem overC_comm {x y : Rat} (h : OverC x y) : OverC y x := h.symm
theorem overA_comm {x y : Rat} (h : OverA y x) : OverA x y := by
  unfold OverA OverS at *
  rcases h with h | h | h | h
  · exact .inr (.inl h)
  · exact .inl h
  · exact .inr (.inr (.inl (by rw [Nat.mul_comm]; exact h)))
  · exact .inr (.inr (.inr (by rw [Nat.add_comm]; exact h)))
theorem same_eq {w : World} {v u : Value} {x : Rat} (h1 : RatN w v x) (h2 : RatN w u x) :
    Calls Try.prog 13 #[v, u] w fun e w' => e = .returned (.bool true) ∧ Below w.heap.size w w' := by
  have h := same_rat h1 h2
  rw [decide_eq_true rfl] at h
  exact h
theorem len_zero {w : World} {s : Bool} {o o' : Option Addr} {n c n' c' : Nat} {y : Rat} (h : RatN w (.agg #[.bool s, .slice o n c, .slice o' n' c']) y) : (¬ (0 : Int) < n ∧ y = 0) ∨ ((0 : Int) < n ∧ y ≠ 0) := by
  obtain ⟨a, d, e, h1, _⟩ := h
  cases e
  obtain ⟨_, _, _, e, _, h2, _⟩ := h1.len
  cases e
  by_cases hy : y = 0
  · refine .inl ⟨?_, hy⟩
    have := h2.2 (by rw [hy]; rfl)
    omega
  · refine .inr ⟨?_, hy⟩
    have hn : y.num ≠ 0 := fun h => hy (Rat.num_eq_zero.1 h)
    have : n ≠ 0 := fun h => by have := h2.1 h; omega
    omega
def BadPair (w : World) (v u : Value) : Prop := BadR w v ∨ (∃ x, RatN w v x) ∧ BadR w u
theorem BadPair.below {w w' : World} {v u : Value} (h : BadPair w v u) (hb : Below w.heap.size w w') : BadPair w' v u := by
  rcases h with h | ⟨⟨x, h⟩, h2⟩
  · exact .inl (h.below hb)
  · exact .inr ⟨⟨x, h.below hb⟩, h2.below hb⟩
theorem rat_tri (x y : Rat) : x < y ∨ x = y ∨ y < x := by
  by_cases h : x < y
  · exact .inl h
  · by_cases h2 : y < x
    · exact .inr (.inr h2)
    · exact .inr (.inl (Rat.le_antisymm (Rat.not_lt.1 h2) (Rat.not_lt.1 h)))
theorem rat_not {x y : Rat} (h : x < y) : ¬ y < x ∧ x ≠ y := by
  constructor
  · intro h2
    rw [Rat.lt_iff] at h h2
    omega
  · intro h2
    rw [h2] at h
    exact Rat.lt_irrefl h
theorem sgn_ways (x y : Rat) : (ratSgn x y = -1 ∧ ratSgn y x = 1 ∧ x ≠ y) ∨ (ratSgn x y = 0 ∧ ratSgn y x = 0 ∧ x = y) ∨ (ratSgn x y = 1 ∧ ratSgn y x = -1 ∧ x ≠ y) := by
  rcases rat_tri x y with h | h | h
  · exact .inl ⟨by rw [ratSgn, if_pos h], by rw [ratSgn, if_neg (rat_not h).1, if_pos h], (rat_not h).2⟩
  · subst h
    exact .inr (.inl ⟨by rw [ratSgn, if_neg Rat.lt_irrefl, if_neg Rat.lt_irrefl], by rw [ratSgn, if_neg Rat.lt_irrefl, if_neg Rat.lt_irrefl], rfl⟩)
  · exact .inr (.inr ⟨by rw [ratSgn, if_neg (rat_not h).1, if_pos h], by rw [ratSgn, if_pos h], fun e => (rat_not h).2 e.symm⟩)
/-- What the law keeps: its two arguments' blocks. -/
structure BackAt (w W : World) (v u : Value) (s t : Bool) (n1 d1 n2 d2 : Value) : Prop where
  bl : Below w.heap.size w W
  ev : v = .agg #[.bool s, n1, d1]
  eu : u = .agg #[.bool t, n2, d2]
  a : BlockAt W w.heap.size #[.bool s, n1, d1] 25
  b : BlockAt W (w.heap.size + 1) #[.bool t, n2, d2] 25
theorem BackAt.later {w W W2 : World} {v u : Value} {s t : Bool} {n1 d1 n2 d2 : Value} (h : BackAt w W v u s t n1 d1 n2 d2) (hb : Below W.heap.size W W2) : BackAt w W2 v u s t n1 d1 n2 d2 :=
  ⟨h.bl.trans (hb.mono h.bl.size), h.ev, h.eu, h.a.below hb, h.b.below hb⟩

set_option maxHeartbeats 100000000 in
set_option maxRecDepth 100000 in
theorem back_walk (s0 : Bool) (a0 : Option Addr) (len0 cap0 : Nat) (z0 : List Int) (a1 : Option Addr) (len1 cap1 : Nat) (z1 : List Int) (t0 : Bool) (a2 : Option Addr) (len2 cap2 : Nat) (z2 : List Int) (a3 : Option Addr) (len3 cap3 : Nat) (z3 : List Int) (w : World)
    (w0 : IsRow .u32 w a0 len0 cap0 z0) (w1 : IsRow .u32 w a1 len1 cap1 z1) (w2 : IsRow .u32 w a2 len2 cap2 z2) (w3 : IsRow .u32 w a3 len3 cap3 z3) :
    Calls Try.prog 6 #[.agg #[.bool s0, .slice a0 len0 cap0, .slice a1 len1 cap1], .agg #[.bool t0, .slice a2 len2 cap2, .slice a3 len3 cap3]] w fun e w' => e = .returned (.bool true) ∧ Below w.heap.size w w' := by
  obtain ⟨B, ha, hb⟩ := two_start w #[.bool s0, .slice a0 len0 cap0, .slice a1 len1 cap1] #[.bool t0, .slice a2 len2 cap2, .slice a3 len3 cap3] 25
  have F := Lib.hid (fun (W : World) (B : Below w.heap.size w W) => fewR s0 a0 len0 cap0 z0 a1 len1 cap1 z1 W (w0.later B) (w1.later B))
  have G := Lib.hid (fun (W : World) (B : Below w.heap.size w W) => fewR t0 a2 len2 cap2 z2 a3 len3 cap3 z3 W (w2.later B) (w3.later B))
  clear w0 w1 w2 w3
  go_enter Try.func6, Try.ntmps6
  go_wp2_with fail
  generalize (w.alloc (.cells #[.bool s0, .slice a0 len0 cap0, .slice a1 len1 cap1] 25)).alloc (.cells #[.bool t0, .slice a2 len2 cap2, .slice a3 len3 cap3] 25) = W at *
  go_cut [] (fun wx => ∃ s t n1 d1 n2 d2 xs ys us vs, Hid (BlockAt wx w.heap.size #[.bool s, n1, d1] 25) ∧ Hid (BlockAt wx (w.heap.size + 1) #[.bool t, n2, d2] 25) ∧ Hid (Sl wx n1 xs ∧ Sl wx d1 ys ∧ Sl wx n2 us ∧ Sl wx d2 vs) ∧ Hid (Below w.heap.size w wx))
  case first =>
    have D := (Below.refl W.heap.size W).drew
    have ha := ha.below D
    have hb := hb.below D
    have B := B.drew
    have tok1 : True := trivial
    clear D
    obtain ⟨k0, k1, k2⟩ := block3 ha
    obtain ⟨k3, k4, k5⟩ := block3 hb
    go_region_with (first
      | (go_at_call 7; have _t := tok1; clear _t tok1; have tok2 : True := trivial; refine (F.out _ B).mono ?_; rintro e W2 ⟨⟨n1, d1, xs, ys, rfl, x1, x2⟩, bq⟩; obtain ⟨p1, p2, p3, rfl⟩ := x1.form; obtain ⟨q1, q2, q3, rfl⟩ := x2.form; have ha := ha.below bq; have hb := hb.below bq; have B := B.trans (bq.mono B.size); clear bq; obtain ⟨k0, k1, k2⟩ := block3 ha; obtain ⟨k3, k4, k5⟩ := block3 hb)
      | (go_at_call 7; have _t := tok2; refine (G.out _ B).mono ?_; rintro e W3 ⟨⟨n2, d2, us, vs, rfl, x3, x4⟩, bq⟩; obtain ⟨p4, p5, p6, rfl⟩ := x3.form; obtain ⟨q4, q5, q6, rfl⟩ := x4.form; have x1 := x1.below bq; have x2 := x2.below bq; have ha := ha.below bq; have hb := hb.below bq; have B := B.trans (bq.mono B.size); clear bq; obtain ⟨k0, k1, k2⟩ := block3 ha; obtain ⟨k3, k4, k5⟩ := block3 hb; have f0 := ha.free 0; have f1 := ha.free 1; have f2 := ha.free 2; have f3 := hb.free 0; have f4 := hb.free 1; have f5 := hb.free 2))
    all_goals
      obtain ⟨V, hV, y1, y2, y3, y4⟩ := both_set (a := s0) (b := t0) ha hb (Nat.le_refl _) B x1 x2 x3 x4
      have Y1 := Lib.hid y1
      have Y2 := Lib.hid y2
      have Y3 := Lib.hid y3
      have Y4 := Lib.hid y4
      have HV := Lib.hid hV
      clear y1 y2 y3 y4 hV x1 x2 x3 x4 ha hb B f0 f1 f2 f3 f4 f5 k0 k1 k2 k3 k4 k5
      go_wp2_with fail
      go_meet
      rw [← HV.out]
      exact ⟨s0, t0, _, _, _, _, _, _, _, _, Y1, Y2, Y3, Y4⟩
  case rest =>
    obtain ⟨s, t, n1, d1, n2, d2, xs, ys, us, vs, ka, kb, hsl, hB⟩ := hcut
    obtain ⟨x1, x2, x3, x4⟩ := hsl.out
    have ka := ka.out
    have kb := kb.out
    have B := hB.out
    obtain ⟨ao1, an1, ac1, rfl⟩ := x1.form
    obtain ⟨ao2, an2, ac2, rfl⟩ := x2.form
    obtain ⟨ao3, an3, ac3, rfl⟩ := x3.form
    obtain ⟨ao4, an4, ac4, rfl⟩ := x4.form
    have HX := Lib.hid (rat_ways _ s _ _ _ _ x1 x2)
    have HY := Lib.hid (rat_ways _ t _ _ _ _ x3 x4)
    clear hsl hB x1 x2 x3 x4 F G
    rcases HX.out with ⟨x, hx⟩ | hbx
    · rcases HY.out with ⟨y, hy⟩ | hby
      · clear HX HY
        have hyz := len_zero hy
        obtain ⟨ka_0, ka_1, ka_2⟩ := block3 ka
        have ka_l := ka.lt
        obtain ⟨kb_0, kb_1, kb_2⟩ := block3 kb
        have kb_l := kb.lt
        by_cases hA : OverA x y
        · have HA := Lib.hid hA
          clear hA
          have HC := Lib.hid (add_rat _ _ x y _ hx hy)
          go_wp2_with fail
          refine HC.out.mono ?_
          rintro e W1 ⟨hk, bq⟩
          clear HC
          have hx := hx.below bq
          have hy := hy.below bq
          have ka := ka.below bq
          have kb := kb.below bq
          have B := B.trans (bq.mono B.size)
          clear bq
          clear ka_0 ka_1 ka_2 ka_l kb_0 kb_1 kb_2 kb_l
          obtain ⟨ka_0, ka_1, ka_2⟩ := block3 ka
          have ka_l := ka.lt
          obtain ⟨kb_0, kb_1, kb_2⟩ := block3 kb
          have kb_l := kb.lt
          obtain rfl := hk.over HA.out
          have b4 : Below W1.heap.size W1 (W1.alloc (.cells #[.bool false, .slice none 0 0, .slice none 0 0] 25)) := (Below.refl _ _).alloc (Nat.le_refl _) _
          have ks := BlockAt.new W1 #[.bool false, .slice none 0 0, .slice none 0 0] 25
          have hx := hx.below b4
          have hy := hy.below b4
          have ka := ka.below b4
          have kb := kb.below b4
          have B := B.trans (b4.mono B.size)
          clear b4
          clear ks
          by_cases hM : OverM x y
          · have HM := Lib.hid hM
            clear hM
            have HC := Lib.hid (mul_rat _ _ x y _ hx hy)
            go_wp2_with fail
            refine HC.out.mono ?_
            rintro e W2 ⟨hk, bq⟩
            clear HC
            have hx := hx.below bq
            have hy := hy.below bq
            have ka := ka.below bq
            have kb := kb.below bq
            have B := B.trans (bq.mono B.size)
            clear bq
            clear ka_0 ka_1 ka_2 ka_l kb_0 kb_1 kb_2 kb_l
            obtain ⟨ka_0, ka_1, ka_2⟩ := block3 ka
            have ka_l := ka.lt
            obtain ⟨kb_0, kb_1, kb_2⟩ := block3 kb
            have kb_l := kb.lt
            obtain rfl := hk.over HM.out
            have b4 : Below W2.heap.size W2 (W2.alloc (.cells #[.bool false, .slice none 0 0, .slice none 0 0] 25)) := (Below.refl _ _).alloc (Nat.le_refl _) _
            have kp := BlockAt.new W2 #[.bool false, .slice none 0 0, .slice none 0 0] 25
            have hx := hx.below b4
            have hy := hy.below b4
            have ka := ka.below b4
            have kb := kb.below b4
            have B := B.trans (b4.mono B.size)
            clear b4
            clear kp
            by_cases hO : OverC x y
            · have HO := Lib.hid hO
              clear hO
              have hov := HO.out
              have HC := Lib.hid (cmp_rat _ _ x y _ hx hy)
              go_wp2_with fail
              refine HC.out.mono ?_
              rintro e W3 ⟨hk, bq⟩
              clear HC
              have hx := hx.below bq
              have hy := hy.below bq
              have ka := ka.below bq
              have kb := kb.below bq
              have B := B.trans (bq.mono B.size)
              clear bq
              clear ka_0 ka_1 ka_2 ka_l kb_0 kb_1 kb_2 kb_l
              obtain ⟨ka_0, ka_1, ka_2⟩ := block3 ka
              have ka_l := ka.lt
              obtain ⟨kb_0, kb_1, kb_2⟩ := block3 kb
              have kb_l := kb.lt
              obtain rfl := hk.over HO.out
              have HC := Lib.hid (cmp_rat _ _ y x _ hy hx)
              go_wp2_with fail
              refine HC.out.mono ?_
              rintro e W4 ⟨hk, bq⟩
              clear HC
              have hx := hx.below bq
              have hy := hy.below bq
              have ka := ka.below bq
              have kb := kb.below bq
              have B := B.trans (bq.mono B.size)
              clear bq
              clear ka_0 ka_1 ka_2 ka_l kb_0 kb_1 kb_2 kb_l
              obtain ⟨ka_0, ka_1, ka_2⟩ := block3 ka
              have ka_l := ka.lt
              obtain ⟨kb_0, kb_1, kb_2⟩ := block3 kb
              have kb_l := kb.lt
              obtain rfl := hk.over (overC_comm HO.out)
              clear hov
              have HC := Lib.hid (aliveR W4)
              go_wp2_with fail
              refine HC.out.mono ?_
              rintro e W5 ⟨rfl, bq⟩
              clear HC
              have hx := hx.below bq
              have hy := hy.below bq
              have ka := ka.below bq
              have kb := kb.below bq
              have B := B.trans (bq.mono B.size)
              clear bq
              clear ka_0 ka_1 ka_2 ka_l kb_0 kb_1 kb_2 kb_l
              obtain ⟨ka_0, ka_1, ka_2⟩ := block3 ka
              have ka_l := ka.lt
              obtain ⟨kb_0, kb_1, kb_2⟩ := block3 kb
              have kb_l := kb.lt
              go_wp2_with fail
              go_ret
              exact ⟨rfl, B⟩
            · rcases sgn_ways x y with ⟨g1, g2, g3⟩ | ⟨g1, g2, g3⟩ | ⟨g1, g2, g3⟩
              · have HO := Lib.hid hO
                clear hO
                have G1 := Lib.hid g1
                have G2 := Lib.hid g2
                have G3 := Lib.hid g3
                clear g1 g2 g3
                have HC := Lib.hid (cmp_rat _ _ x y _ hx hy)
                go_wp2_with fail
                refine HC.out.mono ?_
                rintro e W3 ⟨hk, bq⟩
                clear HC
                have hx := hx.below bq
                have hy := hy.below bq
                have ka := ka.below bq
                have kb := kb.below bq
                have B := B.trans (bq.mono B.size)
                clear bq
                clear ka_0 ka_1 ka_2 ka_l kb_0 kb_1 kb_2 kb_l
                obtain ⟨ka_0, ka_1, ka_2⟩ := block3 ka
                have ka_l := ka.lt
                obtain ⟨kb_0, kb_1, kb_2⟩ := block3 kb
                have kb_l := kb.lt
                have he := hk.ok HO.out
                rw [G1.out] at he
                obtain rfl := he
                have HC := Lib.hid (cmp_rat _ _ y x _ hy hx)
                go_wp2_with fail
                refine HC.out.mono ?_
                rintro e W4 ⟨hk, bq⟩
                clear HC
                have hx := hx.below bq
                have hy := hy.below bq
                have ka := ka.below bq
                have kb := kb.below bq
                have B := B.trans (bq.mono B.size)
                clear bq
                clear ka_0 ka_1 ka_2 ka_l kb_0 kb_1 kb_2 kb_l
                obtain ⟨ka_0, ka_1, ka_2⟩ := block3 ka
                have ka_l := ka.lt
                obtain ⟨kb_0, kb_1, kb_2⟩ := block3 kb
                have kb_l := kb.lt
                have he := hk.ok (fun h => HO.out (overC_comm h))
                rw [G2.out] at he
                obtain rfl := he
                have HC := Lib.hid (aliveR W4)
                go_wp2_with fail
                refine HC.out.mono ?_
                rintro e W5 ⟨rfl, bq⟩
                clear HC
                have hx := hx.below bq
                have hy := hy.below bq
                have ka := ka.below bq
                have kb := kb.below bq
                have B := B.trans (bq.mono B.size)
                clear bq
                clear ka_0 ka_1 ka_2 ka_l kb_0 kb_1 kb_2 kb_l
                obtain ⟨ka_0, ka_1, ka_2⟩ := block3 ka
                have ka_l := ka.lt
                obtain ⟨kb_0, kb_1, kb_2⟩ := block3 kb
                have kb_l := kb.lt
                have HS := same_rat hx hy
                rw [decide_eq_false G3.out] at HS
                have HS := Lib.hid HS
                have HC := Lib.hid (HS.out)
                go_wp2_with fail
                refine HC.out.mono ?_
                rintro e W6 ⟨rfl, bq⟩
                clear HC
                have hx := hx.below bq
                have hy := hy.below bq
                have ka := ka.below bq
                have kb := kb.below bq
                have B := B.trans (bq.mono B.size)
                clear bq
                clear ka_0 ka_1 ka_2 ka_l kb_0 kb_1 kb_2 kb_l
                obtain ⟨ka_0, ka_1, ka_2⟩ := block3 ka
                have ka_l := ka.lt
                obtain ⟨kb_0, kb_1, kb_2⟩ := block3 kb
                have kb_l := kb.lt
                go_wp2_with fail
                go_ret
                exact ⟨rfl, B⟩
              · have HO := Lib.hid hO
                clear hO
                have G1 := Lib.hid g1
                have G2 := Lib.hid g2
                have G3 := Lib.hid g3
                clear g1 g2 g3
                have HC := Lib.hid (cmp_rat _ _ x y _ hx hy)
                go_wp2_with fail
                refine HC.out.mono ?_
                rintro e W3 ⟨hk, bq⟩
                clear HC
                have hx := hx.below bq
                have hy := hy.below bq
                have ka := ka.below bq
                have kb := kb.below bq
                have B := B.trans (bq.mono B.size)
                clear bq
                clear ka_0 ka_1 ka_2 ka_l kb_0 kb_1 kb_2 kb_l
                obtain ⟨ka_0, ka_1, ka_2⟩ := block3 ka
                have ka_l := ka.lt
                obtain ⟨kb_0, kb_1, kb_2⟩ := block3 kb
                have kb_l := kb.lt
                have he := hk.ok HO.out
                rw [G1.out] at he
                obtain rfl := he
                have HC := Lib.hid (cmp_rat _ _ y x _ hy hx)
                go_wp2_with fail
                refine HC.out.mono ?_
                rintro e W4 ⟨hk, bq⟩
                clear HC
                have hx := hx.below bq
                have hy := hy.below bq
                have ka := ka.below bq
                have kb := kb.below bq
                have B := B.trans (bq.mono B.size)
                clear bq
                clear ka_0 ka_1 ka_2 ka_l kb_0 kb_1 kb_2 kb_l
                obtain ⟨ka_0, ka_1, ka_2⟩ := block3 ka
                have ka_l := ka.lt
                obtain ⟨kb_0, kb_1, kb_2⟩ := block3 kb
                have kb_l := kb.lt
                have he := hk.ok (fun h => HO.out (overC_comm h))
                rw [G2.out] at he
                obtain rfl := he
                have HC := Lib.hid (aliveR W4)
                go_wp2_with fail
                refine HC.out.mono ?_
                rintro e W5 ⟨rfl, bq⟩
                clear HC
                have hx := hx.below bq
                have hy := hy.below bq
                have ka := ka.below bq
                have kb := kb.below bq
                have B := B.trans (bq.mono B.size)
                clear bq
                clear ka_0 ka_1 ka_2 ka_l kb_0 kb_1 kb_2 kb_l
                obtain ⟨ka_0, ka_1, ka_2⟩ := block3 ka
                have ka_l := ka.lt
                obtain ⟨kb_0, kb_1, kb_2⟩ := block3 kb
                have kb_l := kb.lt
                have HS := same_rat hx hy
                rw [decide_eq_true G3.out] at HS
                have HS := Lib.hid HS
                have HC := Lib.hid (HS.out)
                go_wp2_with fail
                refine HC.out.mono ?_
                rintro e W6 ⟨rfl, bq⟩
                clear HC
                have hx := hx.below bq
                have hy := hy.below bq
                have ka := ka.below bq
                have kb := kb.below bq
                have B := B.trans (bq.mono B.size)
                clear bq
                clear ka_0 ka_1 ka_2 ka_l kb_0 kb_1 kb_2 kb_l
                obtain ⟨ka_0, ka_1, ka_2⟩ := block3 ka
                have ka_l := ka.lt
                obtain ⟨kb_0, kb_1, kb_2⟩ := block3 kb
                have kb_l := kb.lt
                go_wp2_with fail
                go_ret
                exact ⟨rfl, B⟩
              · have HO := Lib.hid hO
                clear hO
                have G1 := Lib.hid g1
                have G2 := Lib.hid g2
                have G3 := Lib.hid g3
                clear g1 g2 g3
                have HC := Lib.hid (cmp_rat _ _ x y _ hx hy)
                go_wp2_with fail
                refine HC.out.mono ?_
                rintro e W3 ⟨hk, bq⟩
                clear HC
                have hx := hx.below bq
                have hy := hy.below bq
                have ka := ka.below bq
                have kb := kb.below bq
                have B := B.trans (bq.mono B.size)
                clear bq
                clear ka_0 ka_1 ka_2 ka_l kb_0 kb_1 kb_2 kb_l
                obtain ⟨ka_0, ka_1, ka_2⟩ := block3 ka
                have ka_l := ka.lt
                obtain ⟨kb_0, kb_1, kb_2⟩ := block3 kb
                have kb_l := kb.lt
                have he := hk.ok HO.out
                rw [G1.out] at he
                obtain rfl := he
                have HC := Lib.hid (cmp_rat _ _ y x _ hy hx)
                go_wp2_with fail
                refine HC.out.mono ?_
                rintro e W4 ⟨hk, bq⟩
                clear HC
                have hx := hx.below bq
                have hy := hy.below bq
                have ka := ka.below bq
                have kb := kb.below bq
                have B := B.trans (bq.mono B.size)
                clear bq
                clear ka_0 ka_1 ka_2 ka_l kb_0 kb_1 kb_2 kb_l
                obtain ⟨ka_0, ka_1, ka_2⟩ := block3 ka
                have ka_l := ka.lt
                obtain ⟨kb_0, kb_1, kb_2⟩ := block3 kb
                have kb_l := kb.lt
                have he := hk.ok (fun h => HO.out (overC_comm h))
                rw [G2.out] at he
                obtain rfl := he
                have HC := Lib.hid (aliveR W4)
                go_wp2_with fail
                refine HC.out.mono ?_
                rintro e W5 ⟨rfl, bq⟩
                clear HC
                have hx := hx.below bq
                have hy := hy.below bq
                have ka := ka.below bq
                have kb := kb.below bq
                have B := B.trans (bq.mono B.size)
                clear bq
                clear ka_0 ka_1 ka_2 ka_l kb_0 kb_1 kb_2 kb_l
                obtain ⟨ka_0, ka_1, ka_2⟩ := block3 ka
                have ka_l := ka.lt
                obtain ⟨kb_0, kb_1, kb_2⟩ := block3 kb
                have kb_l := kb.lt
                have HS := same_rat hx hy
                rw [decide_eq_false G3.out] at HS
                have HS := Lib.hid HS
                have HC := Lib.hid (HS.out)
                go_wp2_with fail
                refine HC.out.mono ?_
                rintro e W6 ⟨rfl, bq⟩
                clear HC
                have hx := hx.below bq
                have hy := hy.below bq
                have ka := ka.below bq
                have kb := kb.below bq
                have B := B.trans (bq.mono B.size)
                clear bq
                clear ka_0 ka_1 ka_2 ka_l kb_0 kb_1 kb_2 kb_l
                obtain ⟨ka_0, ka_1, ka_2⟩ := block3 ka
                have ka_l := ka.lt
                obtain ⟨kb_0, kb_1, kb_2⟩ := block3 kb
                have kb_l := kb.lt
                go_wp2_with fail
                go_ret
                exact ⟨rfl, B⟩
          · have HM := Lib.hid hM
            clear hM
            have HC := Lib.hid (mul_rat _ _ x y _ hx hy)
            go_wp2_with fail
            refine HC.out.mono ?_
            rintro e W2 ⟨hk, bq⟩
            clear HC
            have hx := hx.below bq
            have hy := hy.below bq
            have ka := ka.below bq
            have kb := kb.below bq
            have B := B.trans (bq.mono B.size)
            clear bq
            clear ka_0 ka_1 ka_2 ka_l kb_0 kb_1 kb_2 kb_l
            obtain ⟨ka_0, ka_1, ka_2⟩ := block3 ka
            have ka_l := ka.lt
            obtain ⟨kb_0, kb_1, kb_2⟩ := block3 kb
            have kb_l := kb.lt
            obtain ⟨p, rfl, hp⟩ := hk.ok HM.out
            obtain ⟨t3_, oa3, na3, ca3, ob3, nb3, cb3, rfl⟩ := RawN.form hp
            have b4 : Below W2.heap.size W2 (W2.alloc (.cells #[.bool t3_, .slice oa3 na3 ca3, .slice ob3 nb3 cb3] 25)) := (Below.refl _ _).alloc (Nat.le_refl _) _
            have kp := BlockAt.new W2 #[.bool t3_, .slice oa3 na3 ca3, .slice ob3 nb3 cb3] 25
            have hx := hx.below b4
            have hy := hy.below b4
            have hp := hp.below b4
            have ka := ka.below b4
            have kb := kb.below b4
            have B := B.trans (b4.mono B.size)
            clear b4
            rcases hyz with ⟨hm0, hy0⟩ | ⟨hm0, hy0⟩
            · clear hp kp
              by_cases hO : OverC x y
              · have HO := Lib.hid hO
                clear hO
                have hov := HO.out
                have HC := Lib.hid (cmp_rat _ _ x y _ hx hy)
                go_wp2_with fail
                refine HC.out.mono ?_
                rintro e W3 ⟨hk, bq⟩
                clear HC
                have hx := hx.below bq
                have hy := hy.below bq
                have ka := ka.below bq
                have kb := kb.below bq
                have B := B.trans (bq.mono B.size)
                clear bq
                clear ka_0 ka_1 ka_2 ka_l kb_0 kb_1 kb_2 kb_l
                obtain ⟨ka_0, ka_1, ka_2⟩ := block3 ka
                have ka_l := ka.lt
                obtain ⟨kb_0, kb_1, kb_2⟩ := block3 kb
                have kb_l := kb.lt
                obtain rfl := hk.over HO.out
                have HC := Lib.hid (cmp_rat _ _ y x _ hy hx)
                go_wp2_with fail
                refine HC.out.mono ?_
                rintro e W4 ⟨hk, bq⟩
                clear HC
                have hx := hx.below bq
                have hy := hy.below bq
                have ka := ka.below bq
                have kb := kb.below bq
                have B := B.trans (bq.mono B.size)
                clear bq
                clear ka_0 ka_1 ka_2 ka_l kb_0 kb_1 kb_2 kb_l
                obtain ⟨ka_0, ka_1, ka_2⟩ := block3 ka
                have ka_l := ka.lt
                obtain ⟨kb_0, kb_1, kb_2⟩ := block3 kb
                have kb_l := kb.lt
                obtain rfl := hk.over (overC_comm HO.out)
                clear hov
                have HC := Lib.hid (aliveR W4)
                go_wp2_with fail
                refine HC.out.mono ?_
                rintro e W5 ⟨rfl, bq⟩
                clear HC
                have hx := hx.below bq
                have hy := hy.below bq
                have ka := ka.below bq
                have kb := kb.below bq
                have B := B.trans (bq.mono B.size)
                clear bq
                clear ka_0 ka_1 ka_2 ka_l kb_0 kb_1 kb_2 kb_l
                obtain ⟨ka_0, ka_1, ka_2⟩ := block3 ka
                have ka_l := ka.lt
                obtain ⟨kb_0, kb_1, kb_2⟩ := block3 kb
                have kb_l := kb.lt
                go_wp2_with fail
                go_ret
                exact ⟨rfl, B⟩
              · rcases sgn_ways x y with ⟨g1, g2, g3⟩ | ⟨g1, g2, g3⟩ | ⟨g1, g2, g3⟩
                · have HO := Lib.hid hO
                  clear hO
                  have G1 := Lib.hid g1
                  have G2 := Lib.hid g2
                  have G3 := Lib.hid g3
                  clear g1 g2 g3
                  have HC := Lib.hid (cmp_rat _ _ x y _ hx hy)
                  go_wp2_with fail
                  refine HC.out.mono ?_
                  rintro e W3 ⟨hk, bq⟩
                  clear HC
                  have hx := hx.below bq
                  have hy := hy.below bq
                  have ka := ka.below bq
                  have kb := kb.below bq
                  have B := B.trans (bq.mono B.size)
                  clear bq
                  clear ka_0 ka_1 ka_2 ka_l kb_0 kb_1 kb_2 kb_l
                  obtain ⟨ka_0, ka_1, ka_2⟩ := block3 ka
                  have ka_l := ka.lt
                  obtain ⟨kb_0, kb_1, kb_2⟩ := block3 kb
                  have kb_l := kb.lt
                  have he := hk.ok HO.out
                  rw [G1.out] at he
                  obtain rfl := he
                  have HC := Lib.hid (cmp_rat _ _ y x _ hy hx)
                  go_wp2_with fail
                  refine HC.out.mono ?_
                  rintro e W4 ⟨hk, bq⟩
                  clear HC
                  have hx := hx.below bq
                  have hy := hy.below bq
                  have ka := ka.below bq
                  have kb := kb.below bq
                  have B := B.trans (bq.mono B.size)
                  clear bq
                  clear ka_0 ka_1 ka_2 ka_l kb_0 kb_1 kb_2 kb_l
                  obtain ⟨ka_0, ka_1, ka_2⟩ := block3 ka
                  have ka_l := ka.lt
                  obtain ⟨kb_0, kb_1, kb_2⟩ := block3 kb
                  have kb_l := kb.lt
                  have he := hk.ok (fun h => HO.out (overC_comm h))
                  rw [G2.out] at he
                  obtain rfl := he
                  have HC := Lib.hid (aliveR W4)
                  go_wp2_with fail
                  refine HC.out.mono ?_
                  rintro e W5 ⟨rfl, bq⟩
                  clear HC
                  have hx := hx.below bq
                  have hy := hy.below bq
                  have ka := ka.below bq
                  have kb := kb.below bq
                  have B := B.trans (bq.mono B.size)
                  clear bq
                  clear ka_0 ka_1 ka_2 ka_l kb_0 kb_1 kb_2 kb_l
                  obtain ⟨ka_0, ka_1, ka_2⟩ := block3 ka
                  have ka_l := ka.lt
                  obtain ⟨kb_0, kb_1, kb_2⟩ := block3 kb
                  have kb_l := kb.lt
                  have HS := same_rat hx hy
                  rw [decide_eq_false G3.out] at HS
                  have HS := Lib.hid HS
                  have HC := Lib.hid (HS.out)
                  go_wp2_with fail
                  refine HC.out.mono ?_
                  rintro e W6 ⟨rfl, bq⟩
                  clear HC
                  have hx := hx.below bq
                  have hy := hy.below bq
                  have ka := ka.below bq
                  have kb := kb.below bq
                  have B := B.trans (bq.mono B.size)
                  clear bq
                  clear ka_0 ka_1 ka_2 ka_l kb_0 kb_1 kb_2 kb_l
                  obtain ⟨ka_0, ka_1, ka_2⟩ := block3 ka
                  have ka_l := ka.lt
                  obtain ⟨kb_0, kb_1, kb_2⟩ := block3 kb
                  have kb_l := kb.lt
                  go_wp2_with fail
                  go_ret
                  exact ⟨rfl, B⟩
                · have HO := Lib.hid hO
                  clear hO
                  have G1 := Lib.hid g1
                  have G2 := Lib.hid g2
                  have G3 := Lib.hid g3
                  clear g1 g2 g3
                  have HC := Lib.hid (cmp_rat _ _ x y _ hx hy)
                  go_wp2_with fail
                  refine HC.out.mono ?_
                  rintro e W3 ⟨hk, bq⟩
                  clear HC
                  have hx := hx.below bq
                  have hy := hy.below bq
                  have ka := ka.below bq
                  have kb := kb.below bq
                  have B := B.trans (bq.mono B.size)
                  clear bq
                  clear ka_0 ka_1 ka_2 ka_l kb_0 kb_1 kb_2 kb_l
                  obtain ⟨ka_0, ka_1, ka_2⟩ := block3 ka
                  have ka_l := ka.lt
                  obtain ⟨kb_0, kb_1, kb_2⟩ := block3 kb
                  have kb_l := kb.lt
                  have he := hk.ok HO.out
                  rw [G1.out] at he
                  obtain rfl := he
                  have HC := Lib.hid (cmp_rat _ _ y x _ hy hx)
                  go_wp2_with fail
                  refine HC.out.mono ?_
                  rintro e W4 ⟨hk, bq⟩
                  clear HC
                  have hx := hx.below bq
                  have hy := hy.below bq
                  have ka := ka.below bq
                  have kb := kb.below bq
                  have B := B.trans (bq.mono B.size)
                  clear bq
                  clear ka_0 ka_1 ka_2 ka_l kb_0 kb_1 kb_2 kb_l
                  obtain ⟨ka_0, ka_1, ka_2⟩ := block3 ka
                  have ka_l := ka.lt
                  obtain ⟨kb_0, kb_1, kb_2⟩ := block3 kb
                  have kb_l := kb.lt
                  have he := hk.ok (fun h => HO.out (overC_comm h))
                  rw [G2.out] at he
                  obtain rfl := he
                  have HC := Lib.hid (aliveR W4)
                  go_wp2_with fail
                  refine HC.out.mono ?_
                  rintro e W5 ⟨rfl, bq⟩
                  clear HC
                  have hx := hx.below bq
                  have hy := hy.below bq
                  have ka := ka.below bq
                  have kb := kb.below bq
                  have B := B.trans (bq.mono B.size)
                  clear bq
                  clear ka_0 ka_1 ka_2 ka_l kb_0 kb_1 kb_2 kb_l
                  obtain ⟨ka_0, ka_1, ka_2⟩ := block3 ka
                  have ka_l := ka.lt
                  obtain ⟨kb_0, kb_1, kb_2⟩ := block3 kb
                  have kb_l := kb.lt
                  have HS := same_rat hx hy
                  rw [decide_eq_true G3.out] at HS
                  have HS := Lib.hid HS
                  have HC := Lib.hid (HS.out)
                  go_wp2_with fail
                  refine HC.out.mono ?_
                  rintro e W6 ⟨rfl, bq⟩
                  clear HC
                  have hx := hx.below bq
                  have hy := hy.below bq
                  have ka := ka.below bq
                  have kb := kb.below bq
                  have B := B.trans (bq.mono B.size)
                  clear bq
                  clear ka_0 ka_1 ka_2 ka_l kb_0 kb_1 kb_2 kb_l
                  obtain ⟨ka_0, ka_1, ka_2⟩ := block3 ka
                  have ka_l := ka.lt
                  obtain ⟨kb_0, kb_1, kb_2⟩ := block3 kb
                  have kb_l := kb.lt
                  go_wp2_with fail
                  go_ret
                  exact ⟨rfl, B⟩
                · have HO := Lib.hid hO
                  clear hO
                  have G1 := Lib.hid g1
                  have G2 := Lib.hid g2
                  have G3 := Lib.hid g3
                  clear g1 g2 g3
                  have HC := Lib.hid (cmp_rat _ _ x y _ hx hy)
                  go_wp2_with fail
                  refine HC.out.mono ?_
                  rintro e W3 ⟨hk, bq⟩
                  clear HC
                  have hx := hx.below bq
                  have hy := hy.below bq
                  have ka := ka.below bq
                  have kb := kb.below bq
                  have B := B.trans (bq.mono B.size)
                  clear bq
                  clear ka_0 ka_1 ka_2 ka_l kb_0 kb_1 kb_2 kb_l
                  obtain ⟨ka_0, ka_1, ka_2⟩ := block3 ka
                  have ka_l := ka.lt
                  obtain ⟨kb_0, kb_1, kb_2⟩ := block3 kb
                  have kb_l := kb.lt
                  have he := hk.ok HO.out
                  rw [G1.out] at he
                  obtain rfl := he
                  have HC := Lib.hid (cmp_rat _ _ y x _ hy hx)
                  go_wp2_with fail
                  refine HC.out.mono ?_
                  rintro e W4 ⟨hk, bq⟩
                  clear HC
                  have hx := hx.below bq
                  have hy := hy.below bq
                  have ka := ka.below bq
                  have kb := kb.below bq
                  have B := B.trans (bq.mono B.size)
                  clear bq
                  clear ka_0 ka_1 ka_2 ka_l kb_0 kb_1 kb_2 kb_l
                  obtain ⟨ka_0, ka_1, ka_2⟩ := block3 ka
                  have ka_l := ka.lt
                  obtain ⟨kb_0, kb_1, kb_2⟩ := block3 kb
                  have kb_l := kb.lt
                  have he := hk.ok (fun h => HO.out (overC_comm h))
                  rw [G2.out] at he
                  obtain rfl := he
                  have HC := Lib.hid (aliveR W4)
                  go_wp2_with fail
                  refine HC.out.mono ?_
                  rintro e W5 ⟨rfl, bq⟩
                  clear HC
                  have hx := hx.below bq
                  have hy := hy.below bq
                  have ka := ka.below bq
                  have kb := kb.below bq
                  have B := B.trans (bq.mono B.size)
                  clear bq
                  clear ka_0 ka_1 ka_2 ka_l kb_0 kb_1 kb_2 kb_l
                  obtain ⟨ka_0, ka_1, ka_2⟩ := block3 ka
                  have ka_l := ka.lt
                  obtain ⟨kb_0, kb_1, kb_2⟩ := block3 kb
                  have kb_l := kb.lt
                  have HS := same_rat hx hy
                  rw [decide_eq_false G3.out] at HS
                  have HS := Lib.hid HS
                  have HC := Lib.hid (HS.out)
                  go_wp2_with fail
                  refine HC.out.mono ?_
                  rintro e W6 ⟨rfl, bq⟩
                  clear HC
                  have hx := hx.below bq
                  have hy := hy.below bq
                  have ka := ka.below bq
                  have kb := kb.below bq
                  have B := B.trans (bq.mono B.size)
                  clear bq
                  clear ka_0 ka_1 ka_2 ka_l kb_0 kb_1 kb_2 kb_l
                  obtain ⟨ka_0, ka_1, ka_2⟩ := block3 ka
                  have ka_l := ka.lt
                  obtain ⟨kb_0, kb_1, kb_2⟩ := block3 kb
                  have kb_l := kb.lt
                  go_wp2_with fail
                  go_ret
                  exact ⟨rfl, B⟩
            · have HY0 := Lib.hid hy0
              clear hy0
              by_cases hQ : OverQ (x * y) y
              · have HQ := Lib.hid hQ
                clear hQ
                have HC := Lib.hid (quo_rat _ _ (x * y) y _ hp hy HY0.out)
                go_wp2_with fail
                refine HC.out.mono ?_
                rintro e W3 ⟨hk, bq⟩
                clear HC
                have hx := hx.below bq
                have hy := hy.below bq
                have hp := hp.below bq
                have ka := ka.below bq
                have kb := kb.below bq
                have kp := kp.below bq
                have B := B.trans (bq.mono B.size)
                clear bq
                clear ka_0 ka_1 ka_2 ka_l kb_0 kb_1 kb_2 kb_l
                obtain ⟨ka_0, ka_1, ka_2⟩ := block3 ka
                have ka_l := ka.lt
                obtain ⟨kb_0, kb_1, kb_2⟩ := block3 kb
                have kb_l := kb.lt
                obtain ⟨kp_0, kp_1, kp_2⟩ := block3 kp
                have kp_l := kp.lt
                obtain rfl := hk.over HQ.out
                have b4 : Below W3.heap.size W3 (W3.alloc (.cells #[.bool false, .slice none 0 0, .slice none 0 0] 25)) := (Below.refl _ _).alloc (Nat.le_refl _) _
                have kq := BlockAt.new W3 #[.bool false, .slice none 0 0, .slice none 0 0] 25
                have hx := hx.below b4
                have hy := hy.below b4
                have hp := hp.below b4
                have ka := ka.below b4
                have kb := kb.below b4
                have kp := kp.below b4
                have B := B.trans (b4.mono B.size)
                clear b4
                have HC := Lib.hid (right_rat hp)
                go_wp2_with fail
                refine HC.out.mono ?_
                rintro e W4 ⟨rfl, bq⟩
                clear HC
                have hx := hx.below bq
                have hy := hy.below bq
                have hp := hp.below bq
                have ka := ka.below bq
                have kb := kb.below bq
                have kp := kp.below bq
                have kq := kq.below bq
                have B := B.trans (bq.mono B.size)
                clear bq
                clear ka_0 ka_1 ka_2 ka_l kb_0 kb_1 kb_2 kb_l kp_0 kp_1 kp_2 kp_l
                obtain ⟨ka_0, ka_1, ka_2⟩ := block3 ka
                have ka_l := ka.lt
                obtain ⟨kb_0, kb_1, kb_2⟩ := block3 kb
                have kb_l := kb.lt
                obtain ⟨kp_0, kp_1, kp_2⟩ := block3 kp
                have kp_l := kp.lt
                obtain ⟨kq_0, kq_1, kq_2⟩ := block3 kq
                have kq_l := kq.lt
                clear kp_0 kp_1 kp_2 kp_l kq_0 kq_1 kq_2 kq_l hp kp kq
                by_cases hO : OverC x y
                · have HO := Lib.hid hO
                  clear hO
                  have hov := HO.out
                  have HC := Lib.hid (cmp_rat _ _ x y _ hx hy)
                  go_wp2_with fail
                  refine HC.out.mono ?_
                  rintro e W5 ⟨hk, bq⟩
                  clear HC
                  have hx := hx.below bq
                  have hy := hy.below bq
                  have ka := ka.below bq
                  have kb := kb.below bq
                  have B := B.trans (bq.mono B.size)
                  clear bq
                  clear ka_0 ka_1 ka_2 ka_l kb_0 kb_1 kb_2 kb_l
                  obtain ⟨ka_0, ka_1, ka_2⟩ := block3 ka
                  have ka_l := ka.lt
                  obtain ⟨kb_0, kb_1, kb_2⟩ := block3 kb
                  have kb_l := kb.lt
                  obtain rfl := hk.over HO.out
                  have HC := Lib.hid (cmp_rat _ _ y x _ hy hx)
                  go_wp2_with fail
                  refine HC.out.mono ?_
                  rintro e W6 ⟨hk, bq⟩
                  clear HC
                  have hx := hx.below bq
                  have hy := hy.below bq
                  have ka := ka.below bq
                  have kb := kb.below bq
                  have B := B.trans (bq.mono B.size)
                  clear bq
                  clear ka_0 ka_1 ka_2 ka_l kb_0 kb_1 kb_2 kb_l
                  obtain ⟨ka_0, ka_1, ka_2⟩ := block3 ka
                  have ka_l := ka.lt
                  obtain ⟨kb_0, kb_1, kb_2⟩ := block3 kb
                  have kb_l := kb.lt
                  obtain rfl := hk.over (overC_comm HO.out)
                  clear hov
                  have HC := Lib.hid (aliveR W6)
                  go_wp2_with fail
                  refine HC.out.mono ?_
                  rintro e W7 ⟨rfl, bq⟩
                  clear HC
                  have hx := hx.below bq
                  have hy := hy.below bq
                  have ka := ka.below bq
                  have kb := kb.below bq
                  have B := B.trans (bq.mono B.size)
                  clear bq
                  clear ka_0 ka_1 ka_2 ka_l kb_0 kb_1 kb_2 kb_l
                  obtain ⟨ka_0, ka_1, ka_2⟩ := block3 ka
                  have ka_l := ka.lt
                  obtain ⟨kb_0, kb_1, kb_2⟩ := block3 kb
                  have kb_l := kb.lt
                  go_wp2_with fail
                  go_ret
                  exact ⟨rfl, B⟩
                · rcases sgn_ways x y with ⟨g1, g2, g3⟩ | ⟨g1, g2, g3⟩ | ⟨g1, g2, g3⟩
                  · have HO := Lib.hid hO
                    clear hO
                    have G1 := Lib.hid g1
                    have G2 := Lib.hid g2
                    have G3 := Lib.hid g3
                    clear g1 g2 g3
                    have HC := Lib.hid (cmp_rat _ _ x y _ hx hy)
                    go_wp2_with fail
                    refine HC.out.mono ?_
                    rintro e W5 ⟨hk, bq⟩
                    clear HC
                    have hx := hx.below bq
                    have hy := hy.below bq
                    have ka := ka.below bq
                    have kb := kb.below bq
                    have B := B.trans (bq.mono B.size)
                    clear bq
                    clear ka_0 ka_1 ka_2 ka_l kb_0 kb_1 kb_2 kb_l
                    obtain ⟨ka_0, ka_1, ka_2⟩ := block3 ka
                    have ka_l := ka.lt
                    obtain ⟨kb_0, kb_1, kb_2⟩ := block3 kb
                    have kb_l := kb.lt
                    have he := hk.ok HO.out
                    rw [G1.out] at he
                    obtain rfl := he
                    have HC := Lib.hid (cmp_rat _ _ y x _ hy hx)
                    go_wp2_with fail
                    refine HC.out.mono ?_
                    rintro e W6 ⟨hk, bq⟩
                    clear HC
                    have hx := hx.below bq
                    have hy := hy.below bq
                    have ka := ka.below bq
                    have kb := kb.below bq
                    have B := B.trans (bq.mono B.size)
                    clear bq
                    clear ka_0 ka_1 ka_2 ka_l kb_0 kb_1 kb_2 kb_l
                    obtain ⟨ka_0, ka_1, ka_2⟩ := block3 ka
                    have ka_l := ka.lt
                    obtain ⟨kb_0, kb_1, kb_2⟩ := block3 kb
                    have kb_l := kb.lt
                    have he := hk.ok (fun h => HO.out (overC_comm h))
                    rw [G2.out] at he
                    obtain rfl := he
                    have HC := Lib.hid (aliveR W6)
                    go_wp2_with fail
                    refine HC.out.mono ?_
                    rintro e W7 ⟨rfl, bq⟩
                    clear HC
                    have hx := hx.below bq
                    have hy := hy.below bq
                    have ka := ka.below bq
                    have kb := kb.below bq
                    have B := B.trans (bq.mono B.size)
                    clear bq
                    clear ka_0 ka_1 ka_2 ka_l kb_0 kb_1 kb_2 kb_l
                    obtain ⟨ka_0, ka_1, ka_2⟩ := block3 ka
                    have ka_l := ka.lt
                    obtain ⟨kb_0, kb_1, kb_2⟩ := block3 kb
                    have kb_l := kb.lt
                    have HS := same_rat hx hy
                    rw [decide_eq_false G3.out] at HS
                    have HS := Lib.hid HS
                    have HC := Lib.hid (HS.out)
                    go_wp2_with fail
                    refine HC.out.mono ?_
                    rintro e W8 ⟨rfl, bq⟩
                    clear HC
                    have hx := hx.below bq
                    have hy := hy.below bq
                    have ka := ka.below bq
                    have kb := kb.below bq
                    have B := B.trans (bq.mono B.size)
                    clear bq
                    clear ka_0 ka_1 ka_2 ka_l kb_0 kb_1 kb_2 kb_l
                    obtain ⟨ka_0, ka_1, ka_2⟩ := block3 ka
                    have ka_l := ka.lt
                    obtain ⟨kb_0, kb_1, kb_2⟩ := block3 kb
                    have kb_l := kb.lt
                    go_wp2_with fail
                    go_ret
                    exact ⟨rfl, B⟩
                  · have HO := Lib.hid hO
                    clear hO
                    have G1 := Lib.hid g1
                    have G2 := Lib.hid g2
                    have G3 := Lib.hid g3
                    clear g1 g2 g3
                    have HC := Lib.hid (cmp_rat _ _ x y _ hx hy)
                    go_wp2_with fail
                    refine HC.out.mono ?_
                    rintro e W5 ⟨hk, bq⟩
                    clear HC
                    have hx := hx.below bq
                    have hy := hy.below bq
                    have ka := ka.below bq
                    have kb := kb.below bq
                    have B := B.trans (bq.mono B.size)
                    clear bq
                    clear ka_0 ka_1 ka_2 ka_l kb_0 kb_1 kb_2 kb_l
                    obtain ⟨ka_0, ka_1, ka_2⟩ := block3 ka
                    have ka_l := ka.lt
                    obtain ⟨kb_0, kb_1, kb_2⟩ := block3 kb
                    have kb_l := kb.lt
                    have he := hk.ok HO.out
                    rw [G1.out] at he
                    obtain rfl := he
                    have HC := Lib.hid (cmp_rat _ _ y x _ hy hx)
                    go_wp2_with fail
                    refine HC.out.mono ?_
                    rintro e W6 ⟨hk, bq⟩
                    clear HC
                    have hx := hx.below bq
                    have hy := hy.below bq
                    have ka := ka.below bq
                    have kb := kb.below bq
                    have B := B.trans (bq.mono B.size)
                    clear bq
                    clear ka_0 ka_1 ka_2 ka_l kb_0 kb_1 kb_2 kb_l
                    obtain ⟨ka_0, ka_1, ka_2⟩ := block3 ka
                    have ka_l := ka.lt
                    obtain ⟨kb_0, kb_1, kb_2⟩ := block3 kb
                    have kb_l := kb.lt
                    have he := hk.ok (fun h => HO.out (overC_comm h))
                    rw [G2.out] at he
                    obtain rfl := he
                    have HC := Lib.hid (aliveR W6)
                    go_wp2_with fail
                    refine HC.out.mono ?_
                    rintro e W7 ⟨rfl, bq⟩
                    clear HC
                    have hx := hx.below bq
                    have hy := hy.below bq
                    have ka := ka.below bq
                    have kb := kb.below bq
                    have B := B.trans (bq.mono B.size)
                    clear bq
                    clear ka_0 ka_1 ka_2 ka_l kb_0 kb_1 kb_2 kb_l
                    obtain ⟨ka_0, ka_1, ka_2⟩ := block3 ka
                    have ka_l := ka.lt
                    obtain ⟨kb_0, kb_1, kb_2⟩ := block3 kb
                    have kb_l := kb.lt
                    have HS := same_rat hx hy
                    rw [decide_eq_true G3.out] at HS
                    have HS := Lib.hid HS
                    have HC := Lib.hid (HS.out)
                    go_wp2_with fail
                    refine HC.out.mono ?_
                    rintro e W8 ⟨rfl, bq⟩
                    clear HC
                    have hx := hx.below bq
                    have hy := hy.below bq
                    have ka := ka.below bq
                    have kb := kb.below bq
                    have B := B.trans (bq.mono B.size)
                    clear bq
                    clear ka_0 ka_1 ka_2 ka_l kb_0 kb_1 kb_2 kb_l
                    obtain ⟨ka_0, ka_1, ka_2⟩ := block3 ka
                    have ka_l := ka.lt
                    obtain ⟨kb_0, kb_1, kb_2⟩ := block3 kb
                    have kb_l := kb.lt
                    go_wp2_with fail
                    go_ret
                    exact ⟨rfl, B⟩
                  · have HO := Lib.hid hO
                    clear hO
                    have G1 := Lib.hid g1
                    have G2 := Lib.hid g2
                    have G3 := Lib.hid g3
                    clear g1 g2 g3
                    have HC := Lib.hid (cmp_rat _ _ x y _ hx hy)
                    go_wp2_with fail
                    refine HC.out.mono ?_
                    rintro e W5 ⟨hk, bq⟩
                    clear HC
                    have hx := hx.below bq
                    have hy := hy.below bq
                    have ka := ka.below bq
                    have kb := kb.below bq
                    have B := B.trans (bq.mono B.size)
                    clear bq
                    clear ka_0 ka_1 ka_2 ka_l kb_0 kb_1 kb_2 kb_l
                    obtain ⟨ka_0, ka_1, ka_2⟩ := block3 ka
                    have ka_l := ka.lt
                    obtain ⟨kb_0, kb_1, kb_2⟩ := block3 kb
                    have kb_l := kb.lt
                    have he := hk.ok HO.out
                    rw [G1.out] at he
                    obtain rfl := he
                    have HC := Lib.hid (cmp_rat _ _ y x _ hy hx)
                    go_wp2_with fail
                    refine HC.out.mono ?_
                    rintro e W6 ⟨hk, bq⟩
                    clear HC
                    have hx := hx.below bq
                    have hy := hy.below bq
                    have ka := ka.below bq
                    have kb := kb.below bq
                    have B := B.trans (bq.mono B.size)
                    clear bq
                    clear ka_0 ka_1 ka_2 ka_l kb_0 kb_1 kb_2 kb_l
                    obtain ⟨ka_0, ka_1, ka_2⟩ := block3 ka
                    have ka_l := ka.lt
                    obtain ⟨kb_0, kb_1, kb_2⟩ := block3 kb
                    have kb_l := kb.lt
                    have he := hk.ok (fun h => HO.out (overC_comm h))
                    rw [G2.out] at he
                    obtain rfl := he
                    have HC := Lib.hid (aliveR W6)
                    go_wp2_with fail
                    refine HC.out.mono ?_
                    rintro e W7 ⟨rfl, bq⟩
                    clear HC
                    have hx := hx.below bq
                    have hy := hy.below bq
                    have ka := ka.below bq
                    have kb := kb.below bq
                    have B := B.trans (bq.mono B.size)
                    clear bq
                    clear ka_0 ka_1 ka_2 ka_l kb_0 kb_1 kb_2 kb_l
                    obtain ⟨ka_0, ka_1, ka_2⟩ := block3 ka
                    have ka_l := ka.lt
                    obtain ⟨kb_0, kb_1, kb_2⟩ := block3 kb
                    have kb_l := kb.lt
                    have HS := same_rat hx hy
                    rw [decide_eq_false G3.out] at HS
                    have HS := Lib.hid HS
                    have HC := Lib.hid (HS.out)
                    go_wp2_with fail
                    refine HC.out.mono ?_
                    rintro e W8 ⟨rfl, bq⟩
                    clear HC
                    have hx := hx.below bq
                    have hy := hy.below bq
                    have ka := ka.below bq
                    have kb := kb.below bq
                    have B := B.trans (bq.mono B.size)
                    clear bq
                    clear ka_0 ka_1 ka_2 ka_l kb_0 kb_1 kb_2 kb_l
                    obtain ⟨ka_0, ka_1, ka_2⟩ := block3 ka
                    have ka_l := ka.lt
                    obtain ⟨kb_0, kb_1, kb_2⟩ := block3 kb
                    have kb_l := kb.lt
                    go_wp2_with fail
                    go_ret
                    exact ⟨rfl, B⟩
              · have HQ := Lib.hid hQ
                clear hQ
                have HC := Lib.hid (quo_rat _ _ (x * y) y _ hp hy HY0.out)
                go_wp2_with fail
                refine HC.out.mono ?_
                rintro e W3 ⟨hk, bq⟩
                clear HC
                have hx := hx.below bq
                have hy := hy.below bq
                have hp := hp.below bq
                have ka := ka.below bq
                have kb := kb.below bq
                have kp := kp.below bq
                have B := B.trans (bq.mono B.size)
                clear bq
                clear ka_0 ka_1 ka_2 ka_l kb_0 kb_1 kb_2 kb_l
                obtain ⟨ka_0, ka_1, ka_2⟩ := block3 ka
                have ka_l := ka.lt
                obtain ⟨kb_0, kb_1, kb_2⟩ := block3 kb
                have kb_l := kb.lt
                obtain ⟨kp_0, kp_1, kp_2⟩ := block3 kp
                have kp_l := kp.lt
                obtain ⟨q, rfl, hq⟩ := hk.ok HQ.out
                rw [Rat.mul_div_cancel HY0.out] at hq
                obtain ⟨t4_, oa4, na4, ca4, ob4, nb4, cb4, rfl⟩ := RawN.form hq
                have b4 : Below W3.heap.size W3 (W3.alloc (.cells #[.bool t4_, .slice oa4 na4 ca4, .slice ob4 nb4 cb4] 25)) := (Below.refl _ _).alloc (Nat.le_refl _) _
                have kq := BlockAt.new W3 #[.bool t4_, .slice oa4 na4 ca4, .slice ob4 nb4 cb4] 25
                have hx := hx.below b4
                have hy := hy.below b4
                have hp := hp.below b4
                have hq := hq.below b4
                have ka := ka.below b4
                have kb := kb.below b4
                have kp := kp.below b4
                have B := B.trans (b4.mono B.size)
                clear b4
                have HC := Lib.hid (right_rat hp)
                go_wp2_with fail
                refine HC.out.mono ?_
                rintro e W4 ⟨rfl, bq⟩
                clear HC
                have hx := hx.below bq
                have hy := hy.below bq
                have hp := hp.below bq
                have hq := hq.below bq
                have ka := ka.below bq
                have kb := kb.below bq
                have kp := kp.below bq
                have kq := kq.below bq
                have B := B.trans (bq.mono B.size)
                clear bq
                clear ka_0 ka_1 ka_2 ka_l kb_0 kb_1 kb_2 kb_l kp_0 kp_1 kp_2 kp_l
                obtain ⟨ka_0, ka_1, ka_2⟩ := block3 ka
                have ka_l := ka.lt
                obtain ⟨kb_0, kb_1, kb_2⟩ := block3 kb
                have kb_l := kb.lt
                obtain ⟨kp_0, kp_1, kp_2⟩ := block3 kp
                have kp_l := kp.lt
                obtain ⟨kq_0, kq_1, kq_2⟩ := block3 kq
                have kq_l := kq.lt
                have HC := Lib.hid (same_eq hq hx)
                go_wp2_with fail
                refine HC.out.mono ?_
                rintro e W5 ⟨rfl, bq⟩
                clear HC
                have hx := hx.below bq
                have hy := hy.below bq
                have hp := hp.below bq
                have hq := hq.below bq
                have ka := ka.below bq
                have kb := kb.below bq
                have kp := kp.below bq
                have kq := kq.below bq
                have B := B.trans (bq.mono B.size)
                clear bq
                clear ka_0 ka_1 ka_2 ka_l kb_0 kb_1 kb_2 kb_l kp_0 kp_1 kp_2 kp_l kq_0 kq_1 kq_2 kq_l
                obtain ⟨ka_0, ka_1, ka_2⟩ := block3 ka
                have ka_l := ka.lt
                obtain ⟨kb_0, kb_1, kb_2⟩ := block3 kb
                have kb_l := kb.lt
                obtain ⟨kp_0, kp_1, kp_2⟩ := block3 kp
                have kp_l := kp.lt
                obtain ⟨kq_0, kq_1, kq_2⟩ := block3 kq
                have kq_l := kq.lt
                clear kp_0 kp_1 kp_2 kp_l kq_0 kq_1 kq_2 kq_l hp hq kp kq
                by_cases hO : OverC x y
                · have HO := Lib.hid hO
                  clear hO
                  have hov := HO.out
                  have HC := Lib.hid (cmp_rat _ _ x y _ hx hy)
                  go_wp2_with fail
                  refine HC.out.mono ?_
                  rintro e W6 ⟨hk, bq⟩
                  clear HC
                  have hx := hx.below bq
                  have hy := hy.below bq
                  have ka := ka.below bq
                  have kb := kb.below bq
                  have B := B.trans (bq.mono B.size)
                  clear bq
                  clear ka_0 ka_1 ka_2 ka_l kb_0 kb_1 kb_2 kb_l
                  obtain ⟨ka_0, ka_1, ka_2⟩ := block3 ka
                  have ka_l := ka.lt
                  obtain ⟨kb_0, kb_1, kb_2⟩ := block3 kb
                  have kb_l := kb.lt
                  obtain rfl := hk.over HO.out
                  have HC := Lib.hid (cmp_rat _ _ y x _ hy hx)
                  go_wp2_with fail
                  refine HC.out.mono ?_
                  rintro e W7 ⟨hk, bq⟩
                  clear HC
                  have hx := hx.below bq
                  have hy := hy.below bq
                  have ka := ka.below bq
                  have kb := kb.below bq
                  have B := B.trans (bq.mono B.size)
                  clear bq
                  clear ka_0 ka_1 ka_2 ka_l kb_0 kb_1 kb_2 kb_l
                  obtain ⟨ka_0, ka_1, ka_2⟩ := block3 ka
                  have ka_l := ka.lt
                  obtain ⟨kb_0, kb_1, kb_2⟩ := block3 kb
                  have kb_l := kb.lt
                  obtain rfl := hk.over (overC_comm HO.out)
                  clear hov
                  have HC := Lib.hid (aliveR W7)
                  go_wp2_with fail
                  refine HC.out.mono ?_
                  rintro e W8 ⟨rfl, bq⟩
                  clear HC
                  have hx := hx.below bq
                  have hy := hy.below bq
                  have ka := ka.below bq
                  have kb := kb.below bq
                  have B := B.trans (bq.mono B.size)
                  clear bq
                  clear ka_0 ka_1 ka_2 ka_l kb_0 kb_1 kb_2 kb_l
                  obtain ⟨ka_0, ka_1, ka_2⟩ := block3 ka
                  have ka_l := ka.lt
                  obtain ⟨kb_0, kb_1, kb_2⟩ := block3 kb
                  have kb_l := kb.lt
                  go_wp2_with fail
                  go_ret
                  exact ⟨rfl, B⟩
                · rcases sgn_ways x y with ⟨g1, g2, g3⟩ | ⟨g1, g2, g3⟩ | ⟨g1, g2, g3⟩
                  · have HO := Lib.hid hO
                    clear hO
                    have G1 := Lib.hid g1
                    have G2 := Lib.hid g2
                    have G3 := Lib.hid g3
                    clear g1 g2 g3
                    have HC := Lib.hid (cmp_rat _ _ x y _ hx hy)
                    go_wp2_with fail
                    refine HC.out.mono ?_
                    rintro e W6 ⟨hk, bq⟩
                    clear HC
                    have hx := hx.below bq
                    have hy := hy.below bq
                    have ka := ka.below bq
                    have kb := kb.below bq
                    have B := B.trans (bq.mono B.size)
                    clear bq
                    clear ka_0 ka_1 ka_2 ka_l kb_0 kb_1 kb_2 kb_l
                    obtain ⟨ka_0, ka_1, ka_2⟩ := block3 ka
                    have ka_l := ka.lt
                    obtain ⟨kb_0, kb_1, kb_2⟩ := block3 kb
                    have kb_l := kb.lt
                    have he := hk.ok HO.out
                    rw [G1.out] at he
                    obtain rfl := he
                    have HC := Lib.hid (cmp_rat _ _ y x _ hy hx)
                    go_wp2_with fail
                    refine HC.out.mono ?_
                    rintro e W7 ⟨hk, bq⟩
                    clear HC
                    have hx := hx.below bq
                    have hy := hy.below bq
                    have ka := ka.below bq
                    have kb := kb.below bq
                    have B := B.trans (bq.mono B.size)
                    clear bq
                    clear ka_0 ka_1 ka_2 ka_l kb_0 kb_1 kb_2 kb_l
                    obtain ⟨ka_0, ka_1, ka_2⟩ := block3 ka
                    have ka_l := ka.lt
                    obtain ⟨kb_0, kb_1, kb_2⟩ := block3 kb
                    have kb_l := kb.lt
                    have he := hk.ok (fun h => HO.out (overC_comm h))
                    rw [G2.out] at he
                    obtain rfl := he
                    have HC := Lib.hid (aliveR W7)
                    go_wp2_with fail
                    refine HC.out.mono ?_
                    rintro e W8 ⟨rfl, bq⟩
                    clear HC
                    have hx := hx.below bq
                    have hy := hy.below bq
                    have ka := ka.below bq
                    have kb := kb.below bq
                    have B := B.trans (bq.mono B.size)
                    clear bq
                    clear ka_0 ka_1 ka_2 ka_l kb_0 kb_1 kb_2 kb_l
                    obtain ⟨ka_0, ka_1, ka_2⟩ := block3 ka
                    have ka_l := ka.lt
                    obtain ⟨kb_0, kb_1, kb_2⟩ := block3 kb
                    have kb_l := kb.lt
                    have HS := same_rat hx hy
                    rw [decide_eq_false G3.out] at HS
                    have HS := Lib.hid HS
                    have HC := Lib.hid (HS.out)
                    go_wp2_with fail
                    refine HC.out.mono ?_
                    rintro e W9 ⟨rfl, bq⟩
                    clear HC
                    have hx := hx.below bq
                    have hy := hy.below bq
                    have ka := ka.below bq
                    have kb := kb.below bq
                    have B := B.trans (bq.mono B.size)
                    clear bq
                    clear ka_0 ka_1 ka_2 ka_l kb_0 kb_1 kb_2 kb_l
                    obtain ⟨ka_0, ka_1, ka_2⟩ := block3 ka
                    have ka_l := ka.lt
                    obtain ⟨kb_0, kb_1, kb_2⟩ := block3 kb
                    have kb_l := kb.lt
                    go_wp2_with fail
                    go_ret
                    exact ⟨rfl, B⟩
                  · have HO := Lib.hid hO
                    clear hO
                    have G1 := Lib.hid g1
                    have G2 := Lib.hid g2
                    have G3 := Lib.hid g3
                    clear g1 g2 g3
                    have HC := Lib.hid (cmp_rat _ _ x y _ hx hy)
                    go_wp2_with fail
                    refine HC.out.mono ?_
                    rintro e W6 ⟨hk, bq⟩
                    clear HC
                    have hx := hx.below bq
                    have hy := hy.below bq
                    have ka := ka.below bq
                    have kb := kb.below bq
                    have B := B.trans (bq.mono B.size)
                    clear bq
                    clear ka_0 ka_1 ka_2 ka_l kb_0 kb_1 kb_2 kb_l
                    obtain ⟨ka_0, ka_1, ka_2⟩ := block3 ka
                    have ka_l := ka.lt
                    obtain ⟨kb_0, kb_1, kb_2⟩ := block3 kb
                    have kb_l := kb.lt
                    have he := hk.ok HO.out
                    rw [G1.out] at he
                    obtain rfl := he
                    have HC := Lib.hid (cmp_rat _ _ y x _ hy hx)
                    go_wp2_with fail
                    refine HC.out.mono ?_
                    rintro e W7 ⟨hk, bq⟩
                    clear HC
                    have hx := hx.below bq
                    have hy := hy.below bq
                    have ka := ka.below bq
                    have kb := kb.below bq
                    have B := B.trans (bq.mono B.size)
                    clear bq
                    clear ka_0 ka_1 ka_2 ka_l kb_0 kb_1 kb_2 kb_l
                    obtain ⟨ka_0, ka_1, ka_2⟩ := block3 ka
                    have ka_l := ka.lt
                    obtain ⟨kb_0, kb_1, kb_2⟩ := block3 kb
                    have kb_l := kb.lt
                    have he := hk.ok (fun h => HO.out (overC_comm h))
                    rw [G2.out] at he
                    obtain rfl := he
                    have HC := Lib.hid (aliveR W7)
                    go_wp2_with fail
                    refine HC.out.mono ?_
                    rintro e W8 ⟨rfl, bq⟩
                    clear HC
                    have hx := hx.below bq
                    have hy := hy.below bq
                    have ka := ka.below bq
                    have kb := kb.below bq
                    have B := B.trans (bq.mono B.size)
                    clear bq
                    clear ka_0 ka_1 ka_2 ka_l kb_0 kb_1 kb_2 kb_l
                    obtain ⟨ka_0, ka_1, ka_2⟩ := block3 ka
                    have ka_l := ka.lt
                    obtain ⟨kb_0, kb_1, kb_2⟩ := block3 kb
                    have kb_l := kb.lt
                    have HS := same_rat hx hy
                    rw [decide_eq_true G3.out] at HS
                    have HS := Lib.hid HS
                    have HC := Lib.hid (HS.out)
                    go_wp2_with fail
                    refine HC.out.mono ?_
                    rintro e W9 ⟨rfl, bq⟩
                    clear HC
                    have hx := hx.below bq
                    have hy := hy.below bq
                    have ka := ka.below bq
                    have kb := kb.below bq
                    have B := B.trans (bq.mono B.size)
                    clear bq
                    clear ka_0 ka_1 ka_2 ka_l kb_0 kb_1 kb_2 kb_l
                    obtain ⟨ka_0, ka_1, ka_2⟩ := block3 ka
                    have ka_l := ka.lt
                    obtain ⟨kb_0, kb_1, kb_2⟩ := block3 kb
                    have kb_l := kb.lt
                    go_wp2_with fail
                    go_ret
                    exact ⟨rfl, B⟩
                  · have HO := Lib.hid hO
                    clear hO
                    have G1 := Lib.hid g1
                    have G2 := Lib.hid g2
                    have G3 := Lib.hid g3
                    clear g1 g2 g3
                    have HC := Lib.hid (cmp_rat _ _ x y _ hx hy)
                    go_wp2_with fail
                    refine HC.out.mono ?_
                    rintro e W6 ⟨hk, bq⟩
                    clear HC
                    have hx := hx.below bq
                    have hy := hy.below bq
                    have ka := ka.below bq
                    have kb := kb.below bq
                    have B := B.trans (bq.mono B.size)
                    clear bq
                    clear ka_0 ka_1 ka_2 ka_l kb_0 kb_1 kb_2 kb_l
                    obtain ⟨ka_0, ka_1, ka_2⟩ := block3 ka
                    have ka_l := ka.lt
                    obtain ⟨kb_0, kb_1, kb_2⟩ := block3 kb
                    have kb_l := kb.lt
                    have he := hk.ok HO.out
                    rw [G1.out] at he
                    obtain rfl := he
                    have HC := Lib.hid (cmp_rat _ _ y x _ hy hx)
                    go_wp2_with fail
                    refine HC.out.mono ?_
                    rintro e W7 ⟨hk, bq⟩
                    clear HC
                    have hx := hx.below bq
                    have hy := hy.below bq
                    have ka := ka.below bq
                    have kb := kb.below bq
                    have B := B.trans (bq.mono B.size)
                    clear bq
                    clear ka_0 ka_1 ka_2 ka_l kb_0 kb_1 kb_2 kb_l
                    obtain ⟨ka_0, ka_1, ka_2⟩ := block3 ka
                    have ka_l := ka.lt
                    obtain ⟨kb_0, kb_1, kb_2⟩ := block3 kb
                    have kb_l := kb.lt
                    have he := hk.ok (fun h => HO.out (overC_comm h))
                    rw [G2.out] at he
                    obtain rfl := he
                    have HC := Lib.hid (aliveR W7)
                    go_wp2_with fail
                    refine HC.out.mono ?_
                    rintro e W8 ⟨rfl, bq⟩
                    clear HC
                    have hx := hx.below bq
                    have hy := hy.below bq
                    have ka := ka.below bq
                    have kb := kb.below bq
                    have B := B.trans (bq.mono B.size)
                    clear bq
                    clear ka_0 ka_1 ka_2 ka_l kb_0 kb_1 kb_2 kb_l
                    obtain ⟨ka_0, ka_1, ka_2⟩ := block3 ka
                    have ka_l := ka.lt
                    obtain ⟨kb_0, kb_1, kb_2⟩ := block3 kb
                    have kb_l := kb.lt
                    have HS := same_rat hx hy
                    rw [decide_eq_false G3.out] at HS
                    have HS := Lib.hid HS
                    have HC := Lib.hid (HS.out)
                    go_wp2_with fail
                    refine HC.out.mono ?_
                    rintro e W9 ⟨rfl, bq⟩
                    clear HC
                    have hx := hx.below bq
                    have hy := hy.below bq
                    have ka := ka.below bq
                    have kb := kb.below bq
                    have B := B.trans (bq.mono B.size)
                    clear bq
                    clear ka_0 ka_1 ka_2 ka_l kb_0 kb_1 kb_2 kb_l
                    obtain ⟨ka_0, ka_1, ka_2⟩ := block3 ka
                    have ka_l := ka.lt
                    obtain ⟨kb_0, kb_1, kb_2⟩ := block3 kb
                    have kb_l := kb.lt
                    go_wp2_with fail
                    go_ret
                    exact ⟨rfl, B⟩
        · have HA := Lib.hid hA
          clear hA
          have HC := Lib.hid (add_rat _ _ x y _ hx hy)
          go_wp2_with fail
          refine HC.out.mono ?_
          rintro e W1 ⟨hk, bq⟩
          clear HC
          have hx := hx.below bq
          have hy := hy.below bq
          have ka := ka.below bq
          have kb := kb.below bq
          have B := B.trans (bq.mono B.size)
          clear bq
          clear ka_0 ka_1 ka_2 ka_l kb_0 kb_1 kb_2 kb_l
          obtain ⟨ka_0, ka_1, ka_2⟩ := block3 ka
          have ka_l := ka.lt
          obtain ⟨kb_0, kb_1, kb_2⟩ := block3 kb
          have kb_l := kb.lt
          obtain ⟨a, rfl, hs⟩ := hk.ok HA.out
          obtain ⟨t1_, oa1, na1, ca1, ob1, nb1, cb1, rfl⟩ := RawN.form hs
          have b4 : Below W1.heap.size W1 (W1.alloc (.cells #[.bool t1_, .slice oa1 na1 ca1, .slice ob1 nb1 cb1] 25)) := (Below.refl _ _).alloc (Nat.le_refl _) _
          have ks := BlockAt.new W1 #[.bool t1_, .slice oa1 na1 ca1, .slice ob1 nb1 cb1] 25
          have hx := hx.below b4
          have hy := hy.below b4
          have hs := hs.below b4
          have ka := ka.below b4
          have kb := kb.below b4
          have B := B.trans (b4.mono B.size)
          clear b4
          by_cases hU : OverA (x + y) y
          · have HU := Lib.hid hU
            clear hU
            have HC := Lib.hid (sub_rat _ _ (x + y) y _ hs hy)
            go_wp2_with fail
            refine HC.out.mono ?_
            rintro e W2 ⟨hk, bq⟩
            clear HC
            have hx := hx.below bq
            have hy := hy.below bq
            have hs := hs.below bq
            have ka := ka.below bq
            have kb := kb.below bq
            have ks := ks.below bq
            have B := B.trans (bq.mono B.size)
            clear bq
            clear ka_0 ka_1 ka_2 ka_l kb_0 kb_1 kb_2 kb_l
            obtain ⟨ka_0, ka_1, ka_2⟩ := block3 ka
            have ka_l := ka.lt
            obtain ⟨kb_0, kb_1, kb_2⟩ := block3 kb
            have kb_l := kb.lt
            obtain ⟨ks_0, ks_1, ks_2⟩ := block3 ks
            have ks_l := ks.lt
            obtain rfl := hk.over HU.out
            have b4 : Below W2.heap.size W2 (W2.alloc (.cells #[.bool false, .slice none 0 0, .slice none 0 0] 25)) := (Below.refl _ _).alloc (Nat.le_refl _) _
            have kx := BlockAt.new W2 #[.bool false, .slice none 0 0, .slice none 0 0] 25
            have hx := hx.below b4
            have hy := hy.below b4
            have hs := hs.below b4
            have ka := ka.below b4
            have kb := kb.below b4
            have ks := ks.below b4
            have B := B.trans (b4.mono B.size)
            clear b4
            have HC := Lib.hid (add_rat _ _ y x _ hy hx)
            go_wp2_with fail
            refine HC.out.mono ?_
            rintro e W3 ⟨hk, bq⟩
            clear HC
            have hx := hx.below bq
            have hy := hy.below bq
            have hs := hs.below bq
            have ka := ka.below bq
            have kb := kb.below bq
            have ks := ks.below bq
            have kx := kx.below bq
            have B := B.trans (bq.mono B.size)
            clear bq
            clear ka_0 ka_1 ka_2 ka_l kb_0 kb_1 kb_2 kb_l ks_0 ks_1 ks_2 ks_l
            obtain ⟨ka_0, ka_1, ka_2⟩ := block3 ka
            have ka_l := ka.lt
            obtain ⟨kb_0, kb_1, kb_2⟩ := block3 kb
            have kb_l := kb.lt
            obtain ⟨ks_0, ks_1, ks_2⟩ := block3 ks
            have ks_l := ks.lt
            obtain ⟨kx_0, kx_1, kx_2⟩ := block3 kx
            have kx_l := kx.lt
            obtain ⟨d, rfl, hd⟩ := hk.ok (fun h => HA.out (overA_comm h))
            rw [Rat.add_comm] at hd
            obtain ⟨t5_, oa5, na5, ca5, ob5, nb5, cb5, rfl⟩ := RawN.form hd
            have b4 : Below W3.heap.size W3 (W3.alloc (.cells #[.bool t5_, .slice oa5 na5 ca5, .slice ob5 nb5 cb5] 25)) := (Below.refl _ _).alloc (Nat.le_refl _) _
            have ky := BlockAt.new W3 #[.bool t5_, .slice oa5 na5 ca5, .slice ob5 nb5 cb5] 25
            have hx := hx.below b4
            have hy := hy.below b4
            have hs := hs.below b4
            have hd := hd.below b4
            have ka := ka.below b4
            have kb := kb.below b4
            have ks := ks.below b4
            have kx := kx.below b4
            have B := B.trans (b4.mono B.size)
            clear b4
            have HC := Lib.hid (right_rat hs)
            go_wp2_with fail
            refine HC.out.mono ?_
            rintro e W4 ⟨rfl, bq⟩
            clear HC
            have hx := hx.below bq
            have hy := hy.below bq
            have hs := hs.below bq
            have hd := hd.below bq
            have ka := ka.below bq
            have kb := kb.below bq
            have ks := ks.below bq
            have kx := kx.below bq
            have ky := ky.below bq
            have B := B.trans (bq.mono B.size)
            clear bq
            clear ka_0 ka_1 ka_2 ka_l kb_0 kb_1 kb_2 kb_l ks_0 ks_1 ks_2 ks_l kx_0 kx_1 kx_2 kx_l
            obtain ⟨ka_0, ka_1, ka_2⟩ := block3 ka
            have ka_l := ka.lt
            obtain ⟨kb_0, kb_1, kb_2⟩ := block3 kb
            have kb_l := kb.lt
            obtain ⟨ks_0, ks_1, ks_2⟩ := block3 ks
            have ks_l := ks.lt
            obtain ⟨kx_0, kx_1, kx_2⟩ := block3 kx
            have kx_l := kx.lt
            obtain ⟨ky_0, ky_1, ky_2⟩ := block3 ky
            have ky_l := ky.lt
            have HC := Lib.hid (same_eq hd hs)
            go_wp2_with fail
            refine HC.out.mono ?_
            rintro e W5 ⟨rfl, bq⟩
            clear HC
            have hx := hx.below bq
            have hy := hy.below bq
            have hs := hs.below bq
            have hd := hd.below bq
            have ka := ka.below bq
            have kb := kb.below bq
            have ks := ks.below bq
            have kx := kx.below bq
            have ky := ky.below bq
            have B := B.trans (bq.mono B.size)
            clear bq
            clear ka_0 ka_1 ka_2 ka_l kb_0 kb_1 kb_2 kb_l ks_0 ks_1 ks_2 ks_l kx_0 kx_1 kx_2 kx_l ky_0 ky_1 ky_2 ky_l
            obtain ⟨ka_0, ka_1, ka_2⟩ := block3 ka
            have ka_l := ka.lt
            obtain ⟨kb_0, kb_1, kb_2⟩ := block3 kb
            have kb_l := kb.lt
            obtain ⟨ks_0, ks_1, ks_2⟩ := block3 ks
            have ks_l := ks.lt
            obtain ⟨kx_0, kx_1, kx_2⟩ := block3 kx
            have kx_l := kx.lt
            obtain ⟨ky_0, ky_1, ky_2⟩ := block3 ky
            have ky_l := ky.lt
            clear ks_0 ks_1 ks_2 ks_l kx_0 kx_1 kx_2 kx_l ky_0 ky_1 ky_2 ky_l hs hd ks kx ky
            by_cases hM : OverM x y
            · have HM := Lib.hid hM
              clear hM
              have HC := Lib.hid (mul_rat _ _ x y _ hx hy)
              go_wp2_with fail
              refine HC.out.mono ?_
              rintro e W6 ⟨hk, bq⟩
              clear HC
              have hx := hx.below bq
              have hy := hy.below bq
              have ka := ka.below bq
              have kb := kb.below bq
              have B := B.trans (bq.mono B.size)
              clear bq
              clear ka_0 ka_1 ka_2 ka_l kb_0 kb_1 kb_2 kb_l
              obtain ⟨ka_0, ka_1, ka_2⟩ := block3 ka
              have ka_l := ka.lt
              obtain ⟨kb_0, kb_1, kb_2⟩ := block3 kb
              have kb_l := kb.lt
              obtain rfl := hk.over HM.out
              have b4 : Below W6.heap.size W6 (W6.alloc (.cells #[.bool false, .slice none 0 0, .slice none 0 0] 25)) := (Below.refl _ _).alloc (Nat.le_refl _) _
              have kp := BlockAt.new W6 #[.bool false, .slice none 0 0, .slice none 0 0] 25
              have hx := hx.below b4
              have hy := hy.below b4
              have ka := ka.below b4
              have kb := kb.below b4
              have B := B.trans (b4.mono B.size)
              clear b4
              clear kp
              by_cases hO : OverC x y
              · have HO := Lib.hid hO
                clear hO
                have hov := HO.out
                have HC := Lib.hid (cmp_rat _ _ x y _ hx hy)
                go_wp2_with fail
                refine HC.out.mono ?_
                rintro e W7 ⟨hk, bq⟩
                clear HC
                have hx := hx.below bq
                have hy := hy.below bq
                have ka := ka.below bq
                have kb := kb.below bq
                have B := B.trans (bq.mono B.size)
                clear bq
                clear ka_0 ka_1 ka_2 ka_l kb_0 kb_1 kb_2 kb_l
                obtain ⟨ka_0, ka_1, ka_2⟩ := block3 ka
                have ka_l := ka.lt
                obtain ⟨kb_0, kb_1, kb_2⟩ := block3 kb
                have kb_l := kb.lt
                obtain rfl := hk.over HO.out
                have HC := Lib.hid (cmp_rat _ _ y x _ hy hx)
                go_wp2_with fail
                refine HC.out.mono ?_
                rintro e W8 ⟨hk, bq⟩
                clear HC
                have hx := hx.below bq
                have hy := hy.below bq
                have ka := ka.below bq
                have kb := kb.below bq
                have B := B.trans (bq.mono B.size)
                clear bq
                clear ka_0 ka_1 ka_2 ka_l kb_0 kb_1 kb_2 kb_l
                obtain ⟨ka_0, ka_1, ka_2⟩ := block3 ka
                have ka_l := ka.lt
                obtain ⟨kb_0, kb_1, kb_2⟩ := block3 kb
                have kb_l := kb.lt
                obtain rfl := hk.over (overC_comm HO.out)
                clear hov
                have HC := Lib.hid (aliveR W8)
                go_wp2_with fail
                refine HC.out.mono ?_
                rintro e W9 ⟨rfl, bq⟩
                clear HC
                have hx := hx.below bq
                have hy := hy.below bq
                have ka := ka.below bq
                have kb := kb.below bq
                have B := B.trans (bq.mono B.size)
                clear bq
                clear ka_0 ka_1 ka_2 ka_l kb_0 kb_1 kb_2 kb_l
                obtain ⟨ka_0, ka_1, ka_2⟩ := block3 ka
                have ka_l := ka.lt
                obtain ⟨kb_0, kb_1, kb_2⟩ := block3 kb
                have kb_l := kb.lt
                go_wp2_with fail
                go_ret
                exact ⟨rfl, B⟩
              · rcases sgn_ways x y with ⟨g1, g2, g3⟩ | ⟨g1, g2, g3⟩ | ⟨g1, g2, g3⟩
                · have HO := Lib.hid hO
                  clear hO
                  have G1 := Lib.hid g1
                  have G2 := Lib.hid g2
                  have G3 := Lib.hid g3
                  clear g1 g2 g3
                  have HC := Lib.hid (cmp_rat _ _ x y _ hx hy)
                  go_wp2_with fail
                  refine HC.out.mono ?_
                  rintro e W7 ⟨hk, bq⟩
                  clear HC
                  have hx := hx.below bq
                  have hy := hy.below bq
                  have ka := ka.below bq
                  have kb := kb.below bq
                  have B := B.trans (bq.mono B.size)
                  clear bq
                  clear ka_0 ka_1 ka_2 ka_l kb_0 kb_1 kb_2 kb_l
                  obtain ⟨ka_0, ka_1, ka_2⟩ := block3 ka
                  have ka_l := ka.lt
                  obtain ⟨kb_0, kb_1, kb_2⟩ := block3 kb
                  have kb_l := kb.lt
                  have he := hk.ok HO.out
                  rw [G1.out] at he
                  obtain rfl := he
                  have HC := Lib.hid (cmp_rat _ _ y x _ hy hx)
                  go_wp2_with fail
                  refine HC.out.mono ?_
                  rintro e W8 ⟨hk, bq⟩
                  clear HC
                  have hx := hx.below bq
                  have hy := hy.below bq
                  have ka := ka.below bq
                  have kb := kb.below bq
                  have B := B.trans (bq.mono B.size)
                  clear bq
                  clear ka_0 ka_1 ka_2 ka_l kb_0 kb_1 kb_2 kb_l
                  obtain ⟨ka_0, ka_1, ka_2⟩ := block3 ka
                  have ka_l := ka.lt
                  obtain ⟨kb_0, kb_1, kb_2⟩ := block3 kb
                  have kb_l := kb.lt
                  have he := hk.ok (fun h => HO.out (overC_comm h))
                  rw [G2.out] at he
                  obtain rfl := he
                  have HC := Lib.hid (aliveR W8)
                  go_wp2_with fail
                  refine HC.out.mono ?_
                  rintro e W9 ⟨rfl, bq⟩
                  clear HC
                  have hx := hx.below bq
                  have hy := hy.below bq
                  have ka := ka.below bq
                  have kb := kb.below bq
                  have B := B.trans (bq.mono B.size)
                  clear bq
                  clear ka_0 ka_1 ka_2 ka_l kb_0 kb_1 kb_2 kb_l
                  obtain ⟨ka_0, ka_1, ka_2⟩ := block3 ka
                  have ka_l := ka.lt
                  obtain ⟨kb_0, kb_1, kb_2⟩ := block3 kb
                  have kb_l := kb.lt
                  have HS := same_rat hx hy
                  rw [decide_eq_false G3.out] at HS
                  have HS := Lib.hid HS
                  have HC := Lib.hid (HS.out)
                  go_wp2_with fail
                  refine HC.out.mono ?_
                  rintro e W10 ⟨rfl, bq⟩
                  clear HC
                  have hx := hx.below bq
                  have hy := hy.below bq
                  have ka := ka.below bq
                  have kb := kb.below bq
                  have B := B.trans (bq.mono B.size)
                  clear bq
                  clear ka_0 ka_1 ka_2 ka_l kb_0 kb_1 kb_2 kb_l
                  obtain ⟨ka_0, ka_1, ka_2⟩ := block3 ka
                  have ka_l := ka.lt
                  obtain ⟨kb_0, kb_1, kb_2⟩ := block3 kb
                  have kb_l := kb.lt
                  go_wp2_with fail
                  go_ret
                  exact ⟨rfl, B⟩
                · have HO := Lib.hid hO
                  clear hO
                  have G1 := Lib.hid g1
                  have G2 := Lib.hid g2
                  have G3 := Lib.hid g3
                  clear g1 g2 g3
                  have HC := Lib.hid (cmp_rat _ _ x y _ hx hy)
                  go_wp2_with fail
                  refine HC.out.mono ?_
                  rintro e W7 ⟨hk, bq⟩
                  clear HC
                  have hx := hx.below bq
                  have hy := hy.below bq
                  have ka := ka.below bq
                  have kb := kb.below bq
                  have B := B.trans (bq.mono B.size)
                  clear bq
                  clear ka_0 ka_1 ka_2 ka_l kb_0 kb_1 kb_2 kb_l
                  obtain ⟨ka_0, ka_1, ka_2⟩ := block3 ka
                  have ka_l := ka.lt
                  obtain ⟨kb_0, kb_1, kb_2⟩ := block3 kb
                  have kb_l := kb.lt
                  have he := hk.ok HO.out
                  rw [G1.out] at he
                  obtain rfl := he
                  have HC := Lib.hid (cmp_rat _ _ y x _ hy hx)
                  go_wp2_with fail
                  refine HC.out.mono ?_
                  rintro e W8 ⟨hk, bq⟩
                  clear HC
                  have hx := hx.below bq
                  have hy := hy.below bq
                  have ka := ka.below bq
                  have kb := kb.below bq
                  have B := B.trans (bq.mono B.size)
                  clear bq
                  clear ka_0 ka_1 ka_2 ka_l kb_0 kb_1 kb_2 kb_l
                  obtain ⟨ka_0, ka_1, ka_2⟩ := block3 ka
                  have ka_l := ka.lt
                  obtain ⟨kb_0, kb_1, kb_2⟩ := block3 kb
                  have kb_l := kb.lt
                  have he := hk.ok (fun h => HO.out (overC_comm h))
                  rw [G2.out] at he
                  obtain rfl := he
                  have HC := Lib.hid (aliveR W8)
                  go_wp2_with fail
                  refine HC.out.mono ?_
                  rintro e W9 ⟨rfl, bq⟩
                  clear HC
                  have hx := hx.below bq
                  have hy := hy.below bq
                  have ka := ka.below bq
                  have kb := kb.below bq
                  have B := B.trans (bq.mono B.size)
                  clear bq
                  clear ka_0 ka_1 ka_2 ka_l kb_0 kb_1 kb_2 kb_l
                  obtain ⟨ka_0, ka_1, ka_2⟩ := block3 ka
                  have ka_l := ka.lt
                  obtain ⟨kb_0, kb_1, kb_2⟩ := block3 kb
                  have kb_l := kb.lt
                  have HS := same_rat hx hy
                  rw [decide_eq_true G3.out] at HS
                  have HS := Lib.hid HS
                  have HC := Lib.hid (HS.out)
                  go_wp2_with fail
                  refine HC.out.mono ?_
                  rintro e W10 ⟨rfl, bq⟩
                  clear HC
                  have hx := hx.below bq
                  have hy := hy.below bq
                  have ka := ka.below bq
                  have kb := kb.below bq
                  have B := B.trans (bq.mono B.size)
                  clear bq
                  clear ka_0 ka_1 ka_2 ka_l kb_0 kb_1 kb_2 kb_l
                  obtain ⟨ka_0, ka_1, ka_2⟩ := block3 ka
                  have ka_l := ka.lt
                  obtain ⟨kb_0, kb_1, kb_2⟩ := block3 kb
                  have kb_l := kb.lt
                  go_wp2_with fail
                  go_ret
                  exact ⟨rfl, B⟩
                · have HO := Lib.hid hO
                  clear hO
                  have G1 := Lib.hid g1
                  have G2 := Lib.hid g2
                  have G3 := Lib.hid g3
                  clear g1 g2 g3
                  have HC := Lib.hid (cmp_rat _ _ x y _ hx hy)
                  go_wp2_with fail
                  refine HC.out.mono ?_
                  rintro e W7 ⟨hk, bq⟩
                  clear HC
                  have hx := hx.below bq
                  have hy := hy.below bq
                  have ka := ka.below bq
                  have kb := kb.below bq
                  have B := B.trans (bq.mono B.size)
                  clear bq
                  clear ka_0 ka_1 ka_2 ka_l kb_0 kb_1 kb_2 kb_l
                  obtain ⟨ka_0, ka_1, ka_2⟩ := block3 ka
                  have ka_l := ka.lt
                  obtain ⟨kb_0, kb_1, kb_2⟩ := block3 kb
                  have kb_l := kb.lt
                  have he := hk.ok HO.out
                  rw [G1.out] at he
                  obtain rfl := he
                  have HC := Lib.hid (cmp_rat _ _ y x _ hy hx)
                  go_wp2_with fail
                  refine HC.out.mono ?_
                  rintro e W8 ⟨hk, bq⟩
                  clear HC
                  have hx := hx.below bq
                  have hy := hy.below bq
                  have ka := ka.below bq
                  have kb := kb.below bq
                  have B := B.trans (bq.mono B.size)
                  clear bq
                  clear ka_0 ka_1 ka_2 ka_l kb_0 kb_1 kb_2 kb_l
                  obtain ⟨ka_0, ka_1, ka_2⟩ := block3 ka
                  have ka_l := ka.lt
                  obtain ⟨kb_0, kb_1, kb_2⟩ := block3 kb
                  have kb_l := kb.lt
                  have he := hk.ok (fun h => HO.out (overC_comm h))
                  rw [G2.out] at he
                  obtain rfl := he
                  have HC := Lib.hid (aliveR W8)
                  go_wp2_with fail
                  refine HC.out.mono ?_
                  rintro e W9 ⟨rfl, bq⟩
                  clear HC
                  have hx := hx.below bq
                  have hy := hy.below bq
                  have ka := ka.below bq
                  have kb := kb.below bq
                  have B := B.trans (bq.mono B.size)
                  clear bq
                  clear ka_0 ka_1 ka_2 ka_l kb_0 kb_1 kb_2 kb_l
                  obtain ⟨ka_0, ka_1, ka_2⟩ := block3 ka
                  have ka_l := ka.lt
                  obtain ⟨kb_0, kb_1, kb_2⟩ := block3 kb
                  have kb_l := kb.lt
                  have HS := same_rat hx hy
                  rw [decide_eq_false G3.out] at HS
                  have HS := Lib.hid HS
                  have HC := Lib.hid (HS.out)
                  go_wp2_with fail
                  refine HC.out.mono ?_
                  rintro e W10 ⟨rfl, bq⟩
                  clear HC
                  have hx := hx.below bq
                  have hy := hy.below bq
                  have ka := ka.below bq
                  have kb := kb.below bq
                  have B := B.trans (bq.mono B.size)
                  clear bq
                  clear ka_0 ka_1 ka_2 ka_l kb_0 kb_1 kb_2 kb_l
                  obtain ⟨ka_0, ka_1, ka_2⟩ := block3 ka
                  have ka_l := ka.lt
                  obtain ⟨kb_0, kb_1, kb_2⟩ := block3 kb
                  have kb_l := kb.lt
                  go_wp2_with fail
                  go_ret
                  exact ⟨rfl, B⟩
            · have HM := Lib.hid hM
              clear hM
              have HC := Lib.hid (mul_rat _ _ x y _ hx hy)
              go_wp2_with fail
              refine HC.out.mono ?_
              rintro e W6 ⟨hk, bq⟩
              clear HC
              have hx := hx.below bq
              have hy := hy.below bq
              have ka := ka.below bq
              have kb := kb.below bq
              have B := B.trans (bq.mono B.size)
              clear bq
              clear ka_0 ka_1 ka_2 ka_l kb_0 kb_1 kb_2 kb_l
              obtain ⟨ka_0, ka_1, ka_2⟩ := block3 ka
              have ka_l := ka.lt
              obtain ⟨kb_0, kb_1, kb_2⟩ := block3 kb
              have kb_l := kb.lt
              obtain ⟨p, rfl, hp⟩ := hk.ok HM.out
              obtain ⟨t3_, oa3, na3, ca3, ob3, nb3, cb3, rfl⟩ := RawN.form hp
              have b4 : Below W6.heap.size W6 (W6.alloc (.cells #[.bool t3_, .slice oa3 na3 ca3, .slice ob3 nb3 cb3] 25)) := (Below.refl _ _).alloc (Nat.le_refl _) _
              have kp := BlockAt.new W6 #[.bool t3_, .slice oa3 na3 ca3, .slice ob3 nb3 cb3] 25
              have hx := hx.below b4
              have hy := hy.below b4
              have hp := hp.below b4
              have ka := ka.below b4
              have kb := kb.below b4
              have B := B.trans (b4.mono B.size)
              clear b4
              rcases hyz with ⟨hm0, hy0⟩ | ⟨hm0, hy0⟩
              · clear hp kp
                by_cases hO : OverC x y
                · have HO := Lib.hid hO
                  clear hO
                  have hov := HO.out
                  have HC := Lib.hid (cmp_rat _ _ x y _ hx hy)
                  go_wp2_with fail
                  refine HC.out.mono ?_
                  rintro e W7 ⟨hk, bq⟩
                  clear HC
                  have hx := hx.below bq
                  have hy := hy.below bq
                  have ka := ka.below bq
                  have kb := kb.below bq
                  have B := B.trans (bq.mono B.size)
                  clear bq
                  clear ka_0 ka_1 ka_2 ka_l kb_0 kb_1 kb_2 kb_l
                  obtain ⟨ka_0, ka_1, ka_2⟩ := block3 ka
                  have ka_l := ka.lt
                  obtain ⟨kb_0, kb_1, kb_2⟩ := block3 kb
                  have kb_l := kb.lt
                  obtain rfl := hk.over HO.out
                  have HC := Lib.hid (cmp_rat _ _ y x _ hy hx)
                  go_wp2_with fail
                  refine HC.out.mono ?_
                  rintro e W8 ⟨hk, bq⟩
                  clear HC
                  have hx := hx.below bq
                  have hy := hy.below bq
                  have ka := ka.below bq
                  have kb := kb.below bq
                  have B := B.trans (bq.mono B.size)
                  clear bq
                  clear ka_0 ka_1 ka_2 ka_l kb_0 kb_1 kb_2 kb_l
                  obtain ⟨ka_0, ka_1, ka_2⟩ := block3 ka
                  have ka_l := ka.lt
                  obtain ⟨kb_0, kb_1, kb_2⟩ := block3 kb
                  have kb_l := kb.lt
                  obtain rfl := hk.over (overC_comm HO.out)
                  clear hov
                  have HC := Lib.hid (aliveR W8)
                  go_wp2_with fail
                  refine HC.out.mono ?_
                  rintro e W9 ⟨rfl, bq⟩
                  clear HC
                  have hx := hx.below bq
                  have hy := hy.below bq
                  have ka := ka.below bq
                  have kb := kb.below bq
                  have B := B.trans (bq.mono B.size)
                  clear bq
                  clear ka_0 ka_1 ka_2 ka_l kb_0 kb_1 kb_2 kb_l
                  obtain ⟨ka_0, ka_1, ka_2⟩ := block3 ka
                  have ka_l := ka.lt
                  obtain ⟨kb_0, kb_1, kb_2⟩ := block3 kb
                  have kb_l := kb.lt
                  go_wp2_with fail
                  go_ret
                  exact ⟨rfl, B⟩
                · rcases sgn_ways x y with ⟨g1, g2, g3⟩ | ⟨g1, g2, g3⟩ | ⟨g1, g2, g3⟩
                  · have HO := Lib.hid hO
                    clear hO
                    have G1 := Lib.hid g1
                    have G2 := Lib.hid g2
                    have G3 := Lib.hid g3
                    clear g1 g2 g3
                    have HC := Lib.hid (cmp_rat _ _ x y _ hx hy)
                    go_wp2_with fail
                    refine HC.out.mono ?_
                    rintro e W7 ⟨hk, bq⟩
                    clear HC
                    have hx := hx.below bq
                    have hy := hy.below bq
                    have ka := ka.below bq
                    have kb := kb.below bq
                    have B := B.trans (bq.mono B.size)
                    clear bq
                    clear ka_0 ka_1 ka_2 ka_l kb_0 kb_1 kb_2 kb_l
                    obtain ⟨ka_0, ka_1, ka_2⟩ := block3 ka
                    have ka_l := ka.lt
                    obtain ⟨kb_0, kb_1, kb_2⟩ := block3 kb
                    have kb_l := kb.lt
                    have he := hk.ok HO.out
                    rw [G1.out] at he
                    obtain rfl := he
                    have HC := Lib.hid (cmp_rat _ _ y x _ hy hx)
                    go_wp2_with fail
                    refine HC.out.mono ?_
                    rintro e W8 ⟨hk, bq⟩
                    clear HC
                    have hx := hx.below bq
                    have hy := hy.below bq
                    have ka := ka.below bq
                    have kb := kb.below bq
                    have B := B.trans (bq.mono B.size)
                    clear bq
                    clear ka_0 ka_1 ka_2 ka_l kb_0 kb_1 kb_2 kb_l
                    obtain ⟨ka_0, ka_1, ka_2⟩ := block3 ka
                    have ka_l := ka.lt
                    obtain ⟨kb_0, kb_1, kb_2⟩ := block3 kb
                    have kb_l := kb.lt
                    have he := hk.ok (fun h => HO.out (overC_comm h))
                    rw [G2.out] at he
                    obtain rfl := he
                    have HC := Lib.hid (aliveR W8)
                    go_wp2_with fail
                    refine HC.out.mono ?_
                    rintro e W9 ⟨rfl, bq⟩
                    clear HC
                    have hx := hx.below bq
                    have hy := hy.below bq
                    have ka := ka.below bq
                    have kb := kb.below bq
                    have B := B.trans (bq.mono B.size)
                    clear bq
                    clear ka_0 ka_1 ka_2 ka_l kb_0 kb_1 kb_2 kb_l
                    obtain ⟨ka_0, ka_1, ka_2⟩ := block3 ka
                    have ka_l := ka.lt
                    obtain ⟨kb_0, kb_1, kb_2⟩ := block3 kb
                    have kb_l := kb.lt
                    have HS := same_rat hx hy
                    rw [decide_eq_false G3.out] at HS
                    have HS := Lib.hid HS
                    have HC := Lib.hid (HS.out)
                    go_wp2_with fail
                    refine HC.out.mono ?_
                    rintro e W10 ⟨rfl, bq⟩
                    clear HC
                    have hx := hx.below bq
                    have hy := hy.below bq
                    have ka := ka.below bq
                    have kb := kb.below bq
                    have B := B.trans (bq.mono B.size)
                    clear bq
                    clear ka_0 ka_1 ka_2 ka_l kb_0 kb_1 kb_2 kb_l
                    obtain ⟨ka_0, ka_1, ka_2⟩ := block3 ka
                    have ka_l := ka.lt
                    obtain ⟨kb_0, kb_1, kb_2⟩ := block3 kb
                    have kb_l := kb.lt
                    go_wp2_with fail
                    go_ret
                    exact ⟨rfl, B⟩
                  · have HO := Lib.hid hO
                    clear hO
                    have G1 := Lib.hid g1
                    have G2 := Lib.hid g2
                    have G3 := Lib.hid g3
                    clear g1 g2 g3
                    have HC := Lib.hid (cmp_rat _ _ x y _ hx hy)
                    go_wp2_with fail
                    refine HC.out.mono ?_
                    rintro e W7 ⟨hk, bq⟩
                    clear HC
                    have hx := hx.below bq
                    have hy := hy.below bq
                    have ka := ka.below bq
                    have kb := kb.below bq
                    have B := B.trans (bq.mono B.size)
                    clear bq
                    clear ka_0 ka_1 ka_2 ka_l kb_0 kb_1 kb_2 kb_l
                    obtain ⟨ka_0, ka_1, ka_2⟩ := block3 ka
                    have ka_l := ka.lt
                    obtain ⟨kb_0, kb_1, kb_2⟩ := block3 kb
                    have kb_l := kb.lt
                    have he := hk.ok HO.out
                    rw [G1.out] at he
                    obtain rfl := he
                    have HC := Lib.hid (cmp_rat _ _ y x _ hy hx)
                    go_wp2_with fail
                    refine HC.out.mono ?_
                    rintro e W8 ⟨hk, bq⟩
                    clear HC
                    have hx := hx.below bq
                    have hy := hy.below bq
                    have ka := ka.below bq
                    have kb := kb.below bq
                    have B := B.trans (bq.mono B.size)
                    clear bq
                    clear ka_0 ka_1 ka_2 ka_l kb_0 kb_1 kb_2 kb_l
                    obtain ⟨ka_0, ka_1, ka_2⟩ := block3 ka
                    have ka_l := ka.lt
                    obtain ⟨kb_0, kb_1, kb_2⟩ := block3 kb
                    have kb_l := kb.lt
                    have he := hk.ok (fun h => HO.out (overC_comm h))
                    rw [G2.out] at he
                    obtain rfl := he
                    have HC := Lib.hid (aliveR W8)
                    go_wp2_with fail
                    refine HC.out.mono ?_
                    rintro e W9 ⟨rfl, bq⟩
                    clear HC
                    have hx := hx.below bq
                    have hy := hy.below bq
                    have ka := ka.below bq
                    have kb := kb.below bq
                    have B := B.trans (bq.mono B.size)
                    clear bq
                    clear ka_0 ka_1 ka_2 ka_l kb_0 kb_1 kb_2 kb_l
                    obtain ⟨ka_0, ka_1, ka_2⟩ := block3 ka
                    have ka_l := ka.lt
                    obtain ⟨kb_0, kb_1, kb_2⟩ := block3 kb
                    have kb_l := kb.lt
                    have HS := same_rat hx hy
                    rw [decide_eq_true G3.out] at HS
                    have HS := Lib.hid HS
                    have HC := Lib.hid (HS.out)
                    go_wp2_with fail
                    refine HC.out.mono ?_
                    rintro e W10 ⟨rfl, bq⟩
                    clear HC
                    have hx := hx.below bq
                    have hy := hy.below bq
                    have ka := ka.below bq
                    have kb := kb.below bq
                    have B := B.trans (bq.mono B.size)
                    clear bq
                    clear ka_0 ka_1 ka_2 ka_l kb_0 kb_1 kb_2 kb_l
                    obtain ⟨ka_0, ka_1, ka_2⟩ := block3 ka
                    have ka_l := ka.lt
                    obtain ⟨kb_0, kb_1, kb_2⟩ := block3 kb
                    have kb_l := kb.lt
                    go_wp2_with fail
                    go_ret
                    exact ⟨rfl, B⟩
                  · have HO := Lib.hid hO
                    clear hO
                    have G1 := Lib.hid g1
                    have G2 := Lib.hid g2
                    have G3 := Lib.hid g3
                    clear g1 g2 g3
                    have HC := Lib.hid (cmp_rat _ _ x y _ hx hy)
                    go_wp2_with fail
                    refine HC.out.mono ?_
                    rintro e W7 ⟨hk, bq⟩
                    clear HC
                    have hx := hx.below bq
                    have hy := hy.below bq
                    have ka := ka.below bq
                    have kb := kb.below bq
                    have B := B.trans (bq.mono B.size)
                    clear bq
                    clear ka_0 ka_1 ka_2 ka_l kb_0 kb_1 kb_2 kb_l
                    obtain ⟨ka_0, ka_1, ka_2⟩ := block3 ka
                    have ka_l := ka.lt
                    obtain ⟨kb_0, kb_1, kb_2⟩ := block3 kb
                    have kb_l := kb.lt
                    have he := hk.ok HO.out
                    rw [G1.out] at he
                    obtain rfl := he
                    have HC := Lib.hid (cmp_rat _ _ y x _ hy hx)
                    go_wp2_with fail
                    refine HC.out.mono ?_
                    rintro e W8 ⟨hk, bq⟩
                    clear HC
                    have hx := hx.below bq
                    have hy := hy.below bq
                    have ka := ka.below bq
                    have kb := kb.below bq
                    have B := B.trans (bq.mono B.size)
                    clear bq
                    clear ka_0 ka_1 ka_2 ka_l kb_0 kb_1 kb_2 kb_l
                    obtain ⟨ka_0, ka_1, ka_2⟩ := block3 ka
                    have ka_l := ka.lt
                    obtain ⟨kb_0, kb_1, kb_2⟩ := block3 kb
                    have kb_l := kb.lt
                    have he := hk.ok (fun h => HO.out (overC_comm h))
                    rw [G2.out] at he
                    obtain rfl := he
                    have HC := Lib.hid (aliveR W8)
                    go_wp2_with fail
                    refine HC.out.mono ?_
                    rintro e W9 ⟨rfl, bq⟩
                    clear HC
                    have hx := hx.below bq
                    have hy := hy.below bq
                    have ka := ka.below bq
                    have kb := kb.below bq
                    have B := B.trans (bq.mono B.size)
                    clear bq
                    clear ka_0 ka_1 ka_2 ka_l kb_0 kb_1 kb_2 kb_l
                    obtain ⟨ka_0, ka_1, ka_2⟩ := block3 ka
                    have ka_l := ka.lt
                    obtain ⟨kb_0, kb_1, kb_2⟩ := block3 kb
                    have kb_l := kb.lt
                    have HS := same_rat hx hy
                    rw [decide_eq_false G3.out] at HS
                    have HS := Lib.hid HS
                    have HC := Lib.hid (HS.out)
                    go_wp2_with fail
                    refine HC.out.mono ?_
                    rintro e W10 ⟨rfl, bq⟩
                    clear HC
                    have hx := hx.below bq
                    have hy := hy.below bq
                    have ka := ka.below bq
                    have kb := kb.below bq
                    have B := B.trans (bq.mono B.size)
                    clear bq
                    clear ka_0 ka_1 ka_2 ka_l kb_0 kb_1 kb_2 kb_l
                    obtain ⟨ka_0, ka_1, ka_2⟩ := block3 ka
                    have ka_l := ka.lt
                    obtain ⟨kb_0, kb_1, kb_2⟩ := block3 kb
                    have kb_l := kb.lt
                    go_wp2_with fail
                    go_ret
                    exact ⟨rfl, B⟩
              · have HY0 := Lib.hid hy0
                clear hy0
                by_cases hQ : OverQ (x * y) y
                · have HQ := Lib.hid hQ
                  clear hQ
                  have HC := Lib.hid (quo_rat _ _ (x * y) y _ hp hy HY0.out)
                  go_wp2_with fail
                  refine HC.out.mono ?_
                  rintro e W7 ⟨hk, bq⟩
                  clear HC
                  have hx := hx.below bq
                  have hy := hy.below bq
                  have hp := hp.below bq
                  have ka := ka.below bq
                  have kb := kb.below bq
                  have kp := kp.below bq
                  have B := B.trans (bq.mono B.size)
                  clear bq
                  clear ka_0 ka_1 ka_2 ka_l kb_0 kb_1 kb_2 kb_l
                  obtain ⟨ka_0, ka_1, ka_2⟩ := block3 ka
                  have ka_l := ka.lt
                  obtain ⟨kb_0, kb_1, kb_2⟩ := block3 kb
                  have kb_l := kb.lt
                  obtain ⟨kp_0, kp_1, kp_2⟩ := block3 kp
                  have kp_l := kp.lt
                  obtain rfl := hk.over HQ.out
                  have b4 : Below W7.heap.size W7 (W7.alloc (.cells #[.bool false, .slice none 0 0, .slice none 0 0] 25)) := (Below.refl _ _).alloc (Nat.le_refl _) _
                  have kq := BlockAt.new W7 #[.bool false, .slice none 0 0, .slice none 0 0] 25
                  have hx := hx.below b4
                  have hy := hy.below b4
                  have hp := hp.below b4
                  have ka := ka.below b4
                  have kb := kb.below b4
                  have kp := kp.below b4
                  have B := B.trans (b4.mono B.size)
                  clear b4
                  have HC := Lib.hid (right_rat hp)
                  go_wp2_with fail
                  refine HC.out.mono ?_
                  rintro e W8 ⟨rfl, bq⟩
                  clear HC
                  have hx := hx.below bq
                  have hy := hy.below bq
                  have hp := hp.below bq
                  have ka := ka.below bq
                  have kb := kb.below bq
                  have kp := kp.below bq
                  have kq := kq.below bq
                  have B := B.trans (bq.mono B.size)
                  clear bq
                  clear ka_0 ka_1 ka_2 ka_l kb_0 kb_1 kb_2 kb_l kp_0 kp_1 kp_2 kp_l
                  obtain ⟨ka_0, ka_1, ka_2⟩ := block3 ka
                  have ka_l := ka.lt
                  obtain ⟨kb_0, kb_1, kb_2⟩ := block3 kb
                  have kb_l := kb.lt
                  obtain ⟨kp_0, kp_1, kp_2⟩ := block3 kp
                  have kp_l := kp.lt
                  obtain ⟨kq_0, kq_1, kq_2⟩ := block3 kq
                  have kq_l := kq.lt
                  clear kp_0 kp_1 kp_2 kp_l kq_0 kq_1 kq_2 kq_l hp kp kq
                  by_cases hO : OverC x y
                  · have HO := Lib.hid hO
                    clear hO
                    have hov := HO.out
                    have HC := Lib.hid (cmp_rat _ _ x y _ hx hy)
                    go_wp2_with fail
                    refine HC.out.mono ?_
                    rintro e W9 ⟨hk, bq⟩
                    clear HC
                    have hx := hx.below bq
                    have hy := hy.below bq
                    have ka := ka.below bq
                    have kb := kb.below bq
                    have B := B.trans (bq.mono B.size)
                    clear bq
                    clear ka_0 ka_1 ka_2 ka_l kb_0 kb_1 kb_2 kb_l
                    obtain ⟨ka_0, ka_1, ka_2⟩ := block3 ka
                    have ka_l := ka.lt
                    obtain ⟨kb_0, kb_1, kb_2⟩ := block3 kb
                    have kb_l := kb.lt
                    obtain rfl := hk.over HO.out
                    have HC := Lib.hid (cmp_rat _ _ y x _ hy hx)
                    go_wp2_with fail
                    refine HC.out.mono ?_
                    rintro e W10 ⟨hk, bq⟩
                    clear HC
                    have hx := hx.below bq
                    have hy := hy.below bq
                    have ka := ka.below bq
                    have kb := kb.below bq
                    have B := B.trans (bq.mono B.size)
                    clear bq
                    clear ka_0 ka_1 ka_2 ka_l kb_0 kb_1 kb_2 kb_l
                    obtain ⟨ka_0, ka_1, ka_2⟩ := block3 ka
                    have ka_l := ka.lt
                    obtain ⟨kb_0, kb_1, kb_2⟩ := block3 kb
                    have kb_l := kb.lt
                    obtain rfl := hk.over (overC_comm HO.out)
                    clear hov
                    have HC := Lib.hid (aliveR W10)
                    go_wp2_with fail
                    refine HC.out.mono ?_
                    rintro e W11 ⟨rfl, bq⟩
                    clear HC
                    have hx := hx.below bq
                    have hy := hy.below bq
                    have ka := ka.below bq
                    have kb := kb.below bq
                    have B := B.trans (bq.mono B.size)
                    clear bq
                    clear ka_0 ka_1 ka_2 ka_l kb_0 kb_1 kb_2 kb_l
                    obtain ⟨ka_0, ka_1, ka_2⟩ := block3 ka
                    have ka_l := ka.lt
                    obtain ⟨kb_0, kb_1, kb_2⟩ := block3 kb
                    have kb_l := kb.lt
                    go_wp2_with fail
                    go_ret
                    exact ⟨rfl, B⟩
                  · rcases sgn_ways x y with ⟨g1, g2, g3⟩ | ⟨g1, g2, g3⟩ | ⟨g1, g2, g3⟩
                    · have HO := Lib.hid hO
                      clear hO
                      have G1 := Lib.hid g1
                      have G2 := Lib.hid g2
                      have G3 := Lib.hid g3
                      clear g1 g2 g3
                      have HC := Lib.hid (cmp_rat _ _ x y _ hx hy)
                      go_wp2_with fail
                      refine HC.out.mono ?_
                      rintro e W9 ⟨hk, bq⟩
                      clear HC
                      have hx := hx.below bq
                      have hy := hy.below bq
                      have ka := ka.below bq
                      have kb := kb.below bq
                      have B := B.trans (bq.mono B.size)
                      clear bq
                      clear ka_0 ka_1 ka_2 ka_l kb_0 kb_1 kb_2 kb_l
                      obtain ⟨ka_0, ka_1, ka_2⟩ := block3 ka
                      have ka_l := ka.lt
                      obtain ⟨kb_0, kb_1, kb_2⟩ := block3 kb
                      have kb_l := kb.lt
                      have he := hk.ok HO.out
                      rw [G1.out] at he
                      obtain rfl := he
                      have HC := Lib.hid (cmp_rat _ _ y x _ hy hx)
                      go_wp2_with fail
                      refine HC.out.mono ?_
                      rintro e W10 ⟨hk, bq⟩
                      clear HC
                      have hx := hx.below bq
                      have hy := hy.below bq
                      have ka := ka.below bq
                      have kb := kb.below bq
                      have B := B.trans (bq.mono B.size)
                      clear bq
                      clear ka_0 ka_1 ka_2 ka_l kb_0 kb_1 kb_2 kb_l
                      obtain ⟨ka_0, ka_1, ka_2⟩ := block3 ka
                      have ka_l := ka.lt
                      obtain ⟨kb_0, kb_1, kb_2⟩ := block3 kb
                      have kb_l := kb.lt
                      have he := hk.ok (fun h => HO.out (overC_comm h))
                      rw [G2.out] at he
                      obtain rfl := he
                      have HC := Lib.hid (aliveR W10)
                      go_wp2_with fail
                      refine HC.out.mono ?_
                      rintro e W11 ⟨rfl, bq⟩
                      clear HC
                      have hx := hx.below bq
                      have hy := hy.below bq
                      have ka := ka.below bq
                      have kb := kb.below bq
                      have B := B.trans (bq.mono B.size)
                      clear bq
                      clear ka_0 ka_1 ka_2 ka_l kb_0 kb_1 kb_2 kb_l
                      obtain ⟨ka_0, ka_1, ka_2⟩ := block3 ka
                      have ka_l := ka.lt
                      obtain ⟨kb_0, kb_1, kb_2⟩ := block3 kb
                      have kb_l := kb.lt
                      have HS := same_rat hx hy
                      rw [decide_eq_false G3.out] at HS
                      have HS := Lib.hid HS
                      have HC := Lib.hid (HS.out)
                      go_wp2_with fail
                      refine HC.out.mono ?_
                      rintro e W12 ⟨rfl, bq⟩
                      clear HC
                      have hx := hx.below bq
                      have hy := hy.below bq
                      have ka := ka.below bq
                      have kb := kb.below bq
                      have B := B.trans (bq.mono B.size)
                      clear bq
                      clear ka_0 ka_1 ka_2 ka_l kb_0 kb_1 kb_2 kb_l
                      obtain ⟨ka_0, ka_1, ka_2⟩ := block3 ka
                      have ka_l := ka.lt
                      obtain ⟨kb_0, kb_1, kb_2⟩ := block3 kb
                      have kb_l := kb.lt
                      go_wp2_with fail
                      go_ret
                      exact ⟨rfl, B⟩
                    · have HO := Lib.hid hO
                      clear hO
                      have G1 := Lib.hid g1
                      have G2 := Lib.hid g2
                      have G3 := Lib.hid g3
                      clear g1 g2 g3
                      have HC := Lib.hid (cmp_rat _ _ x y _ hx hy)
                      go_wp2_with fail
                      refine HC.out.mono ?_
                      rintro e W9 ⟨hk, bq⟩
                      clear HC
                      have hx := hx.below bq
                      have hy := hy.below bq
                      have ka := ka.below bq
                      have kb := kb.below bq
                      have B := B.trans (bq.mono B.size)
                      clear bq
                      clear ka_0 ka_1 ka_2 ka_l kb_0 kb_1 kb_2 kb_l
                      obtain ⟨ka_0, ka_1, ka_2⟩ := block3 ka
                      have ka_l := ka.lt
                      obtain ⟨kb_0, kb_1, kb_2⟩ := block3 kb
                      have kb_l := kb.lt
                      have he := hk.ok HO.out
                      rw [G1.out] at he
                      obtain rfl := he
                      have HC := Lib.hid (cmp_rat _ _ y x _ hy hx)
                      go_wp2_with fail
                      refine HC.out.mono ?_
                      rintro e W10 ⟨hk, bq⟩
                      clear HC
                      have hx := hx.below bq
                      have hy := hy.below bq
                      have ka := ka.below bq
                      have kb := kb.below bq
                      have B := B.trans (bq.mono B.size)
                      clear bq
                      clear ka_0 ka_1 ka_2 ka_l kb_0 kb_1 kb_2 kb_l
                      obtain ⟨ka_0, ka_1, ka_2⟩ := block3 ka
                      have ka_l := ka.lt
                      obtain ⟨kb_0, kb_1, kb_2⟩ := block3 kb
                      have kb_l := kb.lt
                      have he := hk.ok (fun h => HO.out (overC_comm h))
                      rw [G2.out] at he
                      obtain rfl := he
                      have HC := Lib.hid (aliveR W10)
                      go_wp2_with fail
                      refine HC.out.mono ?_
                      rintro e W11 ⟨rfl, bq⟩
                      clear HC
                      have hx := hx.below bq
                      have hy := hy.below bq
                      have ka := ka.below bq
                      have kb := kb.below bq
                      have B := B.trans (bq.mono B.size)
                      clear bq
                      clear ka_0 ka_1 ka_2 ka_l kb_0 kb_1 kb_2 kb_l
                      obtain ⟨ka_0, ka_1, ka_2⟩ := block3 ka
                      have ka_l := ka.lt
                      obtain ⟨kb_0, kb_1, kb_2⟩ := block3 kb
                      have kb_l := kb.lt
                      have HS := same_rat hx hy
                      rw [decide_eq_true G3.out] at HS
                      have HS := Lib.hid HS
                      have HC := Lib.hid (HS.out)
                      go_wp2_with fail
                      refine HC.out.mono ?_
                      rintro e W12 ⟨rfl, bq⟩
                      clear HC
                      have hx := hx.below bq
                      have hy := hy.below bq
                      have ka := ka.below bq
                      have kb := kb.below bq
                      have B := B.trans (bq.mono B.size)
                      clear bq
                      clear ka_0 ka_1 ka_2 ka_l kb_0 kb_1 kb_2 kb_l
                      obtain ⟨ka_0, ka_1, ka_2⟩ := block3 ka
                      have ka_l := ka.lt
                      obtain ⟨kb_0, kb_1, kb_2⟩ := block3 kb
                      have kb_l := kb.lt
                      go_wp2_with fail
                      go_ret
                      exact ⟨rfl, B⟩
                    · have HO := Lib.hid hO
                      clear hO
                      have G1 := Lib.hid g1
                      have G2 := Lib.hid g2
                      have G3 := Lib.hid g3
                      clear g1 g2 g3
                      have HC := Lib.hid (cmp_rat _ _ x y _ hx hy)
                      go_wp2_with fail
                      refine HC.out.mono ?_
                      rintro e W9 ⟨hk, bq⟩
                      clear HC
                      have hx := hx.below bq
                      have hy := hy.below bq
                      have ka := ka.below bq
                      have kb := kb.below bq
                      have B := B.trans (bq.mono B.size)
                      clear bq
                      clear ka_0 ka_1 ka_2 ka_l kb_0 kb_1 kb_2 kb_l
                      obtain ⟨ka_0, ka_1, ka_2⟩ := block3 ka
                      have ka_l := ka.lt
                      obtain ⟨kb_0, kb_1, kb_2⟩ := block3 kb
                      have kb_l := kb.lt
                      have he := hk.ok HO.out
                      rw [G1.out] at he
                      obtain rfl := he
                      have HC := Lib.hid (cmp_rat _ _ y x _ hy hx)
                      go_wp2_with fail
                      refine HC.out.mono ?_
                      rintro e W10 ⟨hk, bq⟩
                      clear HC
                      have hx := hx.below bq
                      have hy := hy.below bq
                      have ka := ka.below bq
                      have kb := kb.below bq
                      have B := B.trans (bq.mono B.size)
                      clear bq
                      clear ka_0 ka_1 ka_2 ka_l kb_0 kb_1 kb_2 kb_l
                      obtain ⟨ka_0, ka_1, ka_2⟩ := block3 ka
                      have ka_l := ka.lt
                      obtain ⟨kb_0, kb_1, kb_2⟩ := block3 kb
                      have kb_l := kb.lt
                      have he := hk.ok (fun h => HO.out (overC_comm h))
                      rw [G2.out] at he
                      obtain rfl := he
                      have HC := Lib.hid (aliveR W10)
                      go_wp2_with fail
                      refine HC.out.mono ?_
                      rintro e W11 ⟨rfl, bq⟩
                      clear HC
                      have hx := hx.below bq
                      have hy := hy.below bq
                      have ka := ka.below bq
                      have kb := kb.below bq
                      have B := B.trans (bq.mono B.size)
                      clear bq
                      clear ka_0 ka_1 ka_2 ka_l kb_0 kb_1 kb_2 kb_l
                      obtain ⟨ka_0, ka_1, ka_2⟩ := block3 ka
                      have ka_l := ka.lt
                      obtain ⟨kb_0, kb_1, kb_2⟩ := block3 kb
                      have kb_l := kb.lt
                      have HS := same_rat hx hy
                      rw [decide_eq_false G3.out] at HS
                      have HS := Lib.hid HS
                      have HC := Lib.hid (HS.out)
                      go_wp2_with fail
                      refine HC.out.mono ?_
                      rintro e W12 ⟨rfl, bq⟩
                      clear HC
                      have hx := hx.below bq
                      have hy := hy.below bq
                      have ka := ka.below bq
                      have kb := kb.below bq
                      have B := B.trans (bq.mono B.size)
                      clear bq
                      clear ka_0 ka_1 ka_2 ka_l kb_0 kb_1 kb_2 kb_l
                      obtain ⟨ka_0, ka_1, ka_2⟩ := block3 ka
                      have ka_l := ka.lt
                      obtain ⟨kb_0, kb_1, kb_2⟩ := block3 kb
                      have kb_l := kb.lt
                      go_wp2_with fail
                      go_ret
                      exact ⟨rfl, B⟩
                · have HQ := Lib.hid hQ
                  clear hQ
                  have HC := Lib.hid (quo_rat _ _ (x * y) y _ hp hy HY0.out)
                  go_wp2_with fail
                  refine HC.out.mono ?_
                  rintro e W7 ⟨hk, bq⟩
                  clear HC
                  have hx := hx.below bq
                  have hy := hy.below bq
                  have hp := hp.below bq
                  have ka := ka.below bq
                  have kb := kb.below bq
                  have kp := kp.below bq
                  have B := B.trans (bq.mono B.size)
                  clear bq
                  clear ka_0 ka_1 ka_2 ka_l kb_0 kb_1 kb_2 kb_l
                  obtain ⟨ka_0, ka_1, ka_2⟩ := block3 ka
                  have ka_l := ka.lt
                  obtain ⟨kb_0, kb_1, kb_2⟩ := block3 kb
                  have kb_l := kb.lt
                  obtain ⟨kp_0, kp_1, kp_2⟩ := block3 kp
                  have kp_l := kp.lt
                  obtain ⟨q, rfl, hq⟩ := hk.ok HQ.out
                  rw [Rat.mul_div_cancel HY0.out] at hq
                  obtain ⟨t4_, oa4, na4, ca4, ob4, nb4, cb4, rfl⟩ := RawN.form hq
                  have b4 : Below W7.heap.size W7 (W7.alloc (.cells #[.bool t4_, .slice oa4 na4 ca4, .slice ob4 nb4 cb4] 25)) := (Below.refl _ _).alloc (Nat.le_refl _) _
                  have kq := BlockAt.new W7 #[.bool t4_, .slice oa4 na4 ca4, .slice ob4 nb4 cb4] 25
                  have hx := hx.below b4
                  have hy := hy.below b4
                  have hp := hp.below b4
                  have hq := hq.below b4
                  have ka := ka.below b4
                  have kb := kb.below b4
                  have kp := kp.below b4
                  have B := B.trans (b4.mono B.size)
                  clear b4
                  have HC := Lib.hid (right_rat hp)
                  go_wp2_with fail
                  refine HC.out.mono ?_
                  rintro e W8 ⟨rfl, bq⟩
                  clear HC
                  have hx := hx.below bq
                  have hy := hy.below bq
                  have hp := hp.below bq
                  have hq := hq.below bq
                  have ka := ka.below bq
                  have kb := kb.below bq
                  have kp := kp.below bq
                  have kq := kq.below bq
                  have B := B.trans (bq.mono B.size)
                  clear bq
                  clear ka_0 ka_1 ka_2 ka_l kb_0 kb_1 kb_2 kb_l kp_0 kp_1 kp_2 kp_l
                  obtain ⟨ka_0, ka_1, ka_2⟩ := block3 ka
                  have ka_l := ka.lt
                  obtain ⟨kb_0, kb_1, kb_2⟩ := block3 kb
                  have kb_l := kb.lt
                  obtain ⟨kp_0, kp_1, kp_2⟩ := block3 kp
                  have kp_l := kp.lt
                  obtain ⟨kq_0, kq_1, kq_2⟩ := block3 kq
                  have kq_l := kq.lt
                  have HC := Lib.hid (same_eq hq hx)
                  go_wp2_with fail
                  refine HC.out.mono ?_
                  rintro e W9 ⟨rfl, bq⟩
                  clear HC
                  have hx := hx.below bq
                  have hy := hy.below bq
                  have hp := hp.below bq
                  have hq := hq.below bq
                  have ka := ka.below bq
                  have kb := kb.below bq
                  have kp := kp.below bq
                  have kq := kq.below bq
                  have B := B.trans (bq.mono B.size)
                  clear bq
                  clear ka_0 ka_1 ka_2 ka_l kb_0 kb_1 kb_2 kb_l kp_0 kp_1 kp_2 kp_l kq_0 kq_1 kq_2 kq_l
                  obtain ⟨ka_0, ka_1, ka_2⟩ := block3 ka
                  have ka_l := ka.lt
                  obtain ⟨kb_0, kb_1, kb_2⟩ := block3 kb
                  have kb_l := kb.lt
                  obtain ⟨kp_0, kp_1, kp_2⟩ := block3 kp
                  have kp_l := kp.lt
                  obtain ⟨kq_0, kq_1, kq_2⟩ := block3 kq
                  have kq_l := kq.lt
                  clear kp_0 kp_1 kp_2 kp_l kq_0 kq_1 kq_2 kq_l hp hq kp kq
                  by_cases hO : OverC x y
                  · have HO := Lib.hid hO
                    clear hO
                    have hov := HO.out
                    have HC := Lib.hid (cmp_rat _ _ x y _ hx hy)
                    go_wp2_with fail
                    refine HC.out.mono ?_
                    rintro e W10 ⟨hk, bq⟩
                    clear HC
                    have hx := hx.below bq
                    have hy := hy.below bq
                    have ka := ka.below bq
                    have kb := kb.below bq
                    have B := B.trans (bq.mono B.size)
                    clear bq
                    clear ka_0 ka_1 ka_2 ka_l kb_0 kb_1 kb_2 kb_l
                    obtain ⟨ka_0, ka_1, ka_2⟩ := block3 ka
                    have ka_l := ka.lt
                    obtain ⟨kb_0, kb_1, kb_2⟩ := block3 kb
                    have kb_l := kb.lt
                    obtain rfl := hk.over HO.out
                    have HC := Lib.hid (cmp_rat _ _ y x _ hy hx)
                    go_wp2_with fail
                    refine HC.out.mono ?_
                    rintro e W11 ⟨hk, bq⟩
                    clear HC
                    have hx := hx.below bq
                    have hy := hy.below bq
                    have ka := ka.below bq
                    have kb := kb.below bq
                    have B := B.trans (bq.mono B.size)
                    clear bq
                    clear ka_0 ka_1 ka_2 ka_l kb_0 kb_1 kb_2 kb_l
                    obtain ⟨ka_0, ka_1, ka_2⟩ := block3 ka
                    have ka_l := ka.lt
                    obtain ⟨kb_0, kb_1, kb_2⟩ := block3 kb
                    have kb_l := kb.lt
                    obtain rfl := hk.over (overC_comm HO.out)
                    clear hov
                    have HC := Lib.hid (aliveR W11)
                    go_wp2_with fail
                    refine HC.out.mono ?_
                    rintro e W12 ⟨rfl, bq⟩
                    clear HC
                    have hx := hx.below bq
                    have hy := hy.below bq
                    have ka := ka.below bq
                    have kb := kb.below bq
                    have B := B.trans (bq.mono B.size)
                    clear bq
                    clear ka_0 ka_1 ka_2 ka_l kb_0 kb_1 kb_2 kb_l
                    obtain ⟨ka_0, ka_1, ka_2⟩ := block3 ka
                    have ka_l := ka.lt
                    obtain ⟨kb_0, kb_1, kb_2⟩ := block3 kb
                    have kb_l := kb.lt
                    go_wp2_with fail
                    go_ret
                    exact ⟨rfl, B⟩
                  · rcases sgn_ways x y with ⟨g1, g2, g3⟩ | ⟨g1, g2, g3⟩ | ⟨g1, g2, g3⟩
                    · have HO := Lib.hid hO
                      clear hO
                      have G1 := Lib.hid g1
                      have G2 := Lib.hid g2
                      have G3 := Lib.hid g3
                      clear g1 g2 g3
                      have HC := Lib.hid (cmp_rat _ _ x y _ hx hy)
                      go_wp2_with fail
                      refine HC.out.mono ?_
                      rintro e W10 ⟨hk, bq⟩
                      clear HC
                      have hx := hx.below bq
                      have hy := hy.below bq
                      have ka := ka.below bq
                      have kb := kb.below bq
                      have B := B.trans (bq.mono B.size)
                      clear bq
                      clear ka_0 ka_1 ka_2 ka_l kb_0 kb_1 kb_2 kb_l
                      obtain ⟨ka_0, ka_1, ka_2⟩ := block3 ka
                      have ka_l := ka.lt
                      obtain ⟨kb_0, kb_1, kb_2⟩ := block3 kb
                      have kb_l := kb.lt
                      have he := hk.ok HO.out
                      rw [G1.out] at he
                      obtain rfl := he
                      have HC := Lib.hid (cmp_rat _ _ y x _ hy hx)
                      go_wp2_with fail
                      refine HC.out.mono ?_
                      rintro e W11 ⟨hk, bq⟩
                      clear HC
                      have hx := hx.below bq
                      have hy := hy.below bq
                      have ka := ka.below bq
                      have kb := kb.below bq
                      have B := B.trans (bq.mono B.size)
                      clear bq
                      clear ka_0 ka_1 ka_2 ka_l kb_0 kb_1 kb_2 kb_l
                      obtain ⟨ka_0, ka_1, ka_2⟩ := block3 ka
                      have ka_l := ka.lt
                      obtain ⟨kb_0, kb_1, kb_2⟩ := block3 kb
                      have kb_l := kb.lt
                      have he := hk.ok (fun h => HO.out (overC_comm h))
                      rw [G2.out] at he
                      obtain rfl := he
                      have HC := Lib.hid (aliveR W11)
                      go_wp2_with fail
                      refine HC.out.mono ?_
                      rintro e W12 ⟨rfl, bq⟩
                      clear HC
                      have hx := hx.below bq
                      have hy := hy.below bq
                      have ka := ka.below bq
                      have kb := kb.below bq
                      have B := B.trans (bq.mono B.size)
                      clear bq
                      clear ka_0 ka_1 ka_2 ka_l kb_0 kb_1 kb_2 kb_l
                      obtain ⟨ka_0, ka_1, ka_2⟩ := block3 ka
                      have ka_l := ka.lt
                      obtain ⟨kb_0, kb_1, kb_2⟩ := block3 kb
                      have kb_l := kb.lt
                      have HS := same_rat hx hy
                      rw [decide_eq_false G3.out] at HS
                      have HS := Lib.hid HS
                      have HC := Lib.hid (HS.out)
                      go_wp2_with fail
                      refine HC.out.mono ?_
                      rintro e W13 ⟨rfl, bq⟩
                      clear HC
                      have hx := hx.below bq
                      have hy := hy.below bq
                      have ka := ka.below bq
                      have kb := kb.below bq
                      have B := B.trans (bq.mono B.size)
                      clear bq
                      clear ka_0 ka_1 ka_2 ka_l kb_0 kb_1 kb_2 kb_l
                      obtain ⟨ka_0, ka_1, ka_2⟩ := block3 ka
                      have ka_l := ka.lt
                      obtain ⟨kb_0, kb_1, kb_2⟩ := block3 kb
                      have kb_l := kb.lt
                      go_wp2_with fail
                      go_ret
                      exact ⟨rfl, B⟩
                    · have HO := Lib.hid hO
                      clear hO
                      have G1 := Lib.hid g1
                      have G2 := Lib.hid g2
                      have G3 := Lib.hid g3
                      clear g1 g2 g3
                      have HC := Lib.hid (cmp_rat _ _ x y _ hx hy)
                      go_wp2_with fail
                      refine HC.out.mono ?_
                      rintro e W10 ⟨hk, bq⟩
                      clear HC
                      have hx := hx.below bq
                      have hy := hy.below bq
                      have ka := ka.below bq
                      have kb := kb.below bq
                      have B := B.trans (bq.mono B.size)
                      clear bq
                      clear ka_0 ka_1 ka_2 ka_l kb_0 kb_1 kb_2 kb_l
                      obtain ⟨ka_0, ka_1, ka_2⟩ := block3 ka
                      have ka_l := ka.lt
                      obtain ⟨kb_0, kb_1, kb_2⟩ := block3 kb
                      have kb_l := kb.lt
                      have he := hk.ok HO.out
                      rw [G1.out] at he
                      obtain rfl := he
                      have HC := Lib.hid (cmp_rat _ _ y x _ hy hx)
                      go_wp2_with fail
                      refine HC.out.mono ?_
                      rintro e W11 ⟨hk, bq⟩
                      clear HC
                      have hx := hx.below bq
                      have hy := hy.below bq
                      have ka := ka.below bq
                      have kb := kb.below bq
                      have B := B.trans (bq.mono B.size)
                      clear bq
                      clear ka_0 ka_1 ka_2 ka_l kb_0 kb_1 kb_2 kb_l
                      obtain ⟨ka_0, ka_1, ka_2⟩ := block3 ka
                      have ka_l := ka.lt
                      obtain ⟨kb_0, kb_1, kb_2⟩ := block3 kb
                      have kb_l := kb.lt
                      have he := hk.ok (fun h => HO.out (overC_comm h))
                      rw [G2.out] at he
                      obtain rfl := he
                      have HC := Lib.hid (aliveR W11)
                      go_wp2_with fail
                      refine HC.out.mono ?_
                      rintro e W12 ⟨rfl, bq⟩
                      clear HC
                      have hx := hx.below bq
                      have hy := hy.below bq
                      have ka := ka.below bq
                      have kb := kb.below bq
                      have B := B.trans (bq.mono B.size)
                      clear bq
                      clear ka_0 ka_1 ka_2 ka_l kb_0 kb_1 kb_2 kb_l
                      obtain ⟨ka_0, ka_1, ka_2⟩ := block3 ka
                      have ka_l := ka.lt
                      obtain ⟨kb_0, kb_1, kb_2⟩ := block3 kb
                      have kb_l := kb.lt
                      have HS := same_rat hx hy
                      rw [decide_eq_true G3.out] at HS
                      have HS := Lib.hid HS
                      have HC := Lib.hid (HS.out)
                      go_wp2_with fail
                      refine HC.out.mono ?_
                      rintro e W13 ⟨rfl, bq⟩
                      clear HC
                      have hx := hx.below bq
                      have hy := hy.below bq
                      have ka := ka.below bq
                      have kb := kb.below bq
                      have B := B.trans (bq.mono B.size)
                      clear bq
                      clear ka_0 ka_1 ka_2 ka_l kb_0 kb_1 kb_2 kb_l
                      obtain ⟨ka_0, ka_1, ka_2⟩ := block3 ka
                      have ka_l := ka.lt
                      obtain ⟨kb_0, kb_1, kb_2⟩ := block3 kb
                      have kb_l := kb.lt
                      go_wp2_with fail
                      go_ret
                      exact ⟨rfl, B⟩
                    · have HO := Lib.hid hO
                      clear hO
                      have G1 := Lib.hid g1
                      have G2 := Lib.hid g2
                      have G3 := Lib.hid g3
                      clear g1 g2 g3
                      have HC := Lib.hid (cmp_rat _ _ x y _ hx hy)
                      go_wp2_with fail
                      refine HC.out.mono ?_
                      rintro e W10 ⟨hk, bq⟩
                      clear HC
                      have hx := hx.below bq
                      have hy := hy.below bq
                      have ka := ka.below bq
                      have kb := kb.below bq
                      have B := B.trans (bq.mono B.size)
                      clear bq
                      clear ka_0 ka_1 ka_2 ka_l kb_0 kb_1 kb_2 kb_l
                      obtain ⟨ka_0, ka_1, ka_2⟩ := block3 ka
                      have ka_l := ka.lt
                      obtain ⟨kb_0, kb_1, kb_2⟩ := block3 kb
                      have kb_l := kb.lt
                      have he := hk.ok HO.out
                      rw [G1.out] at he
                      obtain rfl := he
                      have HC := Lib.hid (cmp_rat _ _ y x _ hy hx)
                      go_wp2_with fail
                      refine HC.out.mono ?_
                      rintro e W11 ⟨hk, bq⟩
                      clear HC
                      have hx := hx.below bq
                      have hy := hy.below bq
                      have ka := ka.below bq
                      have kb := kb.below bq
                      have B := B.trans (bq.mono B.size)
                      clear bq
                      clear ka_0 ka_1 ka_2 ka_l kb_0 kb_1 kb_2 kb_l
                      obtain ⟨ka_0, ka_1, ka_2⟩ := block3 ka
                      have ka_l := ka.lt
                      obtain ⟨kb_0, kb_1, kb_2⟩ := block3 kb
                      have kb_l := kb.lt
                      have he := hk.ok (fun h => HO.out (overC_comm h))
                      rw [G2.out] at he
                      obtain rfl := he
                      have HC := Lib.hid (aliveR W11)
                      go_wp2_with fail
                      refine HC.out.mono ?_
                      rintro e W12 ⟨rfl, bq⟩
                      clear HC
                      have hx := hx.below bq
                      have hy := hy.below bq
                      have ka := ka.below bq
                      have kb := kb.below bq
                      have B := B.trans (bq.mono B.size)
                      clear bq
                      clear ka_0 ka_1 ka_2 ka_l kb_0 kb_1 kb_2 kb_l
                      obtain ⟨ka_0, ka_1, ka_2⟩ := block3 ka
                      have ka_l := ka.lt
                      obtain ⟨kb_0, kb_1, kb_2⟩ := block3 kb
                      have kb_l := kb.lt
                      have HS := same_rat hx hy
                      rw [decide_eq_false G3.out] at HS
                      have HS := Lib.hid HS
                      have HC := Lib.hid (HS.out)
                      go_wp2_with fail
                      refine HC.out.mono ?_
                      rintro e W13 ⟨rfl, bq⟩
                      clear HC
                      have hx := hx.below bq
                      have hy := hy.below bq
                      have ka := ka.below bq
                      have kb := kb.below bq
                      have B := B.trans (bq.mono B.size)
                      clear bq
                      clear ka_0 ka_1 ka_2 ka_l kb_0 kb_1 kb_2 kb_l
                      obtain ⟨ka_0, ka_1, ka_2⟩ := block3 ka
                      have ka_l := ka.lt
                      obtain ⟨kb_0, kb_1, kb_2⟩ := block3 kb
                      have kb_l := kb.lt
                      go_wp2_with fail
                      go_ret
                      exact ⟨rfl, B⟩
          · have HU := Lib.hid hU
            clear hU
            have HC := Lib.hid (sub_rat _ _ (x + y) y _ hs hy)
            go_wp2_with fail
            refine HC.out.mono ?_
            rintro e W2 ⟨hk, bq⟩
            clear HC
            have hx := hx.below bq
            have hy := hy.below bq
            have hs := hs.below bq
            have ka := ka.below bq
            have kb := kb.below bq
            have ks := ks.below bq
            have B := B.trans (bq.mono B.size)
            clear bq
            clear ka_0 ka_1 ka_2 ka_l kb_0 kb_1 kb_2 kb_l
            obtain ⟨ka_0, ka_1, ka_2⟩ := block3 ka
            have ka_l := ka.lt
            obtain ⟨kb_0, kb_1, kb_2⟩ := block3 kb
            have kb_l := kb.lt
            obtain ⟨ks_0, ks_1, ks_2⟩ := block3 ks
            have ks_l := ks.lt
            obtain ⟨c, rfl, hc⟩ := hk.ok HU.out
            rw [Rat.add_sub_cancel] at hc
            obtain ⟨t2_, oa2, na2, ca2, ob2, nb2, cb2, rfl⟩ := RawN.form hc
            have b4 : Below W2.heap.size W2 (W2.alloc (.cells #[.bool t2_, .slice oa2 na2 ca2, .slice ob2 nb2 cb2] 25)) := (Below.refl _ _).alloc (Nat.le_refl _) _
            have kx := BlockAt.new W2 #[.bool t2_, .slice oa2 na2 ca2, .slice ob2 nb2 cb2] 25
            have hx := hx.below b4
            have hy := hy.below b4
            have hs := hs.below b4
            have hc := hc.below b4
            have ka := ka.below b4
            have kb := kb.below b4
            have ks := ks.below b4
            have B := B.trans (b4.mono B.size)
            clear b4
            have HC := Lib.hid (add_rat _ _ y x _ hy hx)
            go_wp2_with fail
            refine HC.out.mono ?_
            rintro e W3 ⟨hk, bq⟩
            clear HC
            have hx := hx.below bq
            have hy := hy.below bq
            have hs := hs.below bq
            have hc := hc.below bq
            have ka := ka.below bq
            have kb := kb.below bq
            have ks := ks.below bq
            have kx := kx.below bq
            have B := B.trans (bq.mono B.size)
            clear bq
            clear ka_0 ka_1 ka_2 ka_l kb_0 kb_1 kb_2 kb_l ks_0 ks_1 ks_2 ks_l
            obtain ⟨ka_0, ka_1, ka_2⟩ := block3 ka
            have ka_l := ka.lt
            obtain ⟨kb_0, kb_1, kb_2⟩ := block3 kb
            have kb_l := kb.lt
            obtain ⟨ks_0, ks_1, ks_2⟩ := block3 ks
            have ks_l := ks.lt
            obtain ⟨kx_0, kx_1, kx_2⟩ := block3 kx
            have kx_l := kx.lt
            obtain ⟨d, rfl, hd⟩ := hk.ok (fun h => HA.out (overA_comm h))
            rw [Rat.add_comm] at hd
            obtain ⟨t5_, oa5, na5, ca5, ob5, nb5, cb5, rfl⟩ := RawN.form hd
            have b4 : Below W3.heap.size W3 (W3.alloc (.cells #[.bool t5_, .slice oa5 na5 ca5, .slice ob5 nb5 cb5] 25)) := (Below.refl _ _).alloc (Nat.le_refl _) _
            have ky := BlockAt.new W3 #[.bool t5_, .slice oa5 na5 ca5, .slice ob5 nb5 cb5] 25
            have hx := hx.below b4
            have hy := hy.below b4
            have hs := hs.below b4
            have hc := hc.below b4
            have hd := hd.below b4
            have ka := ka.below b4
            have kb := kb.below b4
            have ks := ks.below b4
            have kx := kx.below b4
            have B := B.trans (b4.mono B.size)
            clear b4
            have HC := Lib.hid (right_rat hs)
            go_wp2_with fail
            refine HC.out.mono ?_
            rintro e W4 ⟨rfl, bq⟩
            clear HC
            have hx := hx.below bq
            have hy := hy.below bq
            have hs := hs.below bq
            have hc := hc.below bq
            have hd := hd.below bq
            have ka := ka.below bq
            have kb := kb.below bq
            have ks := ks.below bq
            have kx := kx.below bq
            have ky := ky.below bq
            have B := B.trans (bq.mono B.size)
            clear bq
            clear ka_0 ka_1 ka_2 ka_l kb_0 kb_1 kb_2 kb_l ks_0 ks_1 ks_2 ks_l kx_0 kx_1 kx_2 kx_l
            obtain ⟨ka_0, ka_1, ka_2⟩ := block3 ka
            have ka_l := ka.lt
            obtain ⟨kb_0, kb_1, kb_2⟩ := block3 kb
            have kb_l := kb.lt
            obtain ⟨ks_0, ks_1, ks_2⟩ := block3 ks
            have ks_l := ks.lt
            obtain ⟨kx_0, kx_1, kx_2⟩ := block3 kx
            have kx_l := kx.lt
            obtain ⟨ky_0, ky_1, ky_2⟩ := block3 ky
            have ky_l := ky.lt
            have HC := Lib.hid (same_eq hc hx)
            go_wp2_with fail
            refine HC.out.mono ?_
            rintro e W5 ⟨rfl, bq⟩
            clear HC
            have hx := hx.below bq
            have hy := hy.below bq
            have hs := hs.below bq
            have hc := hc.below bq
            have hd := hd.below bq
            have ka := ka.below bq
            have kb := kb.below bq
            have ks := ks.below bq
            have kx := kx.below bq
            have ky := ky.below bq
            have B := B.trans (bq.mono B.size)
            clear bq
            clear ka_0 ka_1 ka_2 ka_l kb_0 kb_1 kb_2 kb_l ks_0 ks_1 ks_2 ks_l kx_0 kx_1 kx_2 kx_l ky_0 ky_1 ky_2 ky_l
            obtain ⟨ka_0, ka_1, ka_2⟩ := block3 ka
            have ka_l := ka.lt
            obtain ⟨kb_0, kb_1, kb_2⟩ := block3 kb
            have kb_l := kb.lt
            obtain ⟨ks_0, ks_1, ks_2⟩ := block3 ks
            have ks_l := ks.lt
            obtain ⟨kx_0, kx_1, kx_2⟩ := block3 kx
            have kx_l := kx.lt
            obtain ⟨ky_0, ky_1, ky_2⟩ := block3 ky
            have ky_l := ky.lt
            have HC := Lib.hid (same_eq hd hs)
            go_wp2_with fail
            refine HC.out.mono ?_
            rintro e W6 ⟨rfl, bq⟩
            clear HC
            have hx := hx.below bq
            have hy := hy.below bq
            have hs := hs.below bq
            have hc := hc.below bq
            have hd := hd.below bq
            have ka := ka.below bq
            have kb := kb.below bq
            have ks := ks.below bq
            have kx := kx.below bq
            have ky := ky.below bq
            have B := B.trans (bq.mono B.size)
            clear bq
            clear ka_0 ka_1 ka_2 ka_l kb_0 kb_1 kb_2 kb_l ks_0 ks_1 ks_2 ks_l kx_0 kx_1 kx_2 kx_l ky_0 ky_1 ky_2 ky_l
            obtain ⟨ka_0, ka_1, ka_2⟩ := block3 ka
            have ka_l := ka.lt
            obtain ⟨kb_0, kb_1, kb_2⟩ := block3 kb
            have kb_l := kb.lt
            obtain ⟨ks_0, ks_1, ks_2⟩ := block3 ks
            have ks_l := ks.lt
            obtain ⟨kx_0, kx_1, kx_2⟩ := block3 kx
            have kx_l := kx.lt
            obtain ⟨ky_0, ky_1, ky_2⟩ := block3 ky
            have ky_l := ky.lt
            clear ks_0 ks_1 ks_2 ks_l kx_0 kx_1 kx_2 kx_l ky_0 ky_1 ky_2 ky_l hs hc hd ks kx ky
            by_cases hM : OverM x y
            · have HM := Lib.hid hM
              clear hM
              have HC := Lib.hid (mul_rat _ _ x y _ hx hy)
              go_wp2_with fail
              refine HC.out.mono ?_
              rintro e W7 ⟨hk, bq⟩
              clear HC
              have hx := hx.below bq
              have hy := hy.below bq
              have ka := ka.below bq
              have kb := kb.below bq
              have B := B.trans (bq.mono B.size)
              clear bq
              clear ka_0 ka_1 ka_2 ka_l kb_0 kb_1 kb_2 kb_l
              obtain ⟨ka_0, ka_1, ka_2⟩ := block3 ka
              have ka_l := ka.lt
              obtain ⟨kb_0, kb_1, kb_2⟩ := block3 kb
              have kb_l := kb.lt
              obtain rfl := hk.over HM.out
              have b4 : Below W7.heap.size W7 (W7.alloc (.cells #[.bool false, .slice none 0 0, .slice none 0 0] 25)) := (Below.refl _ _).alloc (Nat.le_refl _) _
              have kp := BlockAt.new W7 #[.bool false, .slice none 0 0, .slice none 0 0] 25
              have hx := hx.below b4
              have hy := hy.below b4
              have ka := ka.below b4
              have kb := kb.below b4
              have B := B.trans (b4.mono B.size)
              clear b4
              clear kp
              by_cases hO : OverC x y
              · have HO := Lib.hid hO
                clear hO
                have hov := HO.out
                have HC := Lib.hid (cmp_rat _ _ x y _ hx hy)
                go_wp2_with fail
                refine HC.out.mono ?_
                rintro e W8 ⟨hk, bq⟩
                clear HC
                have hx := hx.below bq
                have hy := hy.below bq
                have ka := ka.below bq
                have kb := kb.below bq
                have B := B.trans (bq.mono B.size)
                clear bq
                clear ka_0 ka_1 ka_2 ka_l kb_0 kb_1 kb_2 kb_l
                obtain ⟨ka_0, ka_1, ka_2⟩ := block3 ka
                have ka_l := ka.lt
                obtain ⟨kb_0, kb_1, kb_2⟩ := block3 kb
                have kb_l := kb.lt
                obtain rfl := hk.over HO.out
                have HC := Lib.hid (cmp_rat _ _ y x _ hy hx)
                go_wp2_with fail
                refine HC.out.mono ?_
                rintro e W9 ⟨hk, bq⟩
                clear HC
                have hx := hx.below bq
                have hy := hy.below bq
                have ka := ka.below bq
                have kb := kb.below bq
                have B := B.trans (bq.mono B.size)
                clear bq
                clear ka_0 ka_1 ka_2 ka_l kb_0 kb_1 kb_2 kb_l
                obtain ⟨ka_0, ka_1, ka_2⟩ := block3 ka
                have ka_l := ka.lt
                obtain ⟨kb_0, kb_1, kb_2⟩ := block3 kb
                have kb_l := kb.lt
                obtain rfl := hk.over (overC_comm HO.out)
                clear hov
                have HC := Lib.hid (aliveR W9)
                go_wp2_with fail
                refine HC.out.mono ?_
                rintro e W10 ⟨rfl, bq⟩
                clear HC
                have hx := hx.below bq
                have hy := hy.below bq
                have ka := ka.below bq
                have kb := kb.below bq
                have B := B.trans (bq.mono B.size)
                clear bq
                clear ka_0 ka_1 ka_2 ka_l kb_0 kb_1 kb_2 kb_l
                obtain ⟨ka_0, ka_1, ka_2⟩ := block3 ka
                have ka_l := ka.lt
                obtain ⟨kb_0, kb_1, kb_2⟩ := block3 kb
                have kb_l := kb.lt
                go_wp2_with fail
                go_ret
                exact ⟨rfl, B⟩
              · rcases sgn_ways x y with ⟨g1, g2, g3⟩ | ⟨g1, g2, g3⟩ | ⟨g1, g2, g3⟩
                · have HO := Lib.hid hO
                  clear hO
                  have G1 := Lib.hid g1
                  have G2 := Lib.hid g2
                  have G3 := Lib.hid g3
                  clear g1 g2 g3
                  have HC := Lib.hid (cmp_rat _ _ x y _ hx hy)
                  go_wp2_with fail
                  refine HC.out.mono ?_
                  rintro e W8 ⟨hk, bq⟩
                  clear HC
                  have hx := hx.below bq
                  have hy := hy.below bq
                  have ka := ka.below bq
                  have kb := kb.below bq
                  have B := B.trans (bq.mono B.size)
                  clear bq
                  clear ka_0 ka_1 ka_2 ka_l kb_0 kb_1 kb_2 kb_l
                  obtain ⟨ka_0, ka_1, ka_2⟩ := block3 ka
                  have ka_l := ka.lt
                  obtain ⟨kb_0, kb_1, kb_2⟩ := block3 kb
                  have kb_l := kb.lt
                  have he := hk.ok HO.out
                  rw [G1.out] at he
                  obtain rfl := he
                  have HC := Lib.hid (cmp_rat _ _ y x _ hy hx)
                  go_wp2_with fail
                  refine HC.out.mono ?_
                  rintro e W9 ⟨hk, bq⟩
                  clear HC
                  have hx := hx.below bq
                  have hy := hy.below bq
                  have ka := ka.below bq
                  have kb := kb.below bq
                  have B := B.trans (bq.mono B.size)
                  clear bq
                  clear ka_0 ka_1 ka_2 ka_l kb_0 kb_1 kb_2 kb_l
                  obtain ⟨ka_0, ka_1, ka_2⟩ := block3 ka
                  have ka_l := ka.lt
                  obtain ⟨kb_0, kb_1, kb_2⟩ := block3 kb
                  have kb_l := kb.lt
                  have he := hk.ok (fun h => HO.out (overC_comm h))
                  rw [G2.out] at he
                  obtain rfl := he
                  have HC := Lib.hid (aliveR W9)
                  go_wp2_with fail
                  refine HC.out.mono ?_
                  rintro e W10 ⟨rfl, bq⟩
                  clear HC
                  have hx := hx.below bq
                  have hy := hy.below bq
                  have ka := ka.below bq
                  have kb := kb.below bq
                  have B := B.trans (bq.mono B.size)
                  clear bq
                  clear ka_0 ka_1 ka_2 ka_l kb_0 kb_1 kb_2 kb_l
                  obtain ⟨ka_0, ka_1, ka_2⟩ := block3 ka
                  have ka_l := ka.lt
                  obtain ⟨kb_0, kb_1, kb_2⟩ := block3 kb
                  have kb_l := kb.lt
                  have HS := same_rat hx hy
                  rw [decide_eq_false G3.out] at HS
                  have HS := Lib.hid HS
                  have HC := Lib.hid (HS.out)
                  go_wp2_with fail
                  refine HC.out.mono ?_
                  rintro e W11 ⟨rfl, bq⟩
                  clear HC
                  have hx := hx.below bq
                  have hy := hy.below bq
                  have ka := ka.below bq
                  have kb := kb.below bq
                  have B := B.trans (bq.mono B.size)
                  clear bq
                  clear ka_0 ka_1 ka_2 ka_l kb_0 kb_1 kb_2 kb_l
                  obtain ⟨ka_0, ka_1, ka_2⟩ := block3 ka
                  have ka_l := ka.lt
                  obtain ⟨kb_0, kb_1, kb_2⟩ := block3 kb
                  have kb_l := kb.lt
                  go_wp2_with fail
                  go_ret
                  exact ⟨rfl, B⟩
                · have HO := Lib.hid hO
                  clear hO
                  have G1 := Lib.hid g1
                  have G2 := Lib.hid g2
                  have G3 := Lib.hid g3
                  clear g1 g2 g3
                  have HC := Lib.hid (cmp_rat _ _ x y _ hx hy)
                  go_wp2_with fail
                  refine HC.out.mono ?_
                  rintro e W8 ⟨hk, bq⟩
                  clear HC
                  have hx := hx.below bq
                  have hy := hy.below bq
                  have ka := ka.below bq
                  have kb := kb.below bq
                  have B := B.trans (bq.mono B.size)
                  clear bq
                  clear ka_0 ka_1 ka_2 ka_l kb_0 kb_1 kb_2 kb_l
                  obtain ⟨ka_0, ka_1, ka_2⟩ := block3 ka
                  have ka_l := ka.lt
                  obtain ⟨kb_0, kb_1, kb_2⟩ := block3 kb
                  have kb_l := kb.lt
                  have he := hk.ok HO.out
                  rw [G1.out] at he
                  obtain rfl := he
                  have HC := Lib.hid (cmp_rat _ _ y x _ hy hx)
                  go_wp2_with fail
                  refine HC.out.mono ?_
                  rintro e W9 ⟨hk, bq⟩
                  clear HC
                  have hx := hx.below bq
                  have hy := hy.below bq
                  have ka := ka.below bq
                  have kb := kb.below bq
                  have B := B.trans (bq.mono B.size)
                  clear bq
                  clear ka_0 ka_1 ka_2 ka_l kb_0 kb_1 kb_2 kb_l
                  obtain ⟨ka_0, ka_1, ka_2⟩ := block3 ka
                  have ka_l := ka.lt
                  obtain ⟨kb_0, kb_1, kb_2⟩ := block3 kb
                  have kb_l := kb.lt
                  have he := hk.ok (fun h => HO.out (overC_comm h))
                  rw [G2.out] at he
                  obtain rfl := he
                  have HC := Lib.hid (aliveR W9)
                  go_wp2_with fail
                  refine HC.out.mono ?_
                  rintro e W10 ⟨rfl, bq⟩
                  clear HC
                  have hx := hx.below bq
                  have hy := hy.below bq
                  have ka := ka.below bq
                  have kb := kb.below bq
                  have B := B.trans (bq.mono B.size)
                  clear bq
                  clear ka_0 ka_1 ka_2 ka_l kb_0 kb_1 kb_2 kb_l
                  obtain ⟨ka_0, ka_1, ka_2⟩ := block3 ka
                  have ka_l := ka.lt
                  obtain ⟨kb_0, kb_1, kb_2⟩ := block3 kb
                  have kb_l := kb.lt
                  have HS := same_rat hx hy
                  rw [decide_eq_true G3.out] at HS
                  have HS := Lib.hid HS
                  have HC := Lib.hid (HS.out)
                  go_wp2_with fail
                  refine HC.out.mono ?_
                  rintro e W11 ⟨rfl, bq⟩
                  clear HC
                  have hx := hx.below bq
                  have hy := hy.below bq
                  have ka := ka.below bq
                  have kb := kb.below bq
                  have B := B.trans (bq.mono B.size)
                  clear bq
                  clear ka_0 ka_1 ka_2 ka_l kb_0 kb_1 kb_2 kb_l
                  obtain ⟨ka_0, ka_1, ka_2⟩ := block3 ka
                  have ka_l := ka.lt
                  obtain ⟨kb_0, kb_1, kb_2⟩ := block3 kb
                  have kb_l := kb.lt
                  go_wp2_with fail
                  go_ret
                  exact ⟨rfl, B⟩
                · have HO := Lib.hid hO
                  clear hO
                  have G1 := Lib.hid g1
                  have G2 := Lib.hid g2
                  have G3 := Lib.hid g3
                  clear g1 g2 g3
                  have HC := Lib.hid (cmp_rat _ _ x y _ hx hy)
                  go_wp2_with fail
                  refine HC.out.mono ?_
                  rintro e W8 ⟨hk, bq⟩
                  clear HC
                  have hx := hx.below bq
                  have hy := hy.below bq
                  have ka := ka.below bq
                  have kb := kb.below bq
                  have B := B.trans (bq.mono B.size)
                  clear bq
                  clear ka_0 ka_1 ka_2 ka_l kb_0 kb_1 kb_2 kb_l
                  obtain ⟨ka_0, ka_1, ka_2⟩ := block3 ka
                  have ka_l := ka.lt
                  obtain ⟨kb_0, kb_1, kb_2⟩ := block3 kb
                  have kb_l := kb.lt
                  have he := hk.ok HO.out
                  rw [G1.out] at he
                  obtain rfl := he
                  have HC := Lib.hid (cmp_rat _ _ y x _ hy hx)
                  go_wp2_with fail
                  refine HC.out.mono ?_
                  rintro e W9 ⟨hk, bq⟩
                  clear HC
                  have hx := hx.below bq
                  have hy := hy.below bq
                  have ka := ka.below bq
                  have kb := kb.below bq
                  have B := B.trans (bq.mono B.size)
                  clear bq
                  clear ka_0 ka_1 ka_2 ka_l kb_0 kb_1 kb_2 kb_l
                  obtain ⟨ka_0, ka_1, ka_2⟩ := block3 ka
                  have ka_l := ka.lt
                  obtain ⟨kb_0, kb_1, kb_2⟩ := block3 kb
                  have kb_l := kb.lt
                  have he := hk.ok (fun h => HO.out (overC_comm h))
                  rw [G2.out] at he
                  obtain rfl := he
                  have HC := Lib.hid (aliveR W9)
                  go_wp2_with fail
                  refine HC.out.mono ?_
                  rintro e W10 ⟨rfl, bq⟩
                  clear HC
                  have hx := hx.below bq
                  have hy := hy.below bq
                  have ka := ka.below bq
                  have kb := kb.below bq
                  have B := B.trans (bq.mono B.size)
                  clear bq
                  clear ka_0 ka_1 ka_2 ka_l kb_0 kb_1 kb_2 kb_l
                  obtain ⟨ka_0, ka_1, ka_2⟩ := block3 ka
                  have ka_l := ka.lt
                  obtain ⟨kb_0, kb_1, kb_2⟩ := block3 kb
                  have kb_l := kb.lt
                  have HS := same_rat hx hy
                  rw [decide_eq_false G3.out] at HS
                  have HS := Lib.hid HS
                  have HC := Lib.hid (HS.out)
                  go_wp2_with fail
                  refine HC.out.mono ?_
                  rintro e W11 ⟨rfl, bq⟩
                  clear HC
                  have hx := hx.below bq
                  have hy := hy.below bq
                  have ka := ka.below bq
                  have kb := kb.below bq
                  have B := B.trans (bq.mono B.size)
                  clear bq
                  clear ka_0 ka_1 ka_2 ka_l kb_0 kb_1 kb_2 kb_l
                  obtain ⟨ka_0, ka_1, ka_2⟩ := block3 ka
                  have ka_l := ka.lt
                  obtain ⟨kb_0, kb_1, kb_2⟩ := block3 kb
                  have kb_l := kb.lt
                  go_wp2_with fail
                  go_ret
                  exact ⟨rfl, B⟩
            · have HM := Lib.hid hM
              clear hM
              have HC := Lib.hid (mul_rat _ _ x y _ hx hy)
              go_wp2_with fail
              refine HC.out.mono ?_
              rintro e W7 ⟨hk, bq⟩
              clear HC
              have hx := hx.below bq
              have hy := hy.below bq
              have ka := ka.below bq
              have kb := kb.below bq
              have B := B.trans (bq.mono B.size)
              clear bq
              clear ka_0 ka_1 ka_2 ka_l kb_0 kb_1 kb_2 kb_l
              obtain ⟨ka_0, ka_1, ka_2⟩ := block3 ka
              have ka_l := ka.lt
              obtain ⟨kb_0, kb_1, kb_2⟩ := block3 kb
              have kb_l := kb.lt
              obtain ⟨p, rfl, hp⟩ := hk.ok HM.out
              obtain ⟨t3_, oa3, na3, ca3, ob3, nb3, cb3, rfl⟩ := RawN.form hp
              have b4 : Below W7.heap.size W7 (W7.alloc (.cells #[.bool t3_, .slice oa3 na3 ca3, .slice ob3 nb3 cb3] 25)) := (Below.refl _ _).alloc (Nat.le_refl _) _
              have kp := BlockAt.new W7 #[.bool t3_, .slice oa3 na3 ca3, .slice ob3 nb3 cb3] 25
              have hx := hx.below b4
              have hy := hy.below b4
              have hp := hp.below b4
              have ka := ka.below b4
              have kb := kb.below b4
              have B := B.trans (b4.mono B.size)
              clear b4
              rcases hyz with ⟨hm0, hy0⟩ | ⟨hm0, hy0⟩
              · clear hp kp
                by_cases hO : OverC x y
                · have HO := Lib.hid hO
                  clear hO
                  have hov := HO.out
                  have HC := Lib.hid (cmp_rat _ _ x y _ hx hy)
                  go_wp2_with fail
                  refine HC.out.mono ?_
                  rintro e W8 ⟨hk, bq⟩
                  clear HC
                  have hx := hx.below bq
                  have hy := hy.below bq
                  have ka := ka.below bq
                  have kb := kb.below bq
                  have B := B.trans (bq.mono B.size)
                  clear bq
                  clear ka_0 ka_1 ka_2 ka_l kb_0 kb_1 kb_2 kb_l
                  obtain ⟨ka_0, ka_1, ka_2⟩ := block3 ka
                  have ka_l := ka.lt
                  obtain ⟨kb_0, kb_1, kb_2⟩ := block3 kb
                  have kb_l := kb.lt
                  obtain rfl := hk.over HO.out
                  have HC := Lib.hid (cmp_rat _ _ y x _ hy hx)
                  go_wp2_with fail
                  refine HC.out.mono ?_
                  rintro e W9 ⟨hk, bq⟩
                  clear HC
                  have hx := hx.below bq
                  have hy := hy.below bq
                  have ka := ka.below bq
                  have kb := kb.below bq
                  have B := B.trans (bq.mono B.size)
                  clear bq
                  clear ka_0 ka_1 ka_2 ka_l kb_0 kb_1 kb_2 kb_l
                  obtain ⟨ka_0, ka_1, ka_2⟩ := block3 ka
                  have ka_l := ka.lt
                  obtain ⟨kb_0, kb_1, kb_2⟩ := block3 kb
                  have kb_l := kb.lt
                  obtain rfl := hk.over (overC_comm HO.out)
                  clear hov
                  have HC := Lib.hid (aliveR W9)
                  go_wp2_with fail
                  refine HC.out.mono ?_
                  rintro e W10 ⟨rfl, bq⟩
                  clear HC
                  have hx := hx.below bq
                  have hy := hy.below bq
                  have ka := ka.below bq
                  have kb := kb.below bq
                  have B := B.trans (bq.mono B.size)
                  clear bq
                  clear ka_0 ka_1 ka_2 ka_l kb_0 kb_1 kb_2 kb_l
                  obtain ⟨ka_0, ka_1, ka_2⟩ := block3 ka
                  have ka_l := ka.lt
                  obtain ⟨kb_0, kb_1, kb_2⟩ := block3 kb
                  have kb_l := kb.lt
                  go_wp2_with fail
                  go_ret
                  exact ⟨rfl, B⟩
                · rcases sgn_ways x y with ⟨g1, g2, g3⟩ | ⟨g1, g2, g3⟩ | ⟨g1, g2, g3⟩
                  · have HO := Lib.hid hO
                    clear hO
                    have G1 := Lib.hid g1
                    have G2 := Lib.hid g2
                    have G3 := Lib.hid g3
                    clear g1 g2 g3
                    have HC := Lib.hid (cmp_rat _ _ x y _ hx hy)
                    go_wp2_with fail
                    refine HC.out.mono ?_
                    rintro e W8 ⟨hk, bq⟩
                    clear HC
                    have hx := hx.below bq
                    have hy := hy.below bq
                    have ka := ka.below bq
                    have kb := kb.below bq
                    have B := B.trans (bq.mono B.size)
                    clear bq
                    clear ka_0 ka_1 ka_2 ka_l kb_0 kb_1 kb_2 kb_l
                    obtain ⟨ka_0, ka_1, ka_2⟩ := block3 ka
                    have ka_l := ka.lt
                    obtain ⟨kb_0, kb_1, kb_2⟩ := block3 kb
                    have kb_l := kb.lt
                    have he := hk.ok HO.out
                    rw [G1.out] at he
                    obtain rfl := he
                    have HC := Lib.hid (cmp_rat _ _ y x _ hy hx)
                    go_wp2_with fail
                    refine HC.out.mono ?_
                    rintro e W9 ⟨hk, bq⟩
                    clear HC
                    have hx := hx.below bq
                    have hy := hy.below bq
                    have ka := ka.below bq
                    have kb := kb.below bq
                    have B := B.trans (bq.mono B.size)
                    clear bq
                    clear ka_0 ka_1 ka_2 ka_l kb_0 kb_1 kb_2 kb_l
                    obtain ⟨ka_0, ka_1, ka_2⟩ := block3 ka
                    have ka_l := ka.lt
                    obtain ⟨kb_0, kb_1, kb_2⟩ := block3 kb
                    have kb_l := kb.lt
                    have he := hk.ok (fun h => HO.out (overC_comm h))
                    rw [G2.out] at he
                    obtain rfl := he
                    have HC := Lib.hid (aliveR W9)
                    go_wp2_with fail
                    refine HC.out.mono ?_
                    rintro e W10 ⟨rfl, bq⟩
                    clear HC
                    have hx := hx.below bq
                    have hy := hy.below bq
                    have ka := ka.below bq
                    have kb := kb.below bq
                    have B := B.trans (bq.mono B.size)
                    clear bq
                    clear ka_0 ka_1 ka_2 ka_l kb_0 kb_1 kb_2 kb_l
                    obtain ⟨ka_0, ka_1, ka_2⟩ := block3 ka
                    have ka_l := ka.lt
                    obtain ⟨kb_0, kb_1, kb_2⟩ := block3 kb
                    have kb_l := kb.lt
                    have HS := same_rat hx hy
                    rw [decide_eq_false G3.out] at HS
                    have HS := Lib.hid HS
                    have HC := Lib.hid (HS.out)
                    go_wp2_with fail
                    refine HC.out.mono ?_
                    rintro e W11 ⟨rfl, bq⟩
                    clear HC
                    have hx := hx.below bq
                    have hy := hy.below bq
                    have ka := ka.below bq
                    have kb := kb.below bq
                    have B := B.trans (bq.mono B.size)
                    clear bq
                    clear ka_0 ka_1 ka_2 ka_l kb_0 kb_1 kb_2 kb_l
                    obtain ⟨ka_0, ka_1, ka_2⟩ := block3 ka
                    have ka_l := ka.lt
                    obtain ⟨kb_0, kb_1, kb_2⟩ := block3 kb
                    have kb_l := kb.lt
                    go_wp2_with fail
                    go_ret
                    exact ⟨rfl, B⟩
                  · have HO := Lib.hid hO
                    clear hO
                    have G1 := Lib.hid g1
                    have G2 := Lib.hid g2
                    have G3 := Lib.hid g3
                    clear g1 g2 g3
                    have HC := Lib.hid (cmp_rat _ _ x y _ hx hy)
                    go_wp2_with fail
                    refine HC.out.mono ?_
                    rintro e W8 ⟨hk, bq⟩
                    clear HC
                    have hx := hx.below bq
                    have hy := hy.below bq
                    have ka := ka.below bq
                    have kb := kb.below bq
                    have B := B.trans (bq.mono B.size)
                    clear bq
                    clear ka_0 ka_1 ka_2 ka_l kb_0 kb_1 kb_2 kb_l
                    obtain ⟨ka_0, ka_1, ka_2⟩ := block3 ka
                    have ka_l := ka.lt
                    obtain ⟨kb_0, kb_1, kb_2⟩ := block3 kb
                    have kb_l := kb.lt
                    have he := hk.ok HO.out
                    rw [G1.out] at he
                    obtain rfl := he
                    have HC := Lib.hid (cmp_rat _ _ y x _ hy hx)
                    go_wp2_with fail
                    refine HC.out.mono ?_
                    rintro e W9 ⟨hk, bq⟩
                    clear HC
                    have hx := hx.below bq
                    have hy := hy.below bq
                    have ka := ka.below bq
                    have kb := kb.below bq
                    have B := B.trans (bq.mono B.size)
                    clear bq
                    clear ka_0 ka_1 ka_2 ka_l kb_0 kb_1 kb_2 kb_l
                    obtain ⟨ka_0, ka_1, ka_2⟩ := block3 ka
                    have ka_l := ka.lt
                    obtain ⟨kb_0, kb_1, kb_2⟩ := block3 kb
                    have kb_l := kb.lt
                    have he := hk.ok (fun h => HO.out (overC_comm h))
                    rw [G2.out] at he
                    obtain rfl := he
                    have HC := Lib.hid (aliveR W9)
                    go_wp2_with fail
                    refine HC.out.mono ?_
                    rintro e W10 ⟨rfl, bq⟩
                    clear HC
                    have hx := hx.below bq
                    have hy := hy.below bq
                    have ka := ka.below bq
                    have kb := kb.below bq
                    have B := B.trans (bq.mono B.size)
                    clear bq
                    clear ka_0 ka_1 ka_2 ka_l kb_0 kb_1 kb_2 kb_l
                    obtain ⟨ka_0, ka_1, ka_2⟩ := block3 ka
                    have ka_l := ka.lt
                    obtain ⟨kb_0, kb_1, kb_2⟩ := block3 kb
                    have kb_l := kb.lt
                    have HS := same_rat hx hy
                    rw [decide_eq_true G3.out] at HS
                    have HS := Lib.hid HS
                    have HC := Lib.hid (HS.out)
                    go_wp2_with fail
                    refine HC.out.mono ?_
                    rintro e W11 ⟨rfl, bq⟩
                    clear HC
                    have hx := hx.below bq
                    have hy := hy.below bq
                    have ka := ka.below bq
                    have kb := kb.below bq
                    have B := B.trans (bq.mono B.size)
                    clear bq
                    clear ka_0 ka_1 ka_2 ka_l kb_0 kb_1 kb_2 kb_l
                    obtain ⟨ka_0, ka_1, ka_2⟩ := block3 ka
                    have ka_l := ka.lt
                    obtain ⟨kb_0, kb_1, kb_2⟩ := block3 kb
                    have kb_l := kb.lt
                    go_wp2_with fail
                    go_ret
                    exact ⟨rfl, B⟩
                  · have HO := Lib.hid hO
                    clear hO
                    have G1 := Lib.hid g1
                    have G2 := Lib.hid g2
                    have G3 := Lib.hid g3
                    clear g1 g2 g3
                    have HC := Lib.hid (cmp_rat _ _ x y _ hx hy)
                    go_wp2_with fail
                    refine HC.out.mono ?_
                    rintro e W8 ⟨hk, bq⟩
                    clear HC
                    have hx := hx.below bq
                    have hy := hy.below bq
                    have ka := ka.below bq
                    have kb := kb.below bq
                    have B := B.trans (bq.mono B.size)
                    clear bq
                    clear ka_0 ka_1 ka_2 ka_l kb_0 kb_1 kb_2 kb_l
                    obtain ⟨ka_0, ka_1, ka_2⟩ := block3 ka
                    have ka_l := ka.lt
                    obtain ⟨kb_0, kb_1, kb_2⟩ := block3 kb
                    have kb_l := kb.lt
                    have he := hk.ok HO.out
                    rw [G1.out] at he
                    obtain rfl := he
                    have HC := Lib.hid (cmp_rat _ _ y x _ hy hx)
                    go_wp2_with fail
                    refine HC.out.mono ?_
                    rintro e W9 ⟨hk, bq⟩
                    clear HC
                    have hx := hx.below bq
                    have hy := hy.below bq
                    have ka := ka.below bq
                    have kb := kb.below bq
                    have B := B.trans (bq.mono B.size)
                    clear bq
                    clear ka_0 ka_1 ka_2 ka_l kb_0 kb_1 kb_2 kb_l
                    obtain ⟨ka_0, ka_1, ka_2⟩ := block3 ka
                    have ka_l := ka.lt
                    obtain ⟨kb_0, kb_1, kb_2⟩ := block3 kb
                    have kb_l := kb.lt
                    have he := hk.ok (fun h => HO.out (overC_comm h))
                    rw [G2.out] at he
                    obtain rfl := he
                    have HC := Lib.hid (aliveR W9)
                    go_wp2_with fail
                    refine HC.out.mono ?_
                    rintro e W10 ⟨rfl, bq⟩
                    clear HC
                    have hx := hx.below bq
                    have hy := hy.below bq
                    have ka := ka.below bq
                    have kb := kb.below bq
                    have B := B.trans (bq.mono B.size)
                    clear bq
                    clear ka_0 ka_1 ka_2 ka_l kb_0 kb_1 kb_2 kb_l
                    obtain ⟨ka_0, ka_1, ka_2⟩ := block3 ka
                    have ka_l := ka.lt
                    obtain ⟨kb_0, kb_1, kb_2⟩ := block3 kb
                    have kb_l := kb.lt
                    have HS := same_rat hx hy
                    rw [decide_eq_false G3.out] at HS
                    have HS := Lib.hid HS
                    have HC := Lib.hid (HS.out)
                    go_wp2_with fail
                    refine HC.out.mono ?_
                    rintro e W11 ⟨rfl, bq⟩
                    clear HC
                    have hx := hx.below bq
                    have hy := hy.below bq
                    have ka := ka.below bq
                    have kb := kb.below bq
                    have B := B.trans (bq.mono B.size)
                    clear bq
                    clear ka_0 ka_1 ka_2 ka_l kb_0 kb_1 kb_2 kb_l
                    obtain ⟨ka_0, ka_1, ka_2⟩ := block3 ka
                    have ka_l := ka.lt
                    obtain ⟨kb_0, kb_1, kb_2⟩ := block3 kb
                    have kb_l := kb.lt
                    go_wp2_with fail
                    go_ret
                    exact ⟨rfl, B⟩
              · have HY0 := Lib.hid hy0
                clear hy0
                by_cases hQ : OverQ (x * y) y
                · have HQ := Lib.hid hQ
                  clear hQ
                  have HC := Lib.hid (quo_rat _ _ (x * y) y _ hp hy HY0.out)
                  go_wp2_with fail
                  refine HC.out.mono ?_
                  rintro e W8 ⟨hk, bq⟩
                  clear HC
                  have hx := hx.below bq
                  have hy := hy.below bq
                  have hp := hp.below bq
                  have ka := ka.below bq
                  have kb := kb.below bq
                  have kp := kp.below bq
                  have B := B.trans (bq.mono B.size)
                  clear bq
                  clear ka_0 ka_1 ka_2 ka_l kb_0 kb_1 kb_2 kb_l
                  obtain ⟨ka_0, ka_1, ka_2⟩ := block3 ka
                  have ka_l := ka.lt
                  obtain ⟨kb_0, kb_1, kb_2⟩ := block3 kb
                  have kb_l := kb.lt
                  obtain ⟨kp_0, kp_1, kp_2⟩ := block3 kp
                  have kp_l := kp.lt
                  obtain rfl := hk.over HQ.out
                  have b4 : Below W8.heap.size W8 (W8.alloc (.cells #[.bool false, .slice none 0 0, .slice none 0 0] 25)) := (Below.refl _ _).alloc (Nat.le_refl _) _
                  have kq := BlockAt.new W8 #[.bool false, .slice none 0 0, .slice none 0 0] 25
                  have hx := hx.below b4
                  have hy := hy.below b4
                  have hp := hp.below b4
                  have ka := ka.below b4
                  have kb := kb.below b4
                  have kp := kp.below b4
                  have B := B.trans (b4.mono B.size)
                  clear b4
                  have HC := Lib.hid (right_rat hp)
                  go_wp2_with fail
                  refine HC.out.mono ?_
                  rintro e W9 ⟨rfl, bq⟩
                  clear HC
                  have hx := hx.below bq
                  have hy := hy.below bq
                  have hp := hp.below bq
                  have ka := ka.below bq
                  have kb := kb.below bq
                  have kp := kp.below bq
                  have kq := kq.below bq
                  have B := B.trans (bq.mono B.size)
                  clear bq
                  clear ka_0 ka_1 ka_2 ka_l kb_0 kb_1 kb_2 kb_l kp_0 kp_1 kp_2 kp_l
                  obtain ⟨ka_0, ka_1, ka_2⟩ := block3 ka
                  have ka_l := ka.lt
                  obtain ⟨kb_0, kb_1, kb_2⟩ := block3 kb
                  have kb_l := kb.lt
                  obtain ⟨kp_0, kp_1, kp_2⟩ := block3 kp
                  have kp_l := kp.lt
                  obtain ⟨kq_0, kq_1, kq_2⟩ := block3 kq
                  have kq_l := kq.lt
                  clear kp_0 kp_1 kp_2 kp_l kq_0 kq_1 kq_2 kq_l hp kp kq
                  by_cases hO : OverC x y
                  · have HO := Lib.hid hO
                    clear hO
                    have hov := HO.out
                    have HC := Lib.hid (cmp_rat _ _ x y _ hx hy)
                    go_wp2_with fail
                    refine HC.out.mono ?_
                    rintro e W10 ⟨hk, bq⟩
                    clear HC
                    have hx := hx.below bq
                    have hy := hy.below bq
                    have ka := ka.below bq
                    have kb := kb.below bq
                    have B := B.trans (bq.mono B.size)
                    clear bq
                    clear ka_0 ka_1 ka_2 ka_l kb_0 kb_1 kb_2 kb_l
                    obtain ⟨ka_0, ka_1, ka_2⟩ := block3 ka
                    have ka_l := ka.lt
                    obtain ⟨kb_0, kb_1, kb_2⟩ := block3 kb
                    have kb_l := kb.lt
                    obtain rfl := hk.over HO.out
                    have HC := Lib.hid (cmp_rat _ _ y x _ hy hx)
                    go_wp2_with fail
                    refine HC.out.mono ?_
                    rintro e W11 ⟨hk, bq⟩
                    clear HC
                    have hx := hx.below bq
                    have hy := hy.below bq
                    have ka := ka.below bq
                    have kb := kb.below bq
                    have B := B.trans (bq.mono B.size)
                    clear bq
                    clear ka_0 ka_1 ka_2 ka_l kb_0 kb_1 kb_2 kb_l
                    obtain ⟨ka_0, ka_1, ka_2⟩ := block3 ka
                    have ka_l := ka.lt
                    obtain ⟨kb_0, kb_1, kb_2⟩ := block3 kb
                    have kb_l := kb.lt
                    obtain rfl := hk.over (overC_comm HO.out)
                    clear hov
                    have HC := Lib.hid (aliveR W11)
                    go_wp2_with fail
                    refine HC.out.mono ?_
                    rintro e W12 ⟨rfl, bq⟩
                    clear HC
                    have hx := hx.below bq
                    have hy := hy.below bq
                    have ka := ka.below bq
                    have kb := kb.below bq
                    have B := B.trans (bq.mono B.size)
                    clear bq
                    clear ka_0 ka_1 ka_2 ka_l kb_0 kb_1 kb_2 kb_l
                    obtain ⟨ka_0, ka_1, ka_2⟩ := block3 ka
                    have ka_l := ka.lt
                    obtain ⟨kb_0, kb_1, kb_2⟩ := block3 kb
                    have kb_l := kb.lt
                    go_wp2_with fail
                    go_ret
                    exact ⟨rfl, B⟩
                  · rcases sgn_ways x y with ⟨g1, g2, g3⟩ | ⟨g1, g2, g3⟩ | ⟨g1, g2, g3⟩
                    · have HO := Lib.hid hO
                      clear hO
                      have G1 := Lib.hid g1
                      have G2 := Lib.hid g2
                      have G3 := Lib.hid g3
                      clear g1 g2 g3
                      have HC := Lib.hid (cmp_rat _ _ x y _ hx hy)
                      go_wp2_with fail
                      refine HC.out.mono ?_
                      rintro e W10 ⟨hk, bq⟩
                      clear HC
                      have hx := hx.below bq
                      have hy := hy.below bq
                      have ka := ka.below bq
                      have kb := kb.below bq
                      have B := B.trans (bq.mono B.size)
                      clear bq
                      clear ka_0 ka_1 ka_2 ka_l kb_0 kb_1 kb_2 kb_l
                      obtain ⟨ka_0, ka_1, ka_2⟩ := block3 ka
                      have ka_l := ka.lt
                      obtain ⟨kb_0, kb_1, kb_2⟩ := block3 kb
                      have kb_l := kb.lt
                      have he := hk.ok HO.out
                      rw [G1.out] at he
                      obtain rfl := he
                      have HC := Lib.hid (cmp_rat _ _ y x _ hy hx)
                      go_wp2_with fail
                      refine HC.out.mono ?_
                      rintro e W11 ⟨hk, bq⟩
                      clear HC
                      have hx := hx.below bq
                      have hy := hy.below bq
                      have ka := ka.below bq
                      have kb := kb.below bq
                      have B := B.trans (bq.mono B.size)
                      clear bq
                      clear ka_0 ka_1 ka_2 ka_l kb_0 kb_1 kb_2 kb_l
                      obtain ⟨ka_0, ka_1, ka_2⟩ := block3 ka
                      have ka_l := ka.lt
                      obtain ⟨kb_0, kb_1, kb_2⟩ := block3 kb
                      have kb_l := kb.lt
                      have he := hk.ok (fun h => HO.out (overC_comm h))
                      rw [G2.out] at he
                      obtain rfl := he
                      have HC := Lib.hid (aliveR W11)
                      go_wp2_with fail
                      refine HC.out.mono ?_
                      rintro e W12 ⟨rfl, bq⟩
                      clear HC
                      have hx := hx.below bq
                      have hy := hy.below bq
                      have ka := ka.below bq
                      have kb := kb.below bq
                      have B := B.trans (bq.mono B.size)
                      clear bq
                      clear ka_0 ka_1 ka_2 ka_l kb_0 kb_1 kb_2 kb_l
                      obtain ⟨ka_0, ka_1, ka_2⟩ := block3 ka
                      have ka_l := ka.lt
                      obtain ⟨kb_0, kb_1, kb_2⟩ := block3 kb
                      have kb_l := kb.lt
                      have HS := same_rat hx hy
                      rw [decide_eq_false G3.out] at HS
                      have HS := Lib.hid HS
                      have HC := Lib.hid (HS.out)
                      go_wp2_with fail
                      refine HC.out.mono ?_
                      rintro e W13 ⟨rfl, bq⟩
                      clear HC
                      have hx := hx.below bq
                      have hy := hy.below bq
                      have ka := ka.below bq
                      have kb := kb.below bq
                      have B := B.trans (bq.mono B.size)
                      clear bq
                      clear ka_0 ka_1 ka_2 ka_l kb_0 kb_1 kb_2 kb_l
                      obtain ⟨ka_0, ka_1, ka_2⟩ := block3 ka
                      have ka_l := ka.lt
                      obtain ⟨kb_0, kb_1, kb_2⟩ := block3 kb
                      have kb_l := kb.lt
                      go_wp2_with fail
                      go_ret
                      exact ⟨rfl, B⟩
                    · have HO := Lib.hid hO
                      clear hO
                      have G1 := Lib.hid g1
                      have G2 := Lib.hid g2
                      have G3 := Lib.hid g3
                      clear g1 g2 g3
                      have HC := Lib.hid (cmp_rat _ _ x y _ hx hy)
                      go_wp2_with fail
                      refine HC.out.mono ?_
                      rintro e W10 ⟨hk, bq⟩
                      clear HC
                      have hx := hx.below bq
                      have hy := hy.below bq
                      have ka := ka.below bq
                      have kb := kb.below bq
                      have B := B.trans (bq.mono B.size)
                      clear bq
                      clear ka_0 ka_1 ka_2 ka_l kb_0 kb_1 kb_2 kb_l
                      obtain ⟨ka_0, ka_1, ka_2⟩ := block3 ka
                      have ka_l := ka.lt
                      obtain ⟨kb_0, kb_1, kb_2⟩ := block3 kb
                      have kb_l := kb.lt
                      have he := hk.ok HO.out
                      rw [G1.out] at he
                      obtain rfl := he
                      have HC := Lib.hid (cmp_rat _ _ y x _ hy hx)
                      go_wp2_with fail
                      refine HC.out.mono ?_
                      rintro e W11 ⟨hk, bq⟩
                      clear HC
                      have hx := hx.below bq
                      have hy := hy.below bq
                      have ka := ka.below bq
                      have kb := kb.below bq
                      have B := B.trans (bq.mono B.size)
                      clear bq
                      clear ka_0 ka_1 ka_2 ka_l kb_0 kb_1 kb_2 kb_l
                      obtain ⟨ka_0, ka_1, ka_2⟩ := block3 ka
                      have ka_l := ka.lt
                      obtain ⟨kb_0, kb_1, kb_2⟩ := block3 kb
                      have kb_l := kb.lt
                      have he := hk.ok (fun h => HO.out (overC_comm h))
                      rw [G2.out] at he
                      obtain rfl := he
                      have HC := Lib.hid (aliveR W11)
                      go_wp2_with fail
                      refine HC.out.mono ?_
                      rintro e W12 ⟨rfl, bq⟩
                      clear HC
                      have hx := hx.below bq
                      have hy := hy.below bq
                      have ka := ka.below bq
                      have kb := kb.below bq
                      have B := B.trans (bq.mono B.size)
                      clear bq
                      clear ka_0 ka_1 ka_2 ka_l kb_0 kb_1 kb_2 kb_l
                      obtain ⟨ka_0, ka_1, ka_2⟩ := block3 ka
                      have ka_l := ka.lt
                      obtain ⟨kb_0, kb_1, kb_2⟩ := block3 kb
                      have kb_l := kb.lt
                      have HS := same_rat hx hy
                      rw [decide_eq_true G3.out] at HS
                      have HS := Lib.hid HS
                      have HC := Lib.hid (HS.out)
                      go_wp2_with fail
                      refine HC.out.mono ?_
                      rintro e W13 ⟨rfl, bq⟩
                      clear HC
                      have hx := hx.below bq
                      have hy := hy.below bq
                      have ka := ka.below bq
                      have kb := kb.below bq
                      have B := B.trans (bq.mono B.size)
                      clear bq
                      clear ka_0 ka_1 ka_2 ka_l kb_0 kb_1 kb_2 kb_l
                      obtain ⟨ka_0, ka_1, ka_2⟩ := block3 ka
                      have ka_l := ka.lt
                      obtain ⟨kb_0, kb_1, kb_2⟩ := block3 kb
                      have kb_l := kb.lt
                      go_wp2_with fail
                      go_ret
                      exact ⟨rfl, B⟩
                    · have HO := Lib.hid hO
                      clear hO
                      have G1 := Lib.hid g1
                      have G2 := Lib.hid g2
                      have G3 := Lib.hid g3
                      clear g1 g2 g3
                      have HC := Lib.hid (cmp_rat _ _ x y _ hx hy)
                      go_wp2_with fail
                      refine HC.out.mono ?_
                      rintro e W10 ⟨hk, bq⟩
                      clear HC
                      have hx := hx.below bq
                      have hy := hy.below bq
                      have ka := ka.below bq
                      have kb := kb.below bq
                      have B := B.trans (bq.mono B.size)
                      clear bq
                      clear ka_0 ka_1 ka_2 ka_l kb_0 kb_1 kb_2 kb_l
                      obtain ⟨ka_0, ka_1, ka_2⟩ := block3 ka
                      have ka_l := ka.lt
                      obtain ⟨kb_0, kb_1, kb_2⟩ := block3 kb
                      have kb_l := kb.lt
                      have he := hk.ok HO.out
                      rw [G1.out] at he
                      obtain rfl := he
                      have HC := Lib.hid (cmp_rat _ _ y x _ hy hx)
                      go_wp2_with fail
                      refine HC.out.mono ?_
                      rintro e W11 ⟨hk, bq⟩
                      clear HC
                      have hx := hx.below bq
                      have hy := hy.below bq
                      have ka := ka.below bq
                      have kb := kb.below bq
                      have B := B.trans (bq.mono B.size)
                      clear bq
                      clear ka_0 ka_1 ka_2 ka_l kb_0 kb_1 kb_2 kb_l
                      obtain ⟨ka_0, ka_1, ka_2⟩ := block3 ka
                      have ka_l := ka.lt
                      obtain ⟨kb_0, kb_1, kb_2⟩ := block3 kb
                      have kb_l := kb.lt
                      have he := hk.ok (fun h => HO.out (overC_comm h))
                      rw [G2.out] at he
                      obtain rfl := he
                      have HC := Lib.hid (aliveR W11)
                      go_wp2_with fail
                      refine HC.out.mono ?_
                      rintro e W12 ⟨rfl, bq⟩
                      clear HC
                      have hx := hx.below bq
                      have hy := hy.below bq
                      have ka := ka.below bq
                      have kb := kb.below bq
                      have B := B.trans (bq.mono B.size)
                      clear bq
                      clear ka_0 ka_1 ka_2 ka_l kb_0 kb_1 kb_2 kb_l
                      obtain ⟨ka_0, ka_1, ka_2⟩ := block3 ka
                      have ka_l := ka.lt
                      obtain ⟨kb_0, kb_1, kb_2⟩ := block3 kb
                      have kb_l := kb.lt
                      have HS := same_rat hx hy
                      rw [decide_eq_false G3.out] at HS
                      have HS := Lib.hid HS
                      have HC := Lib.hid (HS.out)
                      go_wp2_with fail
                      refine HC.out.mono ?_
                      rintro e W13 ⟨rfl, bq⟩
                      clear HC
                      have hx := hx.below bq
                      have hy := hy.below bq
                      have ka := ka.below bq
                      have kb := kb.below bq
                      have B := B.trans (bq.mono B.size)
                      clear bq
                      clear ka_0 ka_1 ka_2 ka_l kb_0 kb_1 kb_2 kb_l
                      obtain ⟨ka_0, ka_1, ka_2⟩ := block3 ka
                      have ka_l := ka.lt
                      obtain ⟨kb_0, kb_1, kb_2⟩ := block3 kb
                      have kb_l := kb.lt
                      go_wp2_with fail
                      go_ret
                      exact ⟨rfl, B⟩
                · have HQ := Lib.hid hQ
                  clear hQ
                  have HC := Lib.hid (quo_rat _ _ (x * y) y _ hp hy HY0.out)
                  go_wp2_with fail
                  refine HC.out.mono ?_
                  rintro e W8 ⟨hk, bq⟩
                  clear HC
                  have hx := hx.below bq
                  have hy := hy.below bq
                  have hp := hp.below bq
                  have ka := ka.below bq
                  have kb := kb.below bq
                  have kp := kp.below bq
                  have B := B.trans (bq.mono B.size)
                  clear bq
                  clear ka_0 ka_1 ka_2 ka_l kb_0 kb_1 kb_2 kb_l
                  obtain ⟨ka_0, ka_1, ka_2⟩ := block3 ka
                  have ka_l := ka.lt
                  obtain ⟨kb_0, kb_1, kb_2⟩ := block3 kb
                  have kb_l := kb.lt
                  obtain ⟨kp_0, kp_1, kp_2⟩ := block3 kp
                  have kp_l := kp.lt
                  obtain ⟨q, rfl, hq⟩ := hk.ok HQ.out
                  rw [Rat.mul_div_cancel HY0.out] at hq
                  obtain ⟨t4_, oa4, na4, ca4, ob4, nb4, cb4, rfl⟩ := RawN.form hq
                  have b4 : Below W8.heap.size W8 (W8.alloc (.cells #[.bool t4_, .slice oa4 na4 ca4, .slice ob4 nb4 cb4] 25)) := (Below.refl _ _).alloc (Nat.le_refl _) _
                  have kq := BlockAt.new W8 #[.bool t4_, .slice oa4 na4 ca4, .slice ob4 nb4 cb4] 25
                  have hx := hx.below b4
                  have hy := hy.below b4
                  have hp := hp.below b4
                  have hq := hq.below b4
                  have ka := ka.below b4
                  have kb := kb.below b4
                  have kp := kp.below b4
                  have B := B.trans (b4.mono B.size)
                  clear b4
                  have HC := Lib.hid (right_rat hp)
                  go_wp2_with fail
                  refine HC.out.mono ?_
                  rintro e W9 ⟨rfl, bq⟩
                  clear HC
                  have hx := hx.below bq
                  have hy := hy.below bq
                  have hp := hp.below bq
                  have hq := hq.below bq
                  have ka := ka.below bq
                  have kb := kb.below bq
                  have kp := kp.below bq
                  have kq := kq.below bq
                  have B := B.trans (bq.mono B.size)
                  clear bq
                  clear ka_0 ka_1 ka_2 ka_l kb_0 kb_1 kb_2 kb_l kp_0 kp_1 kp_2 kp_l
                  obtain ⟨ka_0, ka_1, ka_2⟩ := block3 ka
                  have ka_l := ka.lt
                  obtain ⟨kb_0, kb_1, kb_2⟩ := block3 kb
                  have kb_l := kb.lt
                  obtain ⟨kp_0, kp_1, kp_2⟩ := block3 kp
                  have kp_l := kp.lt
                  obtain ⟨kq_0, kq_1, kq_2⟩ := block3 kq
                  have kq_l := kq.lt
                  have HC := Lib.hid (same_eq hq hx)
                  go_wp2_with fail
                  refine HC.out.mono ?_
                  rintro e W10 ⟨rfl, bq⟩
                  clear HC
                  have hx := hx.below bq
                  have hy := hy.below bq
                  have hp := hp.below bq
                  have hq := hq.below bq
                  have ka := ka.below bq
                  have kb := kb.below bq
                  have kp := kp.below bq
                  have kq := kq.below bq
                  have B := B.trans (bq.mono B.size)
                  clear bq
                  clear ka_0 ka_1 ka_2 ka_l kb_0 kb_1 kb_2 kb_l kp_0 kp_1 kp_2 kp_l kq_0 kq_1 kq_2 kq_l
                  obtain ⟨ka_0, ka_1, ka_2⟩ := block3 ka
                  have ka_l := ka.lt
                  obtain ⟨kb_0, kb_1, kb_2⟩ := block3 kb
                  have kb_l := kb.lt
                  obtain ⟨kp_0, kp_1, kp_2⟩ := block3 kp
                  have kp_l := kp.lt
                  obtain ⟨kq_0, kq_1, kq_2⟩ := block3 kq
                  have kq_l := kq.lt
                  clear kp_0 kp_1 kp_2 kp_l kq_0 kq_1 kq_2 kq_l hp hq kp kq
                  by_cases hO : OverC x y
                  · have HO := Lib.hid hO
                    clear hO
                    have hov := HO.out
                    have HC := Lib.hid (cmp_rat _ _ x y _ hx hy)
                    go_wp2_with fail
                    refine HC.out.mono ?_
                    rintro e W11 ⟨hk, bq⟩
                    clear HC
                    have hx := hx.below bq
                    have hy := hy.below bq
                    have ka := ka.below bq
                    have kb := kb.below bq
                    have B := B.trans (bq.mono B.size)
                    clear bq
                    clear ka_0 ka_1 ka_2 ka_l kb_0 kb_1 kb_2 kb_l
                    obtain ⟨ka_0, ka_1, ka_2⟩ := block3 ka
                    have ka_l := ka.lt
                    obtain ⟨kb_0, kb_1, kb_2⟩ := block3 kb
                    have kb_l := kb.lt
                    obtain rfl := hk.over HO.out
                    have HC := Lib.hid (cmp_rat _ _ y x _ hy hx)
                    go_wp2_with fail
                    refine HC.out.mono ?_
                    rintro e W12 ⟨hk, bq⟩
                    clear HC
                    have hx := hx.below bq
                    have hy := hy.below bq
                    have ka := ka.below bq
                    have kb := kb.below bq
                    have B := B.trans (bq.mono B.size)
                    clear bq
                    clear ka_0 ka_1 ka_2 ka_l kb_0 kb_1 kb_2 kb_l
                    obtain ⟨ka_0, ka_1, ka_2⟩ := block3 ka
                    have ka_l := ka.lt
                    obtain ⟨kb_0, kb_1, kb_2⟩ := block3 kb
                    have kb_l := kb.lt
                    obtain rfl := hk.over (overC_comm HO.out)
                    clear hov
                    have HC := Lib.hid (aliveR W12)
                    go_wp2_with fail
                    refine HC.out.mono ?_
                    rintro e W13 ⟨rfl, bq⟩
                    clear HC
                    have hx := hx.below bq
                    have hy := hy.below bq
                    have ka := ka.below bq
                    have kb := kb.below bq
                    have B := B.trans (bq.mono B.size)
                    clear bq
                    clear ka_0 ka_1 ka_2 ka_l kb_0 kb_1 kb_2 kb_l
                    obtain ⟨ka_0, ka_1, ka_2⟩ := block3 ka
                    have ka_l := ka.lt
                    obtain ⟨kb_0, kb_1, kb_2⟩ := block3 kb
                    have kb_l := kb.lt
                    go_wp2_with fail
                    go_ret
                    exact ⟨rfl, B⟩
                  · rcases sgn_ways x y with ⟨g1, g2, g3⟩ | ⟨g1, g2, g3⟩ | ⟨g1, g2, g3⟩
                    · have HO := Lib.hid hO
                      clear hO
                      have G1 := Lib.hid g1
                      have G2 := Lib.hid g2
                      have G3 := Lib.hid g3
                      clear g1 g2 g3
                      have HC := Lib.hid (cmp_rat _ _ x y _ hx hy)
                      go_wp2_with fail
                      refine HC.out.mono ?_
                      rintro e W11 ⟨hk, bq⟩
                      clear HC
                      have hx := hx.below bq
                      have hy := hy.below bq
                      have ka := ka.below bq
                      have kb := kb.below bq
                      have B := B.trans (bq.mono B.size)
                      clear bq
                      clear ka_0 ka_1 ka_2 ka_l kb_0 kb_1 kb_2 kb_l
                      obtain ⟨ka_0, ka_1, ka_2⟩ := block3 ka
                      have ka_l := ka.lt
                      obtain ⟨kb_0, kb_1, kb_2⟩ := block3 kb
                      have kb_l := kb.lt
                      have he := hk.ok HO.out
                      rw [G1.out] at he
                      obtain rfl := he
                      have HC := Lib.hid (cmp_rat _ _ y x _ hy hx)
                      go_wp2_with fail
                      refine HC.out.mono ?_
                      rintro e W12 ⟨hk, bq⟩
                      clear HC
                      have hx := hx.below bq
                      have hy := hy.below bq
                      have ka := ka.below bq
                      have kb := kb.below bq
                      have B := B.trans (bq.mono B.size)
                      clear bq
                      clear ka_0 ka_1 ka_2 ka_l kb_0 kb_1 kb_2 kb_l
                      obtain ⟨ka_0, ka_1, ka_2⟩ := block3 ka
                      have ka_l := ka.lt
                      obtain ⟨kb_0, kb_1, kb_2⟩ := block3 kb
                      have kb_l := kb.lt
                      have he := hk.ok (fun h => HO.out (overC_comm h))
                      rw [G2.out] at he
                      obtain rfl := he
                      have HC := Lib.hid (aliveR W12)
                      go_wp2_with fail
                      refine HC.out.mono ?_
                      rintro e W13 ⟨rfl, bq⟩
                      clear HC
                      have hx := hx.below bq
                      have hy := hy.below bq
                      have ka := ka.below bq
                      have kb := kb.below bq
                      have B := B.trans (bq.mono B.size)
                      clear bq
                      clear ka_0 ka_1 ka_2 ka_l kb_0 kb_1 kb_2 kb_l
                      obtain ⟨ka_0, ka_1, ka_2⟩ := block3 ka
                      have ka_l := ka.lt
                      obtain ⟨kb_0, kb_1, kb_2⟩ := block3 kb
                      have kb_l := kb.lt
                      have HS := same_rat hx hy
                      rw [decide_eq_false G3.out] at HS
                      have HS := Lib.hid HS
                      have HC := Lib.hid (HS.out)
                      go_wp2_with fail
                      refine HC.out.mono ?_
                      rintro e W14 ⟨rfl, bq⟩
                      clear HC
                      have hx := hx.below bq
                      have hy := hy.below bq
                      have ka := ka.below bq
                      have kb := kb.below bq
                      have B := B.trans (bq.mono B.size)
                      clear bq
                      clear ka_0 ka_1 ka_2 ka_l kb_0 kb_1 kb_2 kb_l
                      obtain ⟨ka_0, ka_1, ka_2⟩ := block3 ka
                      have ka_l := ka.lt
                      obtain ⟨kb_0, kb_1, kb_2⟩ := block3 kb
                      have kb_l := kb.lt
                      go_wp2_with fail
                      go_ret
                      exact ⟨rfl, B⟩
                    · have HO := Lib.hid hO
                      clear hO
                      have G1 := Lib.hid g1
                      have G2 := Lib.hid g2
                      have G3 := Lib.hid g3
                      clear g1 g2 g3
                      have HC := Lib.hid (cmp_rat _ _ x y _ hx hy)
                      go_wp2_with fail
                      refine HC.out.mono ?_
                      rintro e W11 ⟨hk, bq⟩
                      clear HC
                      have hx := hx.below bq
                      have hy := hy.below bq
                      have ka := ka.below bq
                      have kb := kb.below bq
                      have B := B.trans (bq.mono B.size)
                      clear bq
                      clear ka_0 ka_1 ka_2 ka_l kb_0 kb_1 kb_2 kb_l
                      obtain ⟨ka_0, ka_1, ka_2⟩ := block3 ka
                      have ka_l := ka.lt
                      obtain ⟨kb_0, kb_1, kb_2⟩ := block3 kb
                      have kb_l := kb.lt
                      have he := hk.ok HO.out
                      rw [G1.out] at he
                      obtain rfl := he
                      have HC := Lib.hid (cmp_rat _ _ y x _ hy hx)
                      go_wp2_with fail
                      refine HC.out.mono ?_
                      rintro e W12 ⟨hk, bq⟩
                      clear HC
                      have hx := hx.below bq
                      have hy := hy.below bq
                      have ka := ka.below bq
                      have kb := kb.below bq
                      have B := B.trans (bq.mono B.size)
                      clear bq
                      clear ka_0 ka_1 ka_2 ka_l kb_0 kb_1 kb_2 kb_l
                      obtain ⟨ka_0, ka_1, ka_2⟩ := block3 ka
                      have ka_l := ka.lt
                      obtain ⟨kb_0, kb_1, kb_2⟩ := block3 kb
                      have kb_l := kb.lt
                      have he := hk.ok (fun h => HO.out (overC_comm h))
                      rw [G2.out] at he
                      obtain rfl := he
                      have HC := Lib.hid (aliveR W12)
                      go_wp2_with fail
                      refine HC.out.mono ?_
                      rintro e W13 ⟨rfl, bq⟩
                      clear HC
                      have hx := hx.below bq
                      have hy := hy.below bq
                      have ka := ka.below bq
                      have kb := kb.below bq
                      have B := B.trans (bq.mono B.size)
                      clear bq
                      clear ka_0 ka_1 ka_2 ka_l kb_0 kb_1 kb_2 kb_l
                      obtain ⟨ka_0, ka_1, ka_2⟩ := block3 ka
                      have ka_l := ka.lt
                      obtain ⟨kb_0, kb_1, kb_2⟩ := block3 kb
                      have kb_l := kb.lt
                      have HS := same_rat hx hy
                      rw [decide_eq_true G3.out] at HS
                      have HS := Lib.hid HS
                      have HC := Lib.hid (HS.out)
                      go_wp2_with fail
                      refine HC.out.mono ?_
                      rintro e W14 ⟨rfl, bq⟩
                      clear HC
                      have hx := hx.below bq
                      have hy := hy.below bq
                      have ka := ka.below bq
                      have kb := kb.below bq
                      have B := B.trans (bq.mono B.size)
                      clear bq
                      clear ka_0 ka_1 ka_2 ka_l kb_0 kb_1 kb_2 kb_l
                      obtain ⟨ka_0, ka_1, ka_2⟩ := block3 ka
                      have ka_l := ka.lt
                      obtain ⟨kb_0, kb_1, kb_2⟩ := block3 kb
                      have kb_l := kb.lt
                      go_wp2_with fail
                      go_ret
                      exact ⟨rfl, B⟩
                    · have HO := Lib.hid hO
                      clear hO
                      have G1 := Lib.hid g1
                      have G2 := Lib.hid g2
                      have G3 := Lib.hid g3
                      clear g1 g2 g3
                      have HC := Lib.hid (cmp_rat _ _ x y _ hx hy)
                      go_wp2_with fail
                      refine HC.out.mono ?_
                      rintro e W11 ⟨hk, bq⟩
                      clear HC
                      have hx := hx.below bq
                      have hy := hy.below bq
                      have ka := ka.below bq
                      have kb := kb.below bq
                      have B := B.trans (bq.mono B.size)
                      clear bq
                      clear ka_0 ka_1 ka_2 ka_l kb_0 kb_1 kb_2 kb_l
                      obtain ⟨ka_0, ka_1, ka_2⟩ := block3 ka
                      have ka_l := ka.lt
                      obtain ⟨kb_0, kb_1, kb_2⟩ := block3 kb
                      have kb_l := kb.lt
                      have he := hk.ok HO.out
                      rw [G1.out] at he
                      obtain rfl := he
                      have HC := Lib.hid (cmp_rat _ _ y x _ hy hx)
                      go_wp2_with fail
                      refine HC.out.mono ?_
                      rintro e W12 ⟨hk, bq⟩
                      clear HC
                      have hx := hx.below bq
                      have hy := hy.below bq
                      have ka := ka.below bq
                      have kb := kb.below bq
                      have B := B.trans (bq.mono B.size)
                      clear bq
                      clear ka_0 ka_1 ka_2 ka_l kb_0 kb_1 kb_2 kb_l
                      obtain ⟨ka_0, ka_1, ka_2⟩ := block3 ka
                      have ka_l := ka.lt
                      obtain ⟨kb_0, kb_1, kb_2⟩ := block3 kb
                      have kb_l := kb.lt
                      have he := hk.ok (fun h => HO.out (overC_comm h))
                      rw [G2.out] at he
                      obtain rfl := he
                      have HC := Lib.hid (aliveR W12)
                      go_wp2_with fail
                      refine HC.out.mono ?_
                      rintro e W13 ⟨rfl, bq⟩
                      clear HC
                      have hx := hx.below bq
                      have hy := hy.below bq
                      have ka := ka.below bq
                      have kb := kb.below bq
                      have B := B.trans (bq.mono B.size)
                      clear bq
                      clear ka_0 ka_1 ka_2 ka_l kb_0 kb_1 kb_2 kb_l
                      obtain ⟨ka_0, ka_1, ka_2⟩ := block3 ka
                      have ka_l := ka.lt
                      obtain ⟨kb_0, kb_1, kb_2⟩ := block3 kb
                      have kb_l := kb.lt
                      have HS := same_rat hx hy
                      rw [decide_eq_false G3.out] at HS
                      have HS := Lib.hid HS
                      have HC := Lib.hid (HS.out)
                      go_wp2_with fail
                      refine HC.out.mono ?_
                      rintro e W14 ⟨rfl, bq⟩
                      clear HC
                      have hx := hx.below bq
                      have hy := hy.below bq
                      have ka := ka.below bq
                      have kb := kb.below bq
                      have B := B.trans (bq.mono B.size)
                      clear bq
                      clear ka_0 ka_1 ka_2 ka_l kb_0 kb_1 kb_2 kb_l
                      obtain ⟨ka_0, ka_1, ka_2⟩ := block3 ka
                      have ka_l := ka.lt
                      obtain ⟨kb_0, kb_1, kb_2⟩ := block3 kb
                      have kb_l := kb.lt
                      go_wp2_with fail
                      go_ret
                      exact ⟨rfl, B⟩
      · have hbad : BadPair wc _ _ := .inr ⟨⟨x, hx⟩, hby⟩
        have hbad2 : BadPair wc (.agg #[.bool t, .slice ao3 an3 ac3, .slice ao4 an4 ac4]) (.agg #[.bool s, .slice ao1 an1 ac1, .slice ao2 an2 ac2]) := .inl hby
        clear HX HY hx hby
        have FA : FormR (.agg #[.bool s, .slice ao1 an1 ac1, .slice ao2 an2 ac2]) := ⟨_, _, _, rfl⟩
        have FB : FormR (.agg #[.bool t, .slice ao3 an3 ac3, .slice ao4 an4 ac4]) := ⟨_, _, _, rfl⟩
        obtain ⟨ka_0, ka_1, ka_2⟩ := block3 ka
        have ka_l := ka.lt
        obtain ⟨kb_0, kb_1, kb_2⟩ := block3 kb
        have kb_l := kb.lt
        have HC := Lib.hid (add_badr _ _ _ hbad FB)
        go_wp2_with fail
        refine HC.out.mono ?_
        rintro e W1 ⟨hk, bq⟩
        clear HC
        have hbad := hbad.below bq
        have hbad2 := hbad2.below bq
        have ka := ka.below bq
        have kb := kb.below bq
        have B := B.trans (bq.mono B.size)
        clear bq
        clear ka_0 ka_1 ka_2 ka_l kb_0 kb_1 kb_2 kb_l
        obtain ⟨ka_0, ka_1, ka_2⟩ := block3 ka
        have ka_l := ka.lt
        obtain ⟨kb_0, kb_1, kb_2⟩ := block3 kb
        have kb_l := kb.lt
        unfold nilRat at hk
        obtain rfl := hk
        have b4 : Below W1.heap.size W1 (W1.alloc (.cells #[.bool false, .slice none 0 0, .slice none 0 0] 25)) := (Below.refl _ _).alloc (Nat.le_refl _) _
        have ks := BlockAt.new W1 #[.bool false, .slice none 0 0, .slice none 0 0] 25
        have hbad := hbad.below b4
        have hbad2 := hbad2.below b4
        have ka := ka.below b4
        have kb := kb.below b4
        have B := B.trans (b4.mono B.size)
        clear b4
        have HC := Lib.hid (mul_badr _ _ _ hbad FB)
        go_wp2_with fail
        refine HC.out.mono ?_
        rintro e W2 ⟨hk, bq⟩
        clear HC
        have hbad := hbad.below bq
        have hbad2 := hbad2.below bq
        have ka := ka.below bq
        have kb := kb.below bq
        have ks := ks.below bq
        have B := B.trans (bq.mono B.size)
        clear bq
        clear ka_0 ka_1 ka_2 ka_l kb_0 kb_1 kb_2 kb_l
        obtain ⟨ka_0, ka_1, ka_2⟩ := block3 ka
        have ka_l := ka.lt
        obtain ⟨kb_0, kb_1, kb_2⟩ := block3 kb
        have kb_l := kb.lt
        obtain ⟨ks_0, ks_1, ks_2⟩ := block3 ks
        have ks_l := ks.lt
        unfold nilRat at hk
        obtain rfl := hk
        have b4 : Below W2.heap.size W2 (W2.alloc (.cells #[.bool false, .slice none 0 0, .slice none 0 0] 25)) := (Below.refl _ _).alloc (Nat.le_refl _) _
        have kp := BlockAt.new W2 #[.bool false, .slice none 0 0, .slice none 0 0] 25
        have hbad := hbad.below b4
        have hbad2 := hbad2.below b4
        have ka := ka.below b4
        have kb := kb.below b4
        have ks := ks.below b4
        have B := B.trans (b4.mono B.size)
        clear b4
        have HC := Lib.hid (cmp_badr _ _ _ hbad FB)
        go_wp2_with fail
        refine HC.out.mono ?_
        rintro e W3 ⟨rfl, bq⟩
        clear HC
        have hbad := hbad.below bq
        have hbad2 := hbad2.below bq
        have ka := ka.below bq
        have kb := kb.below bq
        have ks := ks.below bq
        have kp := kp.below bq
        have B := B.trans (bq.mono B.size)
        clear bq
        clear ka_0 ka_1 ka_2 ka_l kb_0 kb_1 kb_2 kb_l ks_0 ks_1 ks_2 ks_l
        obtain ⟨ka_0, ka_1, ka_2⟩ := block3 ka
        have ka_l := ka.lt
        obtain ⟨kb_0, kb_1, kb_2⟩ := block3 kb
        have kb_l := kb.lt
        obtain ⟨ks_0, ks_1, ks_2⟩ := block3 ks
        have ks_l := ks.lt
        obtain ⟨kp_0, kp_1, kp_2⟩ := block3 kp
        have kp_l := kp.lt
        have HC := Lib.hid (cmp_badr _ _ _ hbad2 FA)
        go_wp2_with fail
        refine HC.out.mono ?_
        rintro e W4 ⟨rfl, bq⟩
        clear HC
        have hbad := hbad.below bq
        have hbad2 := hbad2.below bq
        have ka := ka.below bq
        have kb := kb.below bq
        have ks := ks.below bq
        have kp := kp.below bq
        have B := B.trans (bq.mono B.size)
        clear bq
        clear ka_0 ka_1 ka_2 ka_l kb_0 kb_1 kb_2 kb_l ks_0 ks_1 ks_2 ks_l kp_0 kp_1 kp_2 kp_l
        obtain ⟨ka_0, ka_1, ka_2⟩ := block3 ka
        have ka_l := ka.lt
        obtain ⟨kb_0, kb_1, kb_2⟩ := block3 kb
        have kb_l := kb.lt
        obtain ⟨ks_0, ks_1, ks_2⟩ := block3 ks
        have ks_l := ks.lt
        obtain ⟨kp_0, kp_1, kp_2⟩ := block3 kp
        have kp_l := kp.lt
        have HC := Lib.hid (aliveR W4)
        go_wp2_with fail
        refine HC.out.mono ?_
        rintro e W5 ⟨rfl, bq⟩
        clear HC
        have hbad := hbad.below bq
        have hbad2 := hbad2.below bq
        have ka := ka.below bq
        have kb := kb.below bq
        have ks := ks.below bq
        have kp := kp.below bq
        have B := B.trans (bq.mono B.size)
        clear bq
        clear ka_0 ka_1 ka_2 ka_l kb_0 kb_1 kb_2 kb_l ks_0 ks_1 ks_2 ks_l kp_0 kp_1 kp_2 kp_l
        obtain ⟨ka_0, ka_1, ka_2⟩ := block3 ka
        have ka_l := ka.lt
        obtain ⟨kb_0, kb_1, kb_2⟩ := block3 kb
        have kb_l := kb.lt
        obtain ⟨ks_0, ks_1, ks_2⟩ := block3 ks
        have ks_l := ks.lt
        obtain ⟨kp_0, kp_1, kp_2⟩ := block3 kp
        have kp_l := kp.lt
        go_wp2_with fail
        go_ret
        exact ⟨rfl, B⟩
    · have hbad : BadPair wc (.agg #[.bool s, .slice ao1 an1 ac1, .slice ao2 an2 ac2]) (.agg #[.bool t, .slice ao3 an3 ac3, .slice ao4 an4 ac4]) := .inl hbx
      have hbad2 : BadPair wc (.agg #[.bool t, .slice ao3 an3 ac3, .slice ao4 an4 ac4]) (.agg #[.bool s, .slice ao1 an1 ac1, .slice ao2 an2 ac2]) := by
        rcases HY.out with ⟨y, hy⟩ | hby
        · exact .inr ⟨⟨y, hy⟩, hbx⟩
        · exact .inl hby
      clear HX HY hbx
      have FA : FormR (.agg #[.bool s, .slice ao1 an1 ac1, .slice ao2 an2 ac2]) := ⟨_, _, _, rfl⟩
      have FB : FormR (.agg #[.bool t, .slice ao3 an3 ac3, .slice ao4 an4 ac4]) := ⟨_, _, _, rfl⟩
      obtain ⟨ka_0, ka_1, ka_2⟩ := block3 ka
      have ka_l := ka.lt
      obtain ⟨kb_0, kb_1, kb_2⟩ := block3 kb
      have kb_l := kb.lt
      have HC := Lib.hid (add_badr _ _ _ hbad FB)
      go_wp2_with fail
      refine HC.out.mono ?_
      rintro e W1 ⟨hk, bq⟩
      clear HC
      have hbad := hbad.below bq
      have hbad2 := hbad2.below bq
      have ka := ka.below bq
      have kb := kb.below bq
      have B := B.trans (bq.mono B.size)
      clear bq
      clear ka_0 ka_1 ka_2 ka_l kb_0 kb_1 kb_2 kb_l
      obtain ⟨ka_0, ka_1, ka_2⟩ := block3 ka
      have ka_l := ka.lt
      obtain ⟨kb_0, kb_1, kb_2⟩ := block3 kb
      have kb_l := kb.lt
      unfold nilRat at hk
      obtain rfl := hk
      have b4 : Below W1.heap.size W1 (W1.alloc (.cells #[.bool false, .slice none 0 0, .slice none 0 0] 25)) := (Below.refl _ _).alloc (Nat.le_refl _) _
      have ks := BlockAt.new W1 #[.bool false, .slice none 0 0, .slice none 0 0] 25
      have hbad := hbad.below b4
      have hbad2 := hbad2.below b4
      have ka := ka.below b4
      have kb := kb.below b4
      have B := B.trans (b4.mono B.size)
      clear b4
      have HC := Lib.hid (mul_badr _ _ _ hbad FB)
      go_wp2_with fail
      refine HC.out.mono ?_
      rintro e W2 ⟨hk, bq⟩
      clear HC
      have hbad := hbad.below bq
      have hbad2 := hbad2.below bq
      have ka := ka.below bq
      have kb := kb.below bq
      have ks := ks.below bq
      have B := B.trans (bq.mono B.size)
      clear bq
      clear ka_0 ka_1 ka_2 ka_l kb_0 kb_1 kb_2 kb_l
      obtain ⟨ka_0, ka_1, ka_2⟩ := block3 ka
      have ka_l := ka.lt
      obtain ⟨kb_0, kb_1, kb_2⟩ := block3 kb
      have kb_l := kb.lt
      obtain ⟨ks_0, ks_1, ks_2⟩ := block3 ks
      have ks_l := ks.lt
      unfold nilRat at hk
      obtain rfl := hk
      have b4 : Below W2.heap.size W2 (W2.alloc (.cells #[.bool false, .slice none 0 0, .slice none 0 0] 25)) := (Below.refl _ _).alloc (Nat.le_refl _) _
      have kp := BlockAt.new W2 #[.bool false, .slice none 0 0, .slice none 0 0] 25
      have hbad := hbad.below b4
      have hbad2 := hbad2.below b4
      have ka := ka.below b4
      have kb := kb.below b4
      have ks := ks.below b4
      have B := B.trans (b4.mono B.size)
      clear b4
      have HC := Lib.hid (cmp_badr _ _ _ hbad FB)
      go_wp2_with fail
      refine HC.out.mono ?_
      rintro e W3 ⟨rfl, bq⟩
      clear HC
      have hbad := hbad.below bq
      have hbad2 := hbad2.below bq
      have ka := ka.below bq
      have kb := kb.below bq
      have ks := ks.below bq
      have kp := kp.below bq
      have B := B.trans (bq.mono B.size)
      clear bq
      clear ka_0 ka_1 ka_2 ka_l kb_0 kb_1 kb_2 kb_l ks_0 ks_1 ks_2 ks_l
      obtain ⟨ka_0, ka_1, ka_2⟩ := block3 ka
      have ka_l := ka.lt
      obtain ⟨kb_0, kb_1, kb_2⟩ := block3 kb
      have kb_l := kb.lt
      obtain ⟨ks_0, ks_1, ks_2⟩ := block3 ks
      have ks_l := ks.lt
      obtain ⟨kp_0, kp_1, kp_2⟩ := block3 kp
      have kp_l := kp.lt
      have HC := Lib.hid (cmp_badr _ _ _ hbad2 FA)
      go_wp2_with fail
      refine HC.out.mono ?_
      rintro e W4 ⟨rfl, bq⟩
      clear HC
      have hbad := hbad.below bq
      have hbad2 := hbad2.below bq
      have ka := ka.below bq
      have kb := kb.below bq
      have ks := ks.below bq
      have kp := kp.below bq
      have B := B.trans (bq.mono B.size)
      clear bq
      clear ka_0 ka_1 ka_2 ka_l kb_0 kb_1 kb_2 kb_l ks_0 ks_1 ks_2 ks_l kp_0 kp_1 kp_2 kp_l
      obtain ⟨ka_0, ka_1, ka_2⟩ := block3 ka
      have ka_l := ka.lt
      obtain ⟨kb_0, kb_1, kb_2⟩ := block3 kb
      have kb_l := kb.lt
      obtain ⟨ks_0, ks_1, ks_2⟩ := block3 ks
      have ks_l := ks.lt
      obtain ⟨kp_0, kp_1, kp_2⟩ := block3 kp
      have kp_l := kp.lt
      have HC := Lib.hid (aliveR W4)
      go_wp2_with fail
      refine HC.out.mono ?_
      rintro e W5 ⟨rfl, bq⟩
      clear HC
      have hbad := hbad.below bq
      have hbad2 := hbad2.below bq
      have ka := ka.below bq
      have kb := kb.below bq
      have ks := ks.below bq
      have kp := kp.below bq
      have B := B.trans (bq.mono B.size)
      clear bq
      clear ka_0 ka_1 ka_2 ka_l kb_0 kb_1 kb_2 kb_l ks_0 ks_1 ks_2 ks_l kp_0 kp_1 kp_2 kp_l
      obtain ⟨ka_0, ka_1, ka_2⟩ := block3 ka
      have ka_l := ka.lt
      obtain ⟨kb_0, kb_1, kb_2⟩ := block3 kb
      have kb_l := kb.lt
      obtain ⟨ks_0, ks_1, ks_2⟩ := block3 ks
      have ks_l := ks.lt
      obtain ⟨kp_0, kp_1, kp_2⟩ := block3 kp
      have kp_l := kp.lt
      go_wp2_with fail
      go_ret
      exact ⟨rfl, B⟩
end Go.Proofs.Ythmhljfaenekfaa
