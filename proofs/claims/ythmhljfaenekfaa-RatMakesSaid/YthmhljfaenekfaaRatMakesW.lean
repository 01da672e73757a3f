/- The law RatMakes. -/
import Derived.Test.YthmhljfaenekfaaRatCut
namespace Go.Proofs.Ythmhljfaenekfaa
open Go.RowKit NM

theorem SlR.below {w w' : World} {v : Value} {s : Bool} {xs ys : List Int} (h : SlR w v s xs ys) (hb : Below w.heap.size w w') : SlR w' v s xs ys := by
  obtain ⟨n, d, h1, h2, h3⟩ := h
  exact ⟨n, d, h1, h2.below hb, h3.below hb⟩
/-- Whether all of two is the same, by the program and by the reference. -/
theorem like_facts (v u : Value) (s t : Bool) (xs ys us vs : List Int) : ∃ pb : Bool,
    (∀ W : World, SlR W v s xs ys → SlR W u t us vs → Calls Try.prog 12 #[v, u] W fun e w' => e = .returned (.bool pb) ∧ Below W.heap.size W w') ∧
    (∀ W : World, SlR W v s xs ys → SlR W u t us vs → Calls Try.prog 13 #[v, u] W fun e w' => e = .returned (.bool pb) ∧ Below W.heap.size W w') ∧
    (∀ W : World, SlR W v s xs ys → Calls Try.prog 12 #[v, v] W fun e w' => e = .returned (.bool true) ∧ Below W.heap.size W w') := by
  refine ⟨_, fun W h1 h2 => likeR v u s t xs ys us vs W h1 h2, fun W h1 h2 => sameR v u s t xs ys us vs W h1 h2, fun W h1 => ?_⟩
  have h := likeR v v s s xs ys xs ys W h1 h1
  rw [decide_eq_true ⟨rfl, rfl, rfl⟩] at h
  exact h
theorem text_facts (x : Rat) (fx : Far x.num.natAbs) (fd : Far x.den) : ∃ (rs : ByteArray) (V : Value),
    (∀ (W : World) (v : Value), RatN W v x → Calls Try.prog 9 #[v] W fun e w' => e = .returned (.tuple #[.string rs, .int .i64 0]) ∧ Below W.heap.size W w') ∧
    (∀ (W : World) (v : Value), RatN W v x → Calls Try.prog 16 #[v] W fun e w' => e = .returned V ∧ Below W.heap.size W w') ∧
    (∀ W : World, Calls Try.prog 15 #[V] W fun e w' => e = .returned (.string rs) ∧ Below W.heap.size W w') := by
  refine ⟨ratStr x, fracV (decide (x.num < 0)) x.num.natAbs x.den false, fun W v h => text_rat v x W h, fun W v h => of_rat v x W h, fun W => ?_⟩
  have h := textF_fun (decide (x.num < 0)) x.num.natAbs x.den false W fx fd
  rw [fracStr_rat] at h
  exact h
theorem make_facts (neg : Bool) (N D : Nat) (hN : (N : Int) < pw 16) (hD : (D : Int) < pw 16) (fN : Far N) (fD : Far D) (h0 : 0 < D) : ∃ (s1 s2 : ByteArray) (V : Value),
    (∀ (W : World) (v : Value), Num W v N → Calls Try.prog 20 #[v] W fun e w' => e = .returned (.string s1) ∧ Below W.heap.size W w') ∧
    (∀ (W : World) (v : Value), Num W v D → Calls Try.prog 20 #[v] W fun e w' => e = .returned (.string s2) ∧ Below W.heap.size W w') ∧
    (∀ W : World, Calls Try.prog 19 #[.agg #[.bool neg, .string s1, .string s2, .bool false]] W fun e w' => e = .returned V ∧ Below W.heap.size W w') ∧
    (∀ (W : World) (r : Value), RatN W r (frac neg N D) → Calls Try.prog 18 #[r, .int .i64 0, V] W fun e w' => e = .returned (.bool true) ∧ Below W.heap.size W w') := by
  refine ⟨_, _, redV neg N D false, fun W v h => reftext_fun h, fun W v h => reftext_fun h, fun W => red_fun neg N D false W fN fD h0, fun W r h => is_res (over := False) neg N D false h0 rfl ?_ (.inl ⟨not_false, rfl, h⟩)⟩
  unfold redBad
  simp only [Bool.or_eq_true, overB_iff, Bool.false_eq_true, false_or, iff_false]
  omega
theorem RatN.fars {w : World} {v : Value} {x : Rat} (h : RatN w v x) : Far x.num.natAbs ∧ Far x.den := by
  obtain ⟨n, d, _, h1, h2⟩ := h
  exact ⟨far_num h1, far_num h2⟩
theorem RatN.top {w : World} {s : Bool} {n d : Value} {x : Rat} (h : RatN w (.agg #[.bool s, n, d]) x) : Num w n (x.num.natAbs : Nat) := by
  obtain ⟨n', d', e, h1, _⟩ := h
  cases e
  exact h1
theorem Sl.num {w : World} {v : Value} {xs : List Int} (h : Sl w v xs) : (∃ N : Nat, Num w v N) ∨ Bad1 w v := by
  cases hx : rightB xs
  · exact .inr ⟨xs, h, hx⟩
  · have n1 : Num w v (val xs) := ⟨xs, h, hx, rfl⟩
    have r1 := n1.range.1
    refine .inl ⟨(val xs).toNat, ?_⟩
    rw [show (((val xs).toNat : Nat) : Int) = val xs by omega]
    exact n1
theorem Num.len_any {w : World} {o : Option Addr} {n c : Nat} {D : Nat} (h : Num w (.slice o n c) D) : (D = 0 ∧ n = 0) ∨ (0 < D ∧ ((n : Int) == 0) = false) := by
  obtain ⟨_, _, _, e, _, h2, _⟩ := h.len
  cases e
  by_cases hy : D = 0
  · exact .inl ⟨hy, h2.2 (by omega)⟩
  · refine .inr ⟨Nat.pos_of_ne_zero hy, ?_⟩
    rw [beq_eq_false_iff_ne]
    intro h
    have := h2.1 (by omega)
    omega

set_option maxHeartbeats 100000000 in
set_option maxRecDepth 100000 in
theorem makes_walk (s0 : Bool) (a0 : Option Addr) (len0 cap0 : Nat) (z0 : List Int) (a1 : Option Addr) (len1 cap1 : Nat) (z1 : List Int) (t0 : Bool) (a2 : Option Addr) (len2 cap2 : Nat) (z2 : List Int) (a3 : Option Addr) (len3 cap3 : Nat) (z3 : List Int) (x0 : Bool) (w : World)
    (w0 : IsRow .u32 w a0 len0 cap0 z0) (w1 : IsRow .u32 w a1 len1 cap1 z1) (w2 : IsRow .u32 w a2 len2 cap2 z2) (w3 : IsRow .u32 w a3 len3 cap3 z3) :
    Calls Try.prog 3 #[.agg #[.bool s0, .slice a0 len0 cap0, .slice a1 len1 cap1], .agg #[.bool t0, .slice a2 len2 cap2, .slice a3 len3 cap3], .bool x0] w fun e w' => e = .returned (.bool true) ∧ Below w.heap.size w w' := by
  obtain ⟨B, ha, hb⟩ := two_start w #[.bool s0, .slice a0 len0 cap0, .slice a1 len1 cap1] #[.bool t0, .slice a2 len2 cap2, .slice a3 len3 cap3] 25
  have F := Lib.hid (fun (W : World) (B : Below w.heap.size w W) => fewR s0 a0 len0 cap0 z0 a1 len1 cap1 z1 W (w0.later B) (w1.later B))
  have G := Lib.hid (fun (W : World) (B : Below w.heap.size w W) => fewR t0 a2 len2 cap2 z2 a3 len3 cap3 z3 W (w2.later B) (w3.later B))
  clear w0 w1 w2 w3
  go_enter Try.func3, Try.ntmps3
  go_wp2_with fail
  generalize (w.alloc (.cells #[.bool s0, .slice a0 len0 cap0, .slice a1 len1 cap1] 25)).alloc (.cells #[.bool t0, .slice a2 len2 cap2, .slice a3 len3 cap3] 25) = W at *
  go_cut [] (fun wx => ∃ s t n1 d1 n2 d2 xs ys us vs, Hid (BlockAt wx w.heap.size #[.bool s, n1, d1] 25) ∧ Hid (BlockAt wx (w.heap.size + 1) #[.bool t, n2, d2] 25) ∧ Hid (Sl wx n1 xs ∧ Sl wx d1 ys ∧ Sl wx n2 us ∧ Sl wx d2 vs) ∧ Hid (Below w.heap.size w wx))
  case first =>
    have D := (Below.refl W.heap.size W).drew
    have ha := ha.below D
    have hb := hb.below D
    have B := B.drew
    have tok1 : True := trivial
    clear D
    obtain ⟨k0, k1, k2⟩ := block3 ha
    obtain ⟨k3, k4, k5⟩ := block3 hb
    go_region_with (first
      | (go_at_call 7; have _t := tok1; clear _t tok1; have tok2 : True := trivial; refine (F.out _ B).mono ?_; rintro e W2 ⟨⟨n1, d1, xs, ys, rfl, x1, x2⟩, bq⟩; obtain ⟨p1, p2, p3, rfl⟩ := x1.form; obtain ⟨q1, q2, q3, rfl⟩ := x2.form; have ha := ha.below bq; have hb := hb.below bq; have B := B.trans (bq.mono B.size); clear bq; obtain ⟨k0, k1, k2⟩ := block3 ha; obtain ⟨k3, k4, k5⟩ := block3 hb)
      | (go_at_call 7; have _t := tok2; refine (G.out _ B).mono ?_; rintro e W3 ⟨⟨n2, d2, us, vs, rfl, x3, x4⟩, bq⟩; obtain ⟨p4, p5, p6, rfl⟩ := x3.form; obtain ⟨q4, q5, q6, rfl⟩ := x4.form; have x1 := x1.below bq; have x2 := x2.below bq; have ha := ha.below bq; have hb := hb.below bq; have B := B.trans (bq.mono B.size); clear bq; obtain ⟨k0, k1, k2⟩ := block3 ha; obtain ⟨k3, k4, k5⟩ := block3 hb; have f0 := ha.free 0; have f1 := ha.free 1; have f2 := ha.free 2; have f3 := hb.free 0; have f4 := hb.free 1; have f5 := hb.free 2))
    all_goals
      obtain ⟨V, hV, y1, y2, y3, y4⟩ := both_set (a := s0) (b := t0) ha hb (Nat.le_refl _) B x1 x2 x3 x4
      have Y1 := Lib.hid y1
      have Y2 := Lib.hid y2
      have Y3 := Lib.hid y3
      have Y4 := Lib.hid y4
      have HV := Lib.hid hV
      clear y1 y2 y3 y4 hV x1 x2 x3 x4 ha hb B f0 f1 f2 f3 f4 f5 k0 k1 k2 k3 k4 k5
      go_wp2_with fail
      go_meet
      rw [← HV.out]
      exact ⟨s0, t0, _, _, _, _, _, _, _, _, Y1, Y2, Y3, Y4⟩
  case rest =>
    rename_i wc
    obtain ⟨s, t, n1, d1, n2, d2, xs, ys, us, vs, ka, kb, hsl, hB⟩ := hcut
    obtain ⟨x1, x2, x3, x4⟩ := hsl.out
    have ka := ka.out
    have kb := kb.out
    have B := hB.out
    obtain ⟨ao1, an1, ac1, rfl⟩ := x1.form
    obtain ⟨ao2, an2, ac2, rfl⟩ := x2.form
    obtain ⟨ao3, an3, ac3, rfl⟩ := x3.form
    obtain ⟨ao4, an4, ac4, rfl⟩ := x4.form
    have HX := Lib.hid (rat_ways _ s _ _ _ _ x1 x2)
    have sa : SlR wc (.agg #[.bool s, .slice ao1 an1 ac1, .slice ao2 an2 ac2]) s xs ys := ⟨_, _, rfl, x1, x2⟩
    have sb : SlR wc (.agg #[.bool t, .slice ao3 an3 ac3, .slice ao4 an4 ac4]) t us vs := ⟨_, _, rfl, x3, x4⟩
    have M1 := Lib.hid x1.num
    have M3 := Lib.hid x3.num
    clear hsl hB x1 x2 x3 x4 F G
    obtain ⟨pb, g1, g2, g3⟩ := like_facts (.agg #[.bool s, .slice ao1 an1 ac1, .slice ao2 an2 ac2]) (.agg #[.bool t, .slice ao3 an3 ac3, .slice ao4 an4 ac4]) s t xs ys us vs
    have L1 := Lib.hid g1
    have L2 := Lib.hid g2
    have L3 := Lib.hid g3
    have hpp : (pb != pb) = false := by cases pb <;> rfl
    clear g1 g2 g3
    rcases HX.out with ⟨x, hx⟩ | hbx
    · clear HX M1
      have m1 := hx.top
      obtain ⟨N, hN⟩ : ∃ N, x.num.natAbs = N := ⟨_, rfl⟩
      rw [hN] at m1
      clear hN
      obtain ⟨fx1, fx2⟩ := hx.fars
      obtain ⟨rs, V, g1, g2, g3⟩ := text_facts x fx1 fx2
      have TT := Lib.hid g1
      have TO := Lib.hid g2
      have TF := Lib.hid g3
      have hrs : (rs.toList != rs.toList) = false := by simp
      clear g1 g2 g3 fx1 fx2
      rcases M3.out with ⟨D, m3⟩ | m3
      · clear M3
        have hlen := m3.len_any
        rcases hlen with ⟨h0, h1⟩ | ⟨h0, h1⟩
        · subst h1
          rw [h0] at m3
          clear h0
          obtain ⟨ka_0, ka_1, ka_2⟩ := block3 ka
          have ka_l := ka.lt
          obtain ⟨kb_0, kb_1, kb_2⟩ := block3 kb
          have kb_l := kb.lt
          have HC := Lib.hid (make_zero x0 _ _ N _ m1 m3)
          go_wp2_with fail
          refine HC.out.mono ?_
          rintro e W1 ⟨hk, bq⟩
          clear HC
          have hx := hx.below bq
          have sa := sa.below bq
          have sb := sb.below bq
          have m1 := m1.below bq
          have m3 := m3.below bq
          have ka := ka.below bq
          have kb := kb.below bq
          have B := B.trans (bq.mono B.size)
          clear bq
          clear ka_0 ka_1 ka_2 ka_l kb_0 kb_1 kb_2 kb_l
          obtain ⟨ka_0, ka_1, ka_2⟩ := block3 ka
          have ka_l := ka.lt
          obtain ⟨kb_0, kb_1, kb_2⟩ := block3 kb
          have kb_l := kb.lt
          unfold nilRat at hk
          obtain rfl := hk
          have b4 : Below W1.heap.size W1 (W1.alloc (.cells #[.bool false, .slice none 0 0, .slice none 0 0] 25)) := (Below.refl _ _).alloc (Nat.le_refl _) _
          have kr := BlockAt.new W1 #[.bool false, .slice none 0 0, .slice none 0 0] 25
          have hx := hx.below b4
          have sa := sa.below b4
          have sb := sb.below b4
          have m1 := m1.below b4
          have m3 := m3.below b4
          have ka := ka.below b4
          have kb := kb.below b4
          have B := B.trans (b4.mono B.size)
          clear b4
          have HC := Lib.hid (TT.out _ _ hx)
          go_wp2_with fail
          refine HC.out.mono ?_
          rintro e W2 ⟨rfl, bq⟩
          clear HC
          have hx := hx.below bq
          have sa := sa.below bq
          have sb := sb.below bq
          have m1 := m1.below bq
          have m3 := m3.below bq
          have ka := ka.below bq
          have kb := kb.below bq
          have kr := kr.below bq
          have B := B.trans (bq.mono B.size)
          clear bq
          clear ka_0 ka_1 ka_2 ka_l kb_0 kb_1 kb_2 kb_l
          obtain ⟨ka_0, ka_1, ka_2⟩ := block3 ka
          have ka_l := ka.lt
          obtain ⟨kb_0, kb_1, kb_2⟩ := block3 kb
          have kb_l := kb.lt
          obtain ⟨kr_0, kr_1, kr_2⟩ := block3 kr
          have kr_l := kr.lt
          go_wp2_with fail
          have hx := hx.below ((Below.refl W2.heap.size W2).drew)
          have sa := sa.below ((Below.refl W2.heap.size W2).drew)
          have sb := sb.below ((Below.refl W2.heap.size W2).drew)
          have m1 := m1.below ((Below.refl W2.heap.size W2).drew)
          have m3 := m3.below ((Below.refl W2.heap.size W2).drew)
          have ka := ka.below ((Below.refl W2.heap.size W2).drew)
          have kb := kb.below ((Below.refl W2.heap.size W2).drew)
          have kr := kr.below ((Below.refl W2.heap.size W2).drew)
          have B := B.drew
          clear ka_0 ka_1 ka_2 ka_l kb_0 kb_1 kb_2 kb_l kr_0 kr_1 kr_2 kr_l
          obtain ⟨ka_0, ka_1, ka_2⟩ := block3 ka
          have ka_l := ka.lt
          obtain ⟨kb_0, kb_1, kb_2⟩ := block3 kb
          have kb_l := kb.lt
          obtain ⟨kr_0, kr_1, kr_2⟩ := block3 kr
          have kr_l := kr.lt
          have tok0 : True := trivial
          go_region_held3 (fun w' => w'.cell? ⟨w.heap.size, 0, none⟩ = some (.bool s) ∧ w'.cell? ⟨w.heap.size, 1, none⟩ = some (.slice ao1 an1 ac1) ∧ w'.cell? ⟨w.heap.size, 2, none⟩ = some (.slice ao2 an2 ac2) ∧ w'.cell? ⟨w.heap.size + 1, 0, none⟩ = some (.bool t) ∧ w'.cell? ⟨w.heap.size + 1, 1, none⟩ = some (.slice ao3 0 ac3) ∧ w'.cell? ⟨w.heap.size + 1, 2, none⟩ = some (.slice ao4 an4 ac4))
            (first | go_keep | (exact ⟨ka_0, ka_1, ka_2, kb_0, kb_1, kb_2⟩))
            (first | (go_at_call 10; have _t := tok0; clear _t tok0; have tok1 : True := trivial; refine (right_rat hx).mono ?_; rintro e W3 ⟨rfl, bq⟩; have hx := hx.below bq; have sa := sa.below bq; have sb := sb.below bq; have m1 := m1.below bq; have m3 := m3.below bq; have ka := ka.below bq; have kb := kb.below bq; have kr := kr.below bq; have B := B.trans (bq.mono B.size); clear bq; clear ka_0 ka_1 ka_2 ka_l kb_0 kb_1 kb_2 kb_l kr_0 kr_1 kr_2 kr_l; obtain ⟨ka_0, ka_1, ka_2⟩ := block3 ka; have ka_l := ka.lt; obtain ⟨kb_0, kb_1, kb_2⟩ := block3 kb; have kb_l := kb.lt; obtain ⟨kr_0, kr_1, kr_2⟩ := block3 kr; have kr_l := kr.lt) | (go_at_call 11; have _t := tok1; clear _t tok1; have tok2 : True := trivial; refine (refR_rat hx).mono ?_; rintro e W4 ⟨rfl, bq⟩; have hx := hx.below bq; have sa := sa.below bq; have sb := sb.below bq; have m1 := m1.below bq; have m3 := m3.below bq; have ka := ka.below bq; have kb := kb.below bq; have kr := kr.below bq; have B := B.trans (bq.mono B.size); clear bq; clear ka_0 ka_1 ka_2 ka_l kb_0 kb_1 kb_2 kb_l kr_0 kr_1 kr_2 kr_l; obtain ⟨ka_0, ka_1, ka_2⟩ := block3 ka; have ka_l := ka.lt; obtain ⟨kb_0, kb_1, kb_2⟩ := block3 kb; have kb_l := kb.lt; obtain ⟨kr_0, kr_1, kr_2⟩ := block3 kr; have kr_l := kr.lt) | (go_at_call 12; have _t := tok2; clear _t tok2; have tok3 : True := trivial; refine (L1.out _ sa sb).mono ?_; rintro e W5 ⟨rfl, bq⟩; have hx := hx.below bq; have sa := sa.below bq; have sb := sb.below bq; have m1 := m1.below bq; have m3 := m3.below bq; have ka := ka.below bq; have kb := kb.below bq; have kr := kr.below bq; have B := B.trans (bq.mono B.size); clear bq; clear ka_0 ka_1 ka_2 ka_l kb_0 kb_1 kb_2 kb_l kr_0 kr_1 kr_2 kr_l; obtain ⟨ka_0, ka_1, ka_2⟩ := block3 ka; have ka_l := ka.lt; obtain ⟨kb_0, kb_1, kb_2⟩ := block3 kb; have kb_l := kb.lt; obtain ⟨kr_0, kr_1, kr_2⟩ := block3 kr; have kr_l := kr.lt) | (go_at_call 13; have _t := tok3; clear _t tok3; have tok4 : True := trivial; refine (L2.out _ sa sb).mono ?_; rintro e W6 ⟨rfl, bq⟩; have hx := hx.below bq; have sa := sa.below bq; have sb := sb.below bq; have m1 := m1.below bq; have m3 := m3.below bq; have ka := ka.below bq; have kb := kb.below bq; have kr := kr.below bq; have B := B.trans (bq.mono B.size); clear bq; clear ka_0 ka_1 ka_2 ka_l kb_0 kb_1 kb_2 kb_l kr_0 kr_1 kr_2 kr_l; obtain ⟨ka_0, ka_1, ka_2⟩ := block3 ka; have ka_l := ka.lt; obtain ⟨kb_0, kb_1, kb_2⟩ := block3 kb; have kb_l := kb.lt; obtain ⟨kr_0, kr_1, kr_2⟩ := block3 kr; have kr_l := kr.lt) | (go_at_call 12; have _t := tok4; clear _t tok4; have tok5 : True := trivial; refine (L3.out _ sa).mono ?_; rintro e W7 ⟨rfl, bq⟩; have hx := hx.below bq; have sa := sa.below bq; have sb := sb.below bq; have m1 := m1.below bq; have m3 := m3.below bq; have ka := ka.below bq; have kb := kb.below bq; have kr := kr.below bq; have B := B.trans (bq.mono B.size); clear bq; clear ka_0 ka_1 ka_2 ka_l kb_0 kb_1 kb_2 kb_l kr_0 kr_1 kr_2 kr_l; obtain ⟨ka_0, ka_1, ka_2⟩ := block3 ka; have ka_l := ka.lt; obtain ⟨kb_0, kb_1, kb_2⟩ := block3 kb; have kb_l := kb.lt; obtain ⟨kr_0, kr_1, kr_2⟩ := block3 kr; have kr_l := kr.lt) | (go_at_call 14; have _t := tok5; clear _t tok5; have tok6 : True := trivial; refine (aliveR _).mono ?_; rintro e W8 ⟨rfl, bq⟩; have hx := hx.below bq; have sa := sa.below bq; have sb := sb.below bq; have m1 := m1.below bq; have m3 := m3.below bq; have ka := ka.below bq; have kb := kb.below bq; have kr := kr.below bq; have B := B.trans (bq.mono B.size); clear bq; clear ka_0 ka_1 ka_2 ka_l kb_0 kb_1 kb_2 kb_l kr_0 kr_1 kr_2 kr_l; obtain ⟨ka_0, ka_1, ka_2⟩ := block3 ka; have ka_l := ka.lt; obtain ⟨kb_0, kb_1, kb_2⟩ := block3 kb; have kb_l := kb.lt; obtain ⟨kr_0, kr_1, kr_2⟩ := block3 kr; have kr_l := kr.lt))
          clear tok6
          clear sa sb
          have HC := Lib.hid (refR_rat hx)
          go_wp2_with fail
          refine HC.out.mono ?_
          rintro e W9 ⟨rfl, bq⟩
          clear HC
          have hx := hx.below bq
          have m1 := m1.below bq
          have m3 := m3.below bq
          have ka := ka.below bq
          have kb := kb.below bq
          have kr := kr.below bq
          have B := B.trans (bq.mono B.size)
          clear bq
          clear ka_0 ka_1 ka_2 ka_l kb_0 kb_1 kb_2 kb_l kr_0 kr_1 kr_2 kr_l
          obtain ⟨ka_0, ka_1, ka_2⟩ := block3 ka
          have ka_l := ka.lt
          obtain ⟨kb_0, kb_1, kb_2⟩ := block3 kb
          have kb_l := kb.lt
          obtain ⟨kr_0, kr_1, kr_2⟩ := block3 kr
          have kr_l := kr.lt
          have HC := Lib.hid (TO.out _ _ hx)
          go_wp2_with fail
          refine HC.out.mono ?_
          rintro e W10 ⟨rfl, bq⟩
          clear HC
          have hx := hx.below bq
          have m1 := m1.below bq
          have m3 := m3.below bq
          have ka := ka.below bq
          have kb := kb.below bq
          have kr := kr.below bq
          have B := B.trans (bq.mono B.size)
          clear bq
          clear ka_0 ka_1 ka_2 ka_l kb_0 kb_1 kb_2 kb_l kr_0 kr_1 kr_2 kr_l
          obtain ⟨ka_0, ka_1, ka_2⟩ := block3 ka
          have ka_l := ka.lt
          obtain ⟨kb_0, kb_1, kb_2⟩ := block3 kb
          have kb_l := kb.lt
          obtain ⟨kr_0, kr_1, kr_2⟩ := block3 kr
          have kr_l := kr.lt
          have HC := Lib.hid (TF.out W10)
          go_wp2_with fail
          refine HC.out.mono ?_
          rintro e W11 ⟨rfl, bq⟩
          clear HC
          have hx := hx.below bq
          have m1 := m1.below bq
          have m3 := m3.below bq
          have ka := ka.below bq
          have kb := kb.below bq
          have kr := kr.below bq
          have B := B.trans (bq.mono B.size)
          clear bq
          clear ka_0 ka_1 ka_2 ka_l kb_0 kb_1 kb_2 kb_l kr_0 kr_1 kr_2 kr_l
          obtain ⟨ka_0, ka_1, ka_2⟩ := block3 ka
          have ka_l := ka.lt
          obtain ⟨kb_0, kb_1, kb_2⟩ := block3 kb
          have kb_l := kb.lt
          obtain ⟨kr_0, kr_1, kr_2⟩ := block3 kr
          have kr_l := kr.lt
          have HC := Lib.hid (refR_rat hx)
          go_wp2_with fail
          refine HC.out.mono ?_
          rintro e W12 ⟨rfl, bq⟩
          clear HC
          have hx := hx.below bq
          have m1 := m1.below bq
          have m3 := m3.below bq
          have ka := ka.below bq
          have kb := kb.below bq
          have kr := kr.below bq
          have B := B.trans (bq.mono B.size)
          clear bq
          clear ka_0 ka_1 ka_2 ka_l kb_0 kb_1 kb_2 kb_l kr_0 kr_1 kr_2 kr_l
          obtain ⟨ka_0, ka_1, ka_2⟩ := block3 ka
          have ka_l := ka.lt
          obtain ⟨kb_0, kb_1, kb_2⟩ := block3 kb
          have kb_l := kb.lt
          obtain ⟨kr_0, kr_1, kr_2⟩ := block3 kr
          have kr_l := kr.lt
          clear hx
          have HC := Lib.hid (refright_num m1)
          go_wp2_with fail
          refine HC.out.mono ?_
          rintro e w' ⟨rfl, rfl⟩
          clear HC
          have HC := Lib.hid (refright_num m3)
          go_wp2_with fail
          refine HC.out.mono ?_
          rintro e w' ⟨rfl, rfl⟩
          clear HC
          have HC := Lib.hid (same_none W12)
          go_wp2_with fail
          refine HC.out.mono ?_
          rintro e W13 ⟨rfl, bq⟩
          clear HC
          have m1 := m1.below bq
          have m3 := m3.below bq
          have ka := ka.below bq
          have kb := kb.below bq
          have kr := kr.below bq
          have B := B.trans (bq.mono B.size)
          clear bq
          clear ka_0 ka_1 ka_2 ka_l kb_0 kb_1 kb_2 kb_l kr_0 kr_1 kr_2 kr_l
          obtain ⟨ka_0, ka_1, ka_2⟩ := block3 ka
          have ka_l := ka.lt
          obtain ⟨kb_0, kb_1, kb_2⟩ := block3 kb
          have kb_l := kb.lt
          obtain ⟨kr_0, kr_1, kr_2⟩ := block3 kr
          have kr_l := kr.lt
          go_wp2_with fail
          go_ret
          exact ⟨rfl, B⟩
        · have HD := Lib.hid h0
          obtain ⟨q1, q2, V2, g4, g5, g6, g7⟩ := make_facts x0 N D m1.range.2 m3.range.2 (far_num m1) (far_num m3) h0
          have MT := Lib.hid g4
          have MU := Lib.hid g5
          have MR := Lib.hid g6
          have MI := Lib.hid g7
          clear h0 g4 g5 g6 g7
          obtain ⟨ka_0, ka_1, ka_2⟩ := block3 ka
          have ka_l := ka.lt
          obtain ⟨kb_0, kb_1, kb_2⟩ := block3 kb
          have kb_l := kb.lt
          have HC := Lib.hid (make_num x0 _ _ N D _ m1 m3 HD.out)
          go_wp2_with fail
          refine HC.out.mono ?_
          rintro e W1 ⟨⟨r, rfl, hr⟩, bq⟩
          clear HC
          have hx := hx.below bq
          have sa := sa.below bq
          have sb := sb.below bq
          have m1 := m1.below bq
          have m3 := m3.below bq
          have ka := ka.below bq
          have kb := kb.below bq
          have B := B.trans (bq.mono B.size)
          clear bq
          clear ka_0 ka_1 ka_2 ka_l kb_0 kb_1 kb_2 kb_l
          obtain ⟨ka_0, ka_1, ka_2⟩ := block3 ka
          have ka_l := ka.lt
          obtain ⟨kb_0, kb_1, kb_2⟩ := block3 kb
          have kb_l := kb.lt
          obtain ⟨t1_, oa1, na1, ca1, ob1, nb1, cb1, rfl⟩ := RawN.form hr
          have b4 : Below W1.heap.size W1 (W1.alloc (.cells #[.bool t1_, .slice oa1 na1 ca1, .slice ob1 nb1 cb1] 25)) := (Below.refl _ _).alloc (Nat.le_refl _) _
          have kr := BlockAt.new W1 #[.bool t1_, .slice oa1 na1 ca1, .slice ob1 nb1 cb1] 25
          have hx := hx.below b4
          have sa := sa.below b4
          have sb := sb.below b4
          have m1 := m1.below b4
          have m3 := m3.below b4
          have hr := hr.below b4
          have ka := ka.below b4
          have kb := kb.below b4
          have B := B.trans (b4.mono B.size)
          clear b4
          have HC := Lib.hid (TT.out _ _ hx)
          go_wp2_with fail
          refine HC.out.mono ?_
          rintro e W2 ⟨rfl, bq⟩
          clear HC
          have hx := hx.below bq
          have sa := sa.below bq
          have sb := sb.below bq
          have m1 := m1.below bq
          have m3 := m3.below bq
          have hr := hr.below bq
          have ka := ka.below bq
          have kb := kb.below bq
          have kr := kr.below bq
          have B := B.trans (bq.mono B.size)
          clear bq
          clear ka_0 ka_1 ka_2 ka_l kb_0 kb_1 kb_2 kb_l
          obtain ⟨ka_0, ka_1, ka_2⟩ := block3 ka
          have ka_l := ka.lt
          obtain ⟨kb_0, kb_1, kb_2⟩ := block3 kb
          have kb_l := kb.lt
          obtain ⟨kr_0, kr_1, kr_2⟩ := block3 kr
          have kr_l := kr.lt
          go_wp2_with fail
          have hx := hx.below ((Below.refl W2.heap.size W2).drew)
          have sa := sa.below ((Below.refl W2.heap.size W2).drew)
          have sb := sb.below ((Below.refl W2.heap.size W2).drew)
          have m1 := m1.below ((Below.refl W2.heap.size W2).drew)
          have m3 := m3.below ((Below.refl W2.heap.size W2).drew)
          have hr := hr.below ((Below.refl W2.heap.size W2).drew)
          have ka := ka.below ((Below.refl W2.heap.size W2).drew)
          have kb := kb.below ((Below.refl W2.heap.size W2).drew)
          have kr := kr.below ((Below.refl W2.heap.size W2).drew)
          have B := B.drew
          clear ka_0 ka_1 ka_2 ka_l kb_0 kb_1 kb_2 kb_l kr_0 kr_1 kr_2 kr_l
          obtain ⟨ka_0, ka_1, ka_2⟩ := block3 ka
          have ka_l := ka.lt
          obtain ⟨kb_0, kb_1, kb_2⟩ := block3 kb
          have kb_l := kb.lt
          obtain ⟨kr_0, kr_1, kr_2⟩ := block3 kr
          have kr_l := kr.lt
          have tok0 : True := trivial
          go_region_held3 (fun w' => w'.cell? ⟨w.heap.size, 0, none⟩ = some (.bool s) ∧ w'.cell? ⟨w.heap.size, 1, none⟩ = some (.slice ao1 an1 ac1) ∧ w'.cell? ⟨w.heap.size, 2, none⟩ = some (.slice ao2 an2 ac2) ∧ w'.cell? ⟨w.heap.size + 1, 0, none⟩ = some (.bool t) ∧ w'.cell? ⟨w.heap.size + 1, 1, none⟩ = some (.slice ao3 an3 ac3) ∧ w'.cell? ⟨w.heap.size + 1, 2, none⟩ = some (.slice ao4 an4 ac4))
            (first | go_keep | (exact ⟨ka_0, ka_1, ka_2, kb_0, kb_1, kb_2⟩))
            (first | (go_at_call 10; have _t := tok0; clear _t tok0; have tok1 : True := trivial; refine (right_rat hx).mono ?_; rintro e W3 ⟨rfl, bq⟩; have hx := hx.below bq; have sa := sa.below bq; have sb := sb.below bq; have m1 := m1.below bq; have m3 := m3.below bq; have hr := hr.below bq; have ka := ka.below bq; have kb := kb.below bq; have kr := kr.below bq; have B := B.trans (bq.mono B.size); clear bq; clear ka_0 ka_1 ka_2 ka_l kb_0 kb_1 kb_2 kb_l kr_0 kr_1 kr_2 kr_l; obtain ⟨ka_0, ka_1, ka_2⟩ := block3 ka; have ka_l := ka.lt; obtain ⟨kb_0, kb_1, kb_2⟩ := block3 kb; have kb_l := kb.lt; obtain ⟨kr_0, kr_1, kr_2⟩ := block3 kr; have kr_l := kr.lt) | (go_at_call 11; have _t := tok1; clear _t tok1; have tok2 : True := trivial; refine (refR_rat hx).mono ?_; rintro e W4 ⟨rfl, bq⟩; have hx := hx.below bq; have sa := sa.below bq; have sb := sb.below bq; have m1 := m1.below bq; have m3 := m3.below bq; have hr := hr.below bq; have ka := ka.below bq; have kb := kb.below bq; have kr := kr.below bq; have B := B.trans (bq.mono B.size); clear bq; clear ka_0 ka_1 ka_2 ka_l kb_0 kb_1 kb_2 kb_l kr_0 kr_1 kr_2 kr_l; obtain ⟨ka_0, ka_1, ka_2⟩ := block3 ka; have ka_l := ka.lt; obtain ⟨kb_0, kb_1, kb_2⟩ := block3 kb; have kb_l := kb.lt; obtain ⟨kr_0, kr_1, kr_2⟩ := block3 kr; have kr_l := kr.lt) | (go_at_call 12; have _t := tok2; clear _t tok2; have tok3 : True := trivial; refine (L1.out _ sa sb).mono ?_; rintro e W5 ⟨rfl, bq⟩; have hx := hx.below bq; have sa := sa.below bq; have sb := sb.below bq; have m1 := m1.below bq; have m3 := m3.below bq; have hr := hr.below bq; have ka := ka.below bq; have kb := kb.below bq; have kr := kr.below bq; have B := B.trans (bq.mono B.size); clear bq; clear ka_0 ka_1 ka_2 ka_l kb_0 kb_1 kb_2 kb_l kr_0 kr_1 kr_2 kr_l; obtain ⟨ka_0, ka_1, ka_2⟩ := block3 ka; have ka_l := ka.lt; obtain ⟨kb_0, kb_1, kb_2⟩ := block3 kb; have kb_l := kb.lt; obtain ⟨kr_0, kr_1, kr_2⟩ := block3 kr; have kr_l := kr.lt) | (go_at_call 13; have _t := tok3; clear _t tok3; have tok4 : True := trivial; refine (L2.out _ sa sb).mono ?_; rintro e W6 ⟨rfl, bq⟩; have hx := hx.below bq; have sa := sa.below bq; have sb := sb.below bq; have m1 := m1.below bq; have m3 := m3.below bq; have hr := hr.below bq; have ka := ka.below bq; have kb := kb.below bq; have kr := kr.below bq; have B := B.trans (bq.mono B.size); clear bq; clear ka_0 ka_1 ka_2 ka_l kb_0 kb_1 kb_2 kb_l kr_0 kr_1 kr_2 kr_l; obtain ⟨ka_0, ka_1, ka_2⟩ := block3 ka; have ka_l := ka.lt; obtain ⟨kb_0, kb_1, kb_2⟩ := block3 kb; have kb_l := kb.lt; obtain ⟨kr_0, kr_1, kr_2⟩ := block3 kr; have kr_l := kr.lt) | (go_at_call 12; have _t := tok4; clear _t tok4; have tok5 : True := trivial; refine (L3.out _ sa).mono ?_; rintro e W7 ⟨rfl, bq⟩; have hx := hx.below bq; have sa := sa.below bq; have sb := sb.below bq; have m1 := m1.below bq; have m3 := m3.below bq; have hr := hr.below bq; have ka := ka.below bq; have kb := kb.below bq; have kr := kr.below bq; have B := B.trans (bq.mono B.size); clear bq; clear ka_0 ka_1 ka_2 ka_l kb_0 kb_1 kb_2 kb_l kr_0 kr_1 kr_2 kr_l; obtain ⟨ka_0, ka_1, ka_2⟩ := block3 ka; have ka_l := ka.lt; obtain ⟨kb_0, kb_1, kb_2⟩ := block3 kb; have kb_l := kb.lt; obtain ⟨kr_0, kr_1, kr_2⟩ := block3 kr; have kr_l := kr.lt) | (go_at_call 14; have _t := tok5; clear _t tok5; have tok6 : True := trivial; refine (aliveR _).mono ?_; rintro e W8 ⟨rfl, bq⟩; have hx := hx.below bq; have sa := sa.below bq; have sb := sb.below bq; have m1 := m1.below bq; have m3 := m3.below bq; have hr := hr.below bq; have ka := ka.below bq; have kb := kb.below bq; have kr := kr.below bq; have B := B.trans (bq.mono B.size); clear bq; clear ka_0 ka_1 ka_2 ka_l kb_0 kb_1 kb_2 kb_l kr_0 kr_1 kr_2 kr_l; obtain ⟨ka_0, ka_1, ka_2⟩ := block3 ka; have ka_l := ka.lt; obtain ⟨kb_0, kb_1, kb_2⟩ := block3 kb; have kb_l := kb.lt; obtain ⟨kr_0, kr_1, kr_2⟩ := block3 kr; have kr_l := kr.lt))
          clear tok6
          clear sa sb
          have HC := Lib.hid (refR_rat hx)
          go_wp2_with fail
          refine HC.out.mono ?_
          rintro e W9 ⟨rfl, bq⟩
          clear HC
          have hx := hx.below bq
          have m1 := m1.below bq
          have m3 := m3.below bq
          have hr := hr.below bq
          have ka := ka.below bq
          have kb := kb.below bq
          have kr := kr.below bq
          have B := B.trans (bq.mono B.size)
          clear bq
          clear ka_0 ka_1 ka_2 ka_l kb_0 kb_1 kb_2 kb_l kr_0 kr_1 kr_2 kr_l
          obtain ⟨ka_0, ka_1, ka_2⟩ := block3 ka
          have ka_l := ka.lt
          obtain ⟨kb_0, kb_1, kb_2⟩ := block3 kb
          have kb_l := kb.lt
          obtain ⟨kr_0, kr_1, kr_2⟩ := block3 kr
          have kr_l := kr.lt
          have HC := Lib.hid (TO.out _ _ hx)
          go_wp2_with fail
          refine HC.out.mono ?_
          rintro e W10 ⟨rfl, bq⟩
          clear HC
          have hx := hx.below bq
          have m1 := m1.below bq
          have m3 := m3.below bq
          have hr := hr.below bq
          have ka := ka.below bq
          have kb := kb.below bq
          have kr := kr.below bq
          have B := B.trans (bq.mono B.size)
          clear bq
          clear ka_0 ka_1 ka_2 ka_l kb_0 kb_1 kb_2 kb_l kr_0 kr_1 kr_2 kr_l
          obtain ⟨ka_0, ka_1, ka_2⟩ := block3 ka
          have ka_l := ka.lt
          obtain ⟨kb_0, kb_1, kb_2⟩ := block3 kb
          have kb_l := kb.lt
          obtain ⟨kr_0, kr_1, kr_2⟩ := block3 kr
          have kr_l := kr.lt
          have HC := Lib.hid (TF.out W10)
          go_wp2_with fail
          refine HC.out.mono ?_
          rintro e W11 ⟨rfl, bq⟩
          clear HC
          have hx := hx.below bq
          have m1 := m1.below bq
          have m3 := m3.below bq
          have hr := hr.below bq
          have ka := ka.below bq
          have kb := kb.below bq
          have kr := kr.below bq
          have B := B.trans (bq.mono B.size)
          clear bq
          clear ka_0 ka_1 ka_2 ka_l kb_0 kb_1 kb_2 kb_l kr_0 kr_1 kr_2 kr_l
          obtain ⟨ka_0, ka_1, ka_2⟩ := block3 ka
          have ka_l := ka.lt
          obtain ⟨kb_0, kb_1, kb_2⟩ := block3 kb
          have kb_l := kb.lt
          obtain ⟨kr_0, kr_1, kr_2⟩ := block3 kr
          have kr_l := kr.lt
          have HC := Lib.hid (refR_rat hx)
          go_wp2_with fail
          refine HC.out.mono ?_
          rintro e W12 ⟨rfl, bq⟩
          clear HC
          have hx := hx.below bq
          have m1 := m1.below bq
          have m3 := m3.below bq
          have hr := hr.below bq
          have ka := ka.below bq
          have kb := kb.below bq
          have kr := kr.below bq
          have B := B.trans (bq.mono B.size)
          clear bq
          clear ka_0 ka_1 ka_2 ka_l kb_0 kb_1 kb_2 kb_l kr_0 kr_1 kr_2 kr_l
          obtain ⟨ka_0, ka_1, ka_2⟩ := block3 ka
          have ka_l := ka.lt
          obtain ⟨kb_0, kb_1, kb_2⟩ := block3 kb
          have kb_l := kb.lt
          obtain ⟨kr_0, kr_1, kr_2⟩ := block3 kr
          have kr_l := kr.lt
          clear hx
          have HC := Lib.hid (refright_num m1)
          go_wp2_with fail
          refine HC.out.mono ?_
          rintro e w' ⟨rfl, rfl⟩
          clear HC
          have HC := Lib.hid (refright_num m3)
          go_wp2_with fail
          refine HC.out.mono ?_
          rintro e w' ⟨rfl, rfl⟩
          clear HC
          go_wp2_with fail
          have m1 := m1.below ((Below.refl W12.heap.size W12).drew)
          have m3 := m3.below ((Below.refl W12.heap.size W12).drew)
          have hr := hr.below ((Below.refl W12.heap.size W12).drew)
          have ka := ka.below ((Below.refl W12.heap.size W12).drew)
          have kb := kb.below ((Below.refl W12.heap.size W12).drew)
          have kr := kr.below ((Below.refl W12.heap.size W12).drew)
          have B := B.drew
          clear ka_0 ka_1 ka_2 ka_l kb_0 kb_1 kb_2 kb_l kr_0 kr_1 kr_2 kr_l
          obtain ⟨ka_0, ka_1, ka_2⟩ := block3 ka
          have ka_l := ka.lt
          obtain ⟨kb_0, kb_1, kb_2⟩ := block3 kb
          have kb_l := kb.lt
          obtain ⟨kr_0, kr_1, kr_2⟩ := block3 kr
          have kr_l := kr.lt
          have tok0 : True := trivial
          go_region_held3 (fun w' => w'.cell? ⟨W1.heap.size, 0, none⟩ = some (.bool t1_) ∧ w'.cell? ⟨W1.heap.size, 1, none⟩ = some (.slice oa1 na1 ca1) ∧ w'.cell? ⟨W1.heap.size, 2, none⟩ = some (.slice ob1 nb1 cb1) ∧ w'.cell? ⟨w.heap.size, 1, none⟩ = some (.slice ao1 an1 ac1) ∧ w'.cell? ⟨w.heap.size + 1, 1, none⟩ = some (.slice ao3 an3 ac3))
            (first | go_keep | (exact ⟨kr_0, kr_1, kr_2, ka_1, kb_1⟩))
            (first | (go_at_call 20; have _t := tok0; clear _t tok0; have tok1 : True := trivial; refine (MT.out _ _ m1).mono ?_; rintro e W13 ⟨rfl, bq⟩; have m1 := m1.below bq; have m3 := m3.below bq; have hr := hr.below bq; have ka := ka.below bq; have kb := kb.below bq; have kr := kr.below bq; have B := B.trans (bq.mono B.size); clear bq; clear ka_0 ka_1 ka_2 ka_l kb_0 kb_1 kb_2 kb_l kr_0 kr_1 kr_2 kr_l; obtain ⟨ka_0, ka_1, ka_2⟩ := block3 ka; have ka_l := ka.lt; obtain ⟨kb_0, kb_1, kb_2⟩ := block3 kb; have kb_l := kb.lt; obtain ⟨kr_0, kr_1, kr_2⟩ := block3 kr; have kr_l := kr.lt) | (go_at_call 20; have _t := tok1; clear _t tok1; have tok2 : True := trivial; refine (MU.out _ _ m3).mono ?_; rintro e W14 ⟨rfl, bq⟩; have m1 := m1.below bq; have m3 := m3.below bq; have hr := hr.below bq; have ka := ka.below bq; have kb := kb.below bq; have kr := kr.below bq; have B := B.trans (bq.mono B.size); clear bq; clear ka_0 ka_1 ka_2 ka_l kb_0 kb_1 kb_2 kb_l kr_0 kr_1 kr_2 kr_l; obtain ⟨ka_0, ka_1, ka_2⟩ := block3 ka; have ka_l := ka.lt; obtain ⟨kb_0, kb_1, kb_2⟩ := block3 kb; have kb_l := kb.lt; obtain ⟨kr_0, kr_1, kr_2⟩ := block3 kr; have kr_l := kr.lt) | (go_at_call 19; have _t := tok2; clear _t tok2; have tok3 : True := trivial; refine (MR.out _).mono ?_; rintro e W15 ⟨rfl, bq⟩; have m1 := m1.below bq; have m3 := m3.below bq; have hr := hr.below bq; have ka := ka.below bq; have kb := kb.below bq; have kr := kr.below bq; have B := B.trans (bq.mono B.size); clear bq; clear ka_0 ka_1 ka_2 ka_l kb_0 kb_1 kb_2 kb_l kr_0 kr_1 kr_2 kr_l; obtain ⟨ka_0, ka_1, ka_2⟩ := block3 ka; have ka_l := ka.lt; obtain ⟨kb_0, kb_1, kb_2⟩ := block3 kb; have kb_l := kb.lt; obtain ⟨kr_0, kr_1, kr_2⟩ := block3 kr; have kr_l := kr.lt) | (go_at_call 18; have _t := tok3; clear _t tok3; have tok4 : True := trivial; refine (MI.out _ _ hr).mono ?_; rintro e W16 ⟨rfl, bq⟩; have m1 := m1.below bq; have m3 := m3.below bq; have hr := hr.below bq; have ka := ka.below bq; have kb := kb.below bq; have kr := kr.below bq; have B := B.trans (bq.mono B.size); clear bq; clear ka_0 ka_1 ka_2 ka_l kb_0 kb_1 kb_2 kb_l kr_0 kr_1 kr_2 kr_l; obtain ⟨ka_0, ka_1, ka_2⟩ := block3 ka; have ka_l := ka.lt; obtain ⟨kb_0, kb_1, kb_2⟩ := block3 kb; have kb_l := kb.lt; obtain ⟨kr_0, kr_1, kr_2⟩ := block3 kr; have kr_l := kr.lt))
          clear tok4
          go_wp2_with fail
          go_ret
          exact ⟨rfl, B⟩
      · clear M3
        obtain ⟨ka_0, ka_1, ka_2⟩ := block3 ka
        have ka_l := ka.lt
        obtain ⟨kb_0, kb_1, kb_2⟩ := block3 kb
        have kb_l := kb.lt
        have HC := Lib.hid (make_bad x0 _ _ _ (.inr ⟨⟨_, m1⟩, m3⟩))
        go_wp2_with fail
        refine HC.out.mono ?_
        rintro e W1 ⟨hk, bq⟩
        clear HC
        have hx := hx.below bq
        have sa := sa.below bq
        have sb := sb.below bq
        have m1 := m1.below bq
        have m3 := m3.below bq
        have ka := ka.below bq
        have kb := kb.below bq
        have B := B.trans (bq.mono B.size)
        clear bq
        clear ka_0 ka_1 ka_2 ka_l kb_0 kb_1 kb_2 kb_l
        obtain ⟨ka_0, ka_1, ka_2⟩ := block3 ka
        have ka_l := ka.lt
        obtain ⟨kb_0, kb_1, kb_2⟩ := block3 kb
        have kb_l := kb.lt
        unfold nilRat at hk
        obtain rfl := hk
        have b4 : Below W1.heap.size W1 (W1.alloc (.cells #[.bool false, .slice none 0 0, .slice none 0 0] 25)) := (Below.refl _ _).alloc (Nat.le_refl _) _
        have kr := BlockAt.new W1 #[.bool false, .slice none 0 0, .slice none 0 0] 25
        have hx := hx.below b4
        have sa := sa.below b4
        have sb := sb.below b4
        have m1 := m1.below b4
        have m3 := m3.below b4
        have ka := ka.below b4
        have kb := kb.below b4
        have B := B.trans (b4.mono B.size)
        clear b4
        have HC := Lib.hid (TT.out _ _ hx)
        go_wp2_with fail
        refine HC.out.mono ?_
        rintro e W2 ⟨rfl, bq⟩
        clear HC
        have hx := hx.below bq
        have sa := sa.below bq
        have sb := sb.below bq
        have m1 := m1.below bq
        have m3 := m3.below bq
        have ka := ka.below bq
        have kb := kb.below bq
        have kr := kr.below bq
        have B := B.trans (bq.mono B.size)
        clear bq
        clear ka_0 ka_1 ka_2 ka_l kb_0 kb_1 kb_2 kb_l
        obtain ⟨ka_0, ka_1, ka_2⟩ := block3 ka
        have ka_l := ka.lt
        obtain ⟨kb_0, kb_1, kb_2⟩ := block3 kb
        have kb_l := kb.lt
        obtain ⟨kr_0, kr_1, kr_2⟩ := block3 kr
        have kr_l := kr.lt
        go_wp2_with fail
        have hx := hx.below ((Below.refl W2.heap.size W2).drew)
        have sa := sa.below ((Below.refl W2.heap.size W2).drew)
        have sb := sb.below ((Below.refl W2.heap.size W2).drew)
        have m1 := m1.below ((Below.refl W2.heap.size W2).drew)
        have m3 := m3.below ((Below.refl W2.heap.size W2).drew)
        have ka := ka.below ((Below.refl W2.heap.size W2).drew)
        have kb := kb.below ((Below.refl W2.heap.size W2).drew)
        have kr := kr.below ((Below.refl W2.heap.size W2).drew)
        have B := B.drew
        clear ka_0 ka_1 ka_2 ka_l kb_0 kb_1 kb_2 kb_l kr_0 kr_1 kr_2 kr_l
        obtain ⟨ka_0, ka_1, ka_2⟩ := block3 ka
        have ka_l := ka.lt
        obtain ⟨kb_0, kb_1, kb_2⟩ := block3 kb
        have kb_l := kb.lt
        obtain ⟨kr_0, kr_1, kr_2⟩ := block3 kr
        have kr_l := kr.lt
        have tok0 : True := trivial
        go_region_held3 (fun w' => w'.cell? ⟨w.heap.size, 0, none⟩ = some (.bool s) ∧ w'.cell? ⟨w.heap.size, 1, none⟩ = some (.slice ao1 an1 ac1) ∧ w'.cell? ⟨w.heap.size, 2, none⟩ = some (.slice ao2 an2 ac2) ∧ w'.cell? ⟨w.heap.size + 1, 0, none⟩ = some (.bool t) ∧ w'.cell? ⟨w.heap.size + 1, 1, none⟩ = some (.slice ao3 an3 ac3) ∧ w'.cell? ⟨w.heap.size + 1, 2, none⟩ = some (.slice ao4 an4 ac4))
          (first | go_keep | (exact ⟨ka_0, ka_1, ka_2, kb_0, kb_1, kb_2⟩))
          (first | (go_at_call 10; have _t := tok0; clear _t tok0; have tok1 : True := trivial; refine (right_rat hx).mono ?_; rintro e W3 ⟨rfl, bq⟩; have hx := hx.below bq; have sa := sa.below bq; have sb := sb.below bq; have m1 := m1.below bq; have m3 := m3.below bq; have ka := ka.below bq; have kb := kb.below bq; have kr := kr.below bq; have B := B.trans (bq.mono B.size); clear bq; clear ka_0 ka_1 ka_2 ka_l kb_0 kb_1 kb_2 kb_l kr_0 kr_1 kr_2 kr_l; obtain ⟨ka_0, ka_1, ka_2⟩ := block3 ka; have ka_l := ka.lt; obtain ⟨kb_0, kb_1, kb_2⟩ := block3 kb; have kb_l := kb.lt; obtain ⟨kr_0, kr_1, kr_2⟩ := block3 kr; have kr_l := kr.lt) | (go_at_call 11; have _t := tok1; clear _t tok1; have tok2 : True := trivial; refine (refR_rat hx).mono ?_; rintro e W4 ⟨rfl, bq⟩; have hx := hx.below bq; have sa := sa.below bq; have sb := sb.below bq; have m1 := m1.below bq; have m3 := m3.below bq; have ka := ka.below bq; have kb := kb.below bq; have kr := kr.below bq; have B := B.trans (bq.mono B.size); clear bq; clear ka_0 ka_1 ka_2 ka_l kb_0 kb_1 kb_2 kb_l kr_0 kr_1 kr_2 kr_l; obtain ⟨ka_0, ka_1, ka_2⟩ := block3 ka; have ka_l := ka.lt; obtain ⟨kb_0, kb_1, kb_2⟩ := block3 kb; have kb_l := kb.lt; obtain ⟨kr_0, kr_1, kr_2⟩ := block3 kr; have kr_l := kr.lt) | (go_at_call 12; have _t := tok2; clear _t tok2; have tok3 : True := trivial; refine (L1.out _ sa sb).mono ?_; rintro e W5 ⟨rfl, bq⟩; have hx := hx.below bq; have sa := sa.below bq; have sb := sb.below bq; have m1 := m1.below bq; have m3 := m3.below bq; have ka := ka.below bq; have kb := kb.below bq; have kr := kr.below bq; have B := B.trans (bq.mono B.size); clear bq; clear ka_0 ka_1 ka_2 ka_l kb_0 kb_1 kb_2 kb_l kr_0 kr_1 kr_2 kr_l; obtain ⟨ka_0, ka_1, ka_2⟩ := block3 ka; have ka_l := ka.lt; obtain ⟨kb_0, kb_1, kb_2⟩ := block3 kb; have kb_l := kb.lt; obtain ⟨kr_0, kr_1, kr_2⟩ := block3 kr; have kr_l := kr.lt) | (go_at_call 13; have _t := tok3; clear _t tok3; have tok4 : True := trivial; refine (L2.out _ sa sb).mono ?_; rintro e W6 ⟨rfl, bq⟩; have hx := hx.below bq; have sa := sa.below bq; have sb := sb.below bq; have m1 := m1.below bq; have m3 := m3.below bq; have ka := ka.below bq; have kb := kb.below bq; have kr := kr.below bq; have B := B.trans (bq.mono B.size); clear bq; clear ka_0 ka_1 ka_2 ka_l kb_0 kb_1 kb_2 kb_l kr_0 kr_1 kr_2 kr_l; obtain ⟨ka_0, ka_1, ka_2⟩ := block3 ka; have ka_l := ka.lt; obtain ⟨kb_0, kb_1, kb_2⟩ := block3 kb; have kb_l := kb.lt; obtain ⟨kr_0, kr_1, kr_2⟩ := block3 kr; have kr_l := kr.lt) | (go_at_call 12; have _t := tok4; clear _t tok4; have tok5 : True := trivial; refine (L3.out _ sa).mono ?_; rintro e W7 ⟨rfl, bq⟩; have hx := hx.below bq; have sa := sa.below bq; have sb := sb.below bq; have m1 := m1.below bq; have m3 := m3.below bq; have ka := ka.below bq; have kb := kb.below bq; have kr := kr.below bq; have B := B.trans (bq.mono B.size); clear bq; clear ka_0 ka_1 ka_2 ka_l kb_0 kb_1 kb_2 kb_l kr_0 kr_1 kr_2 kr_l; obtain ⟨ka_0, ka_1, ka_2⟩ := block3 ka; have ka_l := ka.lt; obtain ⟨kb_0, kb_1, kb_2⟩ := block3 kb; have kb_l := kb.lt; obtain ⟨kr_0, kr_1, kr_2⟩ := block3 kr; have kr_l := kr.lt) | (go_at_call 14; have _t := tok5; clear _t tok5; have tok6 : True := trivial; refine (aliveR _).mono ?_; rintro e W8 ⟨rfl, bq⟩; have hx := hx.below bq; have sa := sa.below bq; have sb := sb.below bq; have m1 := m1.below bq; have m3 := m3.below bq; have ka := ka.below bq; have kb := kb.below bq; have kr := kr.below bq; have B := B.trans (bq.mono B.size); clear bq; clear ka_0 ka_1 ka_2 ka_l kb_0 kb_1 kb_2 kb_l kr_0 kr_1 kr_2 kr_l; obtain ⟨ka_0, ka_1, ka_2⟩ := block3 ka; have ka_l := ka.lt; obtain ⟨kb_0, kb_1, kb_2⟩ := block3 kb; have kb_l := kb.lt; obtain ⟨kr_0, kr_1, kr_2⟩ := block3 kr; have kr_l := kr.lt))
        clear tok6
        clear sa sb
        have HC := Lib.hid (refR_rat hx)
        go_wp2_with fail
        refine HC.out.mono ?_
        rintro e W9 ⟨rfl, bq⟩
        clear HC
        have hx := hx.below bq
        have m1 := m1.below bq
        have m3 := m3.below bq
        have ka := ka.below bq
        have kb := kb.below bq
        have kr := kr.below bq
        have B := B.trans (bq.mono B.size)
        clear bq
        clear ka_0 ka_1 ka_2 ka_l kb_0 kb_1 kb_2 kb_l kr_0 kr_1 kr_2 kr_l
        obtain ⟨ka_0, ka_1, ka_2⟩ := block3 ka
        have ka_l := ka.lt
        obtain ⟨kb_0, kb_1, kb_2⟩ := block3 kb
        have kb_l := kb.lt
        obtain ⟨kr_0, kr_1, kr_2⟩ := block3 kr
        have kr_l := kr.lt
        have HC := Lib.hid (TO.out _ _ hx)
        go_wp2_with fail
        refine HC.out.mono ?_
        rintro e W10 ⟨rfl, bq⟩
        clear HC
        have hx := hx.below bq
        have m1 := m1.below bq
        have m3 := m3.below bq
        have ka := ka.below bq
        have kb := kb.below bq
        have kr := kr.below bq
        have B := B.trans (bq.mono B.size)
        clear bq
        clear ka_0 ka_1 ka_2 ka_l kb_0 kb_1 kb_2 kb_l kr_0 kr_1 kr_2 kr_l
        obtain ⟨ka_0, ka_1, ka_2⟩ := block3 ka
        have ka_l := ka.lt
        obtain ⟨kb_0, kb_1, kb_2⟩ := block3 kb
        have kb_l := kb.lt
        obtain ⟨kr_0, kr_1, kr_2⟩ := block3 kr
        have kr_l := kr.lt
        have HC := Lib.hid (TF.out W10)
        go_wp2_with fail
        refine HC.out.mono ?_
        rintro e W11 ⟨rfl, bq⟩
        clear HC
        have hx := hx.below bq
        have m1 := m1.below bq
        have m3 := m3.below bq
        have ka := ka.below bq
        have kb := kb.below bq
        have kr := kr.below bq
        have B := B.trans (bq.mono B.size)
        clear bq
        clear ka_0 ka_1 ka_2 ka_l kb_0 kb_1 kb_2 kb_l kr_0 kr_1 kr_2 kr_l
        obtain ⟨ka_0, ka_1, ka_2⟩ := block3 ka
        have ka_l := ka.lt
        obtain ⟨kb_0, kb_1, kb_2⟩ := block3 kb
        have kb_l := kb.lt
        obtain ⟨kr_0, kr_1, kr_2⟩ := block3 kr
        have kr_l := kr.lt
        have HC := Lib.hid (refR_rat hx)
        go_wp2_with fail
        refine HC.out.mono ?_
        rintro e W12 ⟨rfl, bq⟩
        clear HC
        have hx := hx.below bq
        have m1 := m1.below bq
        have m3 := m3.below bq
        have ka := ka.below bq
        have kb := kb.below bq
        have kr := kr.below bq
        have B := B.trans (bq.mono B.size)
        clear bq
        clear ka_0 ka_1 ka_2 ka_l kb_0 kb_1 kb_2 kb_l kr_0 kr_1 kr_2 kr_l
        obtain ⟨ka_0, ka_1, ka_2⟩ := block3 ka
        have ka_l := ka.lt
        obtain ⟨kb_0, kb_1, kb_2⟩ := block3 kb
        have kb_l := kb.lt
        obtain ⟨kr_0, kr_1, kr_2⟩ := block3 kr
        have kr_l := kr.lt
        clear hx
        have HC := Lib.hid (refright_num m1)
        go_wp2_with fail
        refine HC.out.mono ?_
        rintro e w' ⟨rfl, rfl⟩
        clear HC
        have HC := Lib.hid (refright_bad m3)
        go_wp2_with fail
        refine HC.out.mono ?_
        rintro e w' ⟨rfl, rfl⟩
        clear HC
        have HC := Lib.hid (same_none W12)
        go_wp2_with fail
        refine HC.out.mono ?_
        rintro e W13 ⟨rfl, bq⟩
        clear HC
        have m1 := m1.below bq
        have m3 := m3.below bq
        have ka := ka.below bq
        have kb := kb.below bq
        have kr := kr.below bq
        have B := B.trans (bq.mono B.size)
        clear bq
        clear ka_0 ka_1 ka_2 ka_l kb_0 kb_1 kb_2 kb_l kr_0 kr_1 kr_2 kr_l
        obtain ⟨ka_0, ka_1, ka_2⟩ := block3 ka
        have ka_l := ka.lt
        obtain ⟨kb_0, kb_1, kb_2⟩ := block3 kb
        have kb_l := kb.lt
        obtain ⟨kr_0, kr_1, kr_2⟩ := block3 kr
        have kr_l := kr.lt
        go_wp2_with fail
        go_ret
        exact ⟨rfl, B⟩
    · clear HX
      rcases M1.out with ⟨N, m1⟩ | m1
      · clear M1
        rcases M3.out with ⟨D, m3⟩ | m3
        · clear M3
          have hlen := m3.len_any
          rcases hlen with ⟨h0, h1⟩ | ⟨h0, h1⟩
          · subst h1
            rw [h0] at m3
            clear h0
            obtain ⟨ka_0, ka_1, ka_2⟩ := block3 ka
            have ka_l := ka.lt
            obtain ⟨kb_0, kb_1, kb_2⟩ := block3 kb
            have kb_l := kb.lt
            have HC := Lib.hid (make_zero x0 _ _ N _ m1 m3)
            go_wp2_with fail
            refine HC.out.mono ?_
            rintro e W1 ⟨hk, bq⟩
            clear HC
            have hbx := hbx.below bq
            have sa := sa.below bq
            have sb := sb.below bq
            have m1 := m1.below bq
            have m3 := m3.below bq
            have ka := ka.below bq
            have kb := kb.below bq
            have B := B.trans (bq.mono B.size)
            clear bq
            clear ka_0 ka_1 ka_2 ka_l kb_0 kb_1 kb_2 kb_l
            obtain ⟨ka_0, ka_1, ka_2⟩ := block3 ka
            have ka_l := ka.lt
            obtain ⟨kb_0, kb_1, kb_2⟩ := block3 kb
            have kb_l := kb.lt
            unfold nilRat at hk
            obtain rfl := hk
            have b4 : Below W1.heap.size W1 (W1.alloc (.cells #[.bool false, .slice none 0 0, .slice none 0 0] 25)) := (Below.refl _ _).alloc (Nat.le_refl _) _
            have kr := BlockAt.new W1 #[.bool false, .slice none 0 0, .slice none 0 0] 25
            have hbx := hbx.below b4
            have sa := sa.below b4
            have sb := sb.below b4
            have m1 := m1.below b4
            have m3 := m3.below b4
            have ka := ka.below b4
            have kb := kb.below b4
            have B := B.trans (b4.mono B.size)
            clear b4
            have HC := Lib.hid (text_badr _ _ hbx)
            go_wp2_with fail
            refine HC.out.mono ?_
            rintro e W2 ⟨rfl, bq⟩
            clear HC
            have hbx := hbx.below bq
            have sa := sa.below bq
            have sb := sb.below bq
            have m1 := m1.below bq
            have m3 := m3.below bq
            have ka := ka.below bq
            have kb := kb.below bq
            have kr := kr.below bq
            have B := B.trans (bq.mono B.size)
            clear bq
            clear ka_0 ka_1 ka_2 ka_l kb_0 kb_1 kb_2 kb_l
            obtain ⟨ka_0, ka_1, ka_2⟩ := block3 ka
            have ka_l := ka.lt
            obtain ⟨kb_0, kb_1, kb_2⟩ := block3 kb
            have kb_l := kb.lt
            obtain ⟨kr_0, kr_1, kr_2⟩ := block3 kr
            have kr_l := kr.lt
            go_wp2_with fail
            have hbx := hbx.below ((Below.refl W2.heap.size W2).drew)
            have sa := sa.below ((Below.refl W2.heap.size W2).drew)
            have sb := sb.below ((Below.refl W2.heap.size W2).drew)
            have m1 := m1.below ((Below.refl W2.heap.size W2).drew)
            have m3 := m3.below ((Below.refl W2.heap.size W2).drew)
            have ka := ka.below ((Below.refl W2.heap.size W2).drew)
            have kb := kb.below ((Below.refl W2.heap.size W2).drew)
            have kr := kr.below ((Below.refl W2.heap.size W2).drew)
            have B := B.drew
            clear ka_0 ka_1 ka_2 ka_l kb_0 kb_1 kb_2 kb_l kr_0 kr_1 kr_2 kr_l
            obtain ⟨ka_0, ka_1, ka_2⟩ := block3 ka
            have ka_l := ka.lt
            obtain ⟨kb_0, kb_1, kb_2⟩ := block3 kb
            have kb_l := kb.lt
            obtain ⟨kr_0, kr_1, kr_2⟩ := block3 kr
            have kr_l := kr.lt
            have tok0 : True := trivial
            go_region_held3 (fun w' => w'.cell? ⟨w.heap.size, 0, none⟩ = some (.bool s) ∧ w'.cell? ⟨w.heap.size, 1, none⟩ = some (.slice ao1 an1 ac1) ∧ w'.cell? ⟨w.heap.size, 2, none⟩ = some (.slice ao2 an2 ac2) ∧ w'.cell? ⟨w.heap.size + 1, 0, none⟩ = some (.bool t) ∧ w'.cell? ⟨w.heap.size + 1, 1, none⟩ = some (.slice ao3 0 ac3) ∧ w'.cell? ⟨w.heap.size + 1, 2, none⟩ = some (.slice ao4 an4 ac4))
              (first | go_keep | (exact ⟨ka_0, ka_1, ka_2, kb_0, kb_1, kb_2⟩))
              (first | (go_at_call 10; have _t := tok0; clear _t tok0; have tok1 : True := trivial; refine (right_not hbx).mono ?_; rintro e W3 ⟨rfl, bq⟩; have hbx := hbx.below bq; have sa := sa.below bq; have sb := sb.below bq; have m1 := m1.below bq; have m3 := m3.below bq; have ka := ka.below bq; have kb := kb.below bq; have kr := kr.below bq; have B := B.trans (bq.mono B.size); clear bq; clear ka_0 ka_1 ka_2 ka_l kb_0 kb_1 kb_2 kb_l kr_0 kr_1 kr_2 kr_l; obtain ⟨ka_0, ka_1, ka_2⟩ := block3 ka; have ka_l := ka.lt; obtain ⟨kb_0, kb_1, kb_2⟩ := block3 kb; have kb_l := kb.lt; obtain ⟨kr_0, kr_1, kr_2⟩ := block3 kr; have kr_l := kr.lt) | (go_at_call 11; have _t := tok1; clear _t tok1; have tok2 : True := trivial; refine (refR_not hbx).mono ?_; rintro e W4 ⟨rfl, bq⟩; have hbx := hbx.below bq; have sa := sa.below bq; have sb := sb.below bq; have m1 := m1.below bq; have m3 := m3.below bq; have ka := ka.below bq; have kb := kb.below bq; have kr := kr.below bq; have B := B.trans (bq.mono B.size); clear bq; clear ka_0 ka_1 ka_2 ka_l kb_0 kb_1 kb_2 kb_l kr_0 kr_1 kr_2 kr_l; obtain ⟨ka_0, ka_1, ka_2⟩ := block3 ka; have ka_l := ka.lt; obtain ⟨kb_0, kb_1, kb_2⟩ := block3 kb; have kb_l := kb.lt; obtain ⟨kr_0, kr_1, kr_2⟩ := block3 kr; have kr_l := kr.lt) | (go_at_call 12; have _t := tok2; clear _t tok2; have tok3 : True := trivial; refine (L1.out _ sa sb).mono ?_; rintro e W5 ⟨rfl, bq⟩; have hbx := hbx.below bq; have sa := sa.below bq; have sb := sb.below bq; have m1 := m1.below bq; have m3 := m3.below bq; have ka := ka.below bq; have kb := kb.below bq; have kr := kr.below bq; have B := B.trans (bq.mono B.size); clear bq; clear ka_0 ka_1 ka_2 ka_l kb_0 kb_1 kb_2 kb_l kr_0 kr_1 kr_2 kr_l; obtain ⟨ka_0, ka_1, ka_2⟩ := block3 ka; have ka_l := ka.lt; obtain ⟨kb_0, kb_1, kb_2⟩ := block3 kb; have kb_l := kb.lt; obtain ⟨kr_0, kr_1, kr_2⟩ := block3 kr; have kr_l := kr.lt) | (go_at_call 13; have _t := tok3; clear _t tok3; have tok4 : True := trivial; refine (L2.out _ sa sb).mono ?_; rintro e W6 ⟨rfl, bq⟩; have hbx := hbx.below bq; have sa := sa.below bq; have sb := sb.below bq; have m1 := m1.below bq; have m3 := m3.below bq; have ka := ka.below bq; have kb := kb.below bq; have kr := kr.below bq; have B := B.trans (bq.mono B.size); clear bq; clear ka_0 ka_1 ka_2 ka_l kb_0 kb_1 kb_2 kb_l kr_0 kr_1 kr_2 kr_l; obtain ⟨ka_0, ka_1, ka_2⟩ := block3 ka; have ka_l := ka.lt; obtain ⟨kb_0, kb_1, kb_2⟩ := block3 kb; have kb_l := kb.lt; obtain ⟨kr_0, kr_1, kr_2⟩ := block3 kr; have kr_l := kr.lt) | (go_at_call 12; have _t := tok4; clear _t tok4; have tok5 : True := trivial; refine (L3.out _ sa).mono ?_; rintro e W7 ⟨rfl, bq⟩; have hbx := hbx.below bq; have sa := sa.below bq; have sb := sb.below bq; have m1 := m1.below bq; have m3 := m3.below bq; have ka := ka.below bq; have kb := kb.below bq; have kr := kr.below bq; have B := B.trans (bq.mono B.size); clear bq; clear ka_0 ka_1 ka_2 ka_l kb_0 kb_1 kb_2 kb_l kr_0 kr_1 kr_2 kr_l; obtain ⟨ka_0, ka_1, ka_2⟩ := block3 ka; have ka_l := ka.lt; obtain ⟨kb_0, kb_1, kb_2⟩ := block3 kb; have kb_l := kb.lt; obtain ⟨kr_0, kr_1, kr_2⟩ := block3 kr; have kr_l := kr.lt) | (go_at_call 14; have _t := tok5; clear _t tok5; have tok6 : True := trivial; refine (aliveR _).mono ?_; rintro e W8 ⟨rfl, bq⟩; have hbx := hbx.below bq; have sa := sa.below bq; have sb := sb.below bq; have m1 := m1.below bq; have m3 := m3.below bq; have ka := ka.below bq; have kb := kb.below bq; have kr := kr.below bq; have B := B.trans (bq.mono B.size); clear bq; clear ka_0 ka_1 ka_2 ka_l kb_0 kb_1 kb_2 kb_l kr_0 kr_1 kr_2 kr_l; obtain ⟨ka_0, ka_1, ka_2⟩ := block3 ka; have ka_l := ka.lt; obtain ⟨kb_0, kb_1, kb_2⟩ := block3 kb; have kb_l := kb.lt; obtain ⟨kr_0, kr_1, kr_2⟩ := block3 kr; have kr_l := kr.lt))
            clear tok6
            clear sa sb
            have HC := Lib.hid (refR_not hbx)
            go_wp2_with fail
            refine HC.out.mono ?_
            rintro e W9 ⟨rfl, bq⟩
            clear HC
            have hbx := hbx.below bq
            have m1 := m1.below bq
            have m3 := m3.below bq
            have ka := ka.below bq
            have kb := kb.below bq
            have kr := kr.below bq
            have B := B.trans (bq.mono B.size)
            clear bq
            clear ka_0 ka_1 ka_2 ka_l kb_0 kb_1 kb_2 kb_l kr_0 kr_1 kr_2 kr_l
            obtain ⟨ka_0, ka_1, ka_2⟩ := block3 ka
            have ka_l := ka.lt
            obtain ⟨kb_0, kb_1, kb_2⟩ := block3 kb
            have kb_l := kb.lt
            obtain ⟨kr_0, kr_1, kr_2⟩ := block3 kr
            have kr_l := kr.lt
            have HC := Lib.hid (refR_not hbx)
            go_wp2_with fail
            refine HC.out.mono ?_
            rintro e W10 ⟨rfl, bq⟩
            clear HC
            have hbx := hbx.below bq
            have m1 := m1.below bq
            have m3 := m3.below bq
            have ka := ka.below bq
            have kb := kb.below bq
            have kr := kr.below bq
            have B := B.trans (bq.mono B.size)
            clear bq
            clear ka_0 ka_1 ka_2 ka_l kb_0 kb_1 kb_2 kb_l kr_0 kr_1 kr_2 kr_l
            obtain ⟨ka_0, ka_1, ka_2⟩ := block3 ka
            have ka_l := ka.lt
            obtain ⟨kb_0, kb_1, kb_2⟩ := block3 kb
            have kb_l := kb.lt
            obtain ⟨kr_0, kr_1, kr_2⟩ := block3 kr
            have kr_l := kr.lt
            clear hbx
            have HC := Lib.hid (refright_num m1)
            go_wp2_with fail
            refine HC.out.mono ?_
            rintro e w' ⟨rfl, rfl⟩
            clear HC
            have HC := Lib.hid (refright_num m3)
            go_wp2_with fail
            refine HC.out.mono ?_
            rintro e w' ⟨rfl, rfl⟩
            clear HC
            have HC := Lib.hid (same_none W10)
            go_wp2_with fail
            refine HC.out.mono ?_
            rintro e W11 ⟨rfl, bq⟩
            clear HC
            have m1 := m1.below bq
            have m3 := m3.below bq
            have ka := ka.below bq
            have kb := kb.below bq
            have kr := kr.below bq
            have B := B.trans (bq.mono B.size)
            clear bq
            clear ka_0 ka_1 ka_2 ka_l kb_0 kb_1 kb_2 kb_l kr_0 kr_1 kr_2 kr_l
            obtain ⟨ka_0, ka_1, ka_2⟩ := block3 ka
            have ka_l := ka.lt
            obtain ⟨kb_0, kb_1, kb_2⟩ := block3 kb
            have kb_l := kb.lt
            obtain ⟨kr_0, kr_1, kr_2⟩ := block3 kr
            have kr_l := kr.lt
            go_wp2_with fail
            go_ret
            exact ⟨rfl, B⟩
          · have HD := Lib.hid h0
            obtain ⟨q1, q2, V2, g4, g5, g6, g7⟩ := make_facts x0 N D m1.range.2 m3.range.2 (far_num m1) (far_num m3) h0
            have MT := Lib.hid g4
            have MU := Lib.hid g5
            have MR := Lib.hid g6
            have MI := Lib.hid g7
            clear h0 g4 g5 g6 g7
            obtain ⟨ka_0, ka_1, ka_2⟩ := block3 ka
            have ka_l := ka.lt
            obtain ⟨kb_0, kb_1, kb_2⟩ := block3 kb
            have kb_l := kb.lt
            have HC := Lib.hid (make_num x0 _ _ N D _ m1 m3 HD.out)
            go_wp2_with fail
            refine HC.out.mono ?_
            rintro e W1 ⟨⟨r, rfl, hr⟩, bq⟩
            clear HC
            have hbx := hbx.below bq
            have sa := sa.below bq
            have sb := sb.below bq
            have m1 := m1.below bq
            have m3 := m3.below bq
            have ka := ka.below bq
            have kb := kb.below bq
            have B := B.trans (bq.mono B.size)
            clear bq
            clear ka_0 ka_1 ka_2 ka_l kb_0 kb_1 kb_2 kb_l
            obtain ⟨ka_0, ka_1, ka_2⟩ := block3 ka
            have ka_l := ka.lt
            obtain ⟨kb_0, kb_1, kb_2⟩ := block3 kb
            have kb_l := kb.lt
            obtain ⟨t1_, oa1, na1, ca1, ob1, nb1, cb1, rfl⟩ := RawN.form hr
            have b4 : Below W1.heap.size W1 (W1.alloc (.cells #[.bool t1_, .slice oa1 na1 ca1, .slice ob1 nb1 cb1] 25)) := (Below.refl _ _).alloc (Nat.le_refl _) _
            have kr := BlockAt.new W1 #[.bool t1_, .slice oa1 na1 ca1, .slice ob1 nb1 cb1] 25
            have hbx := hbx.below b4
            have sa := sa.below b4
            have sb := sb.below b4
            have m1 := m1.below b4
            have m3 := m3.below b4
            have hr := hr.below b4
            have ka := ka.below b4
            have kb := kb.below b4
            have B := B.trans (b4.mono B.size)
            clear b4
            have HC := Lib.hid (text_badr _ _ hbx)
            go_wp2_with fail
            refine HC.out.mono ?_
            rintro e W2 ⟨rfl, bq⟩
            clear HC
            have hbx := hbx.below bq
            have sa := sa.below bq
            have sb := sb.below bq
            have m1 := m1.below bq
            have m3 := m3.below bq
            have hr := hr.below bq
            have ka := ka.below bq
            have kb := kb.below bq
            have kr := kr.below bq
            have B := B.trans (bq.mono B.size)
            clear bq
            clear ka_0 ka_1 ka_2 ka_l kb_0 kb_1 kb_2 kb_l
            obtain ⟨ka_0, ka_1, ka_2⟩ := block3 ka
            have ka_l := ka.lt
            obtain ⟨kb_0, kb_1, kb_2⟩ := block3 kb
            have kb_l := kb.lt
            obtain ⟨kr_0, kr_1, kr_2⟩ := block3 kr
            have kr_l := kr.lt
            go_wp2_with fail
            have hbx := hbx.below ((Below.refl W2.heap.size W2).drew)
            have sa := sa.below ((Below.refl W2.heap.size W2).drew)
            have sb := sb.below ((Below.refl W2.heap.size W2).drew)
            have m1 := m1.below ((Below.refl W2.heap.size W2).drew)
            have m3 := m3.below ((Below.refl W2.heap.size W2).drew)
            have hr := hr.below ((Below.refl W2.heap.size W2).drew)
            have ka := ka.below ((Below.refl W2.heap.size W2).drew)
            have kb := kb.below ((Below.refl W2.heap.size W2).drew)
            have kr := kr.below ((Below.refl W2.heap.size W2).drew)
            have B := B.drew
            clear ka_0 ka_1 ka_2 ka_l kb_0 kb_1 kb_2 kb_l kr_0 kr_1 kr_2 kr_l
            obtain ⟨ka_0, ka_1, ka_2⟩ := block3 ka
            have ka_l := ka.lt
            obtain ⟨kb_0, kb_1, kb_2⟩ := block3 kb
            have kb_l := kb.lt
            obtain ⟨kr_0, kr_1, kr_2⟩ := block3 kr
            have kr_l := kr.lt
            have tok0 : True := trivial
            go_region_held3 (fun w' => w'.cell? ⟨w.heap.size, 0, none⟩ = some (.bool s) ∧ w'.cell? ⟨w.heap.size, 1, none⟩ = some (.slice ao1 an1 ac1) ∧ w'.cell? ⟨w.heap.size, 2, none⟩ = some (.slice ao2 an2 ac2) ∧ w'.cell? ⟨w.heap.size + 1, 0, none⟩ = some (.bool t) ∧ w'.cell? ⟨w.heap.size + 1, 1, none⟩ = some (.slice ao3 an3 ac3) ∧ w'.cell? ⟨w.heap.size + 1, 2, none⟩ = some (.slice ao4 an4 ac4))
              (first | go_keep | (exact ⟨ka_0, ka_1, ka_2, kb_0, kb_1, kb_2⟩))
              (first | (go_at_call 10; have _t := tok0; clear _t tok0; have tok1 : True := trivial; refine (right_not hbx).mono ?_; rintro e W3 ⟨rfl, bq⟩; have hbx := hbx.below bq; have sa := sa.below bq; have sb := sb.below bq; have m1 := m1.below bq; have m3 := m3.below bq; have hr := hr.below bq; have ka := ka.below bq; have kb := kb.below bq; have kr := kr.below bq; have B := B.trans (bq.mono B.size); clear bq; clear ka_0 ka_1 ka_2 ka_l kb_0 kb_1 kb_2 kb_l kr_0 kr_1 kr_2 kr_l; obtain ⟨ka_0, ka_1, ka_2⟩ := block3 ka; have ka_l := ka.lt; obtain ⟨kb_0, kb_1, kb_2⟩ := block3 kb; have kb_l := kb.lt; obtain ⟨kr_0, kr_1, kr_2⟩ := block3 kr; have kr_l := kr.lt) | (go_at_call 11; have _t := tok1; clear _t tok1; have tok2 : True := trivial; refine (refR_not hbx).mono ?_; rintro e W4 ⟨rfl, bq⟩; have hbx := hbx.below bq; have sa := sa.below bq; have sb := sb.below bq; have m1 := m1.below bq; have m3 := m3.below bq; have hr := hr.below bq; have ka := ka.below bq; have kb := kb.below bq; have kr := kr.below bq; have B := B.trans (bq.mono B.size); clear bq; clear ka_0 ka_1 ka_2 ka_l kb_0 kb_1 kb_2 kb_l kr_0 kr_1 kr_2 kr_l; obtain ⟨ka_0, ka_1, ka_2⟩ := block3 ka; have ka_l := ka.lt; obtain ⟨kb_0, kb_1, kb_2⟩ := block3 kb; have kb_l := kb.lt; obtain ⟨kr_0, kr_1, kr_2⟩ := block3 kr; have kr_l := kr.lt) | (go_at_call 12; have _t := tok2; clear _t tok2; have tok3 : True := trivial; refine (L1.out _ sa sb).mono ?_; rintro e W5 ⟨rfl, bq⟩; have hbx := hbx.below bq; have sa := sa.below bq; have sb := sb.below bq; have m1 := m1.below bq; have m3 := m3.below bq; have hr := hr.below bq; have ka := ka.below bq; have kb := kb.below bq; have kr := kr.below bq; have B := B.trans (bq.mono B.size); clear bq; clear ka_0 ka_1 ka_2 ka_l kb_0 kb_1 kb_2 kb_l kr_0 kr_1 kr_2 kr_l; obtain ⟨ka_0, ka_1, ka_2⟩ := block3 ka; have ka_l := ka.lt; obtain ⟨kb_0, kb_1, kb_2⟩ := block3 kb; have kb_l := kb.lt; obtain ⟨kr_0, kr_1, kr_2⟩ := block3 kr; have kr_l := kr.lt) | (go_at_call 13; have _t := tok3; clear _t tok3; have tok4 : True := trivial; refine (L2.out _ sa sb).mono ?_; rintro e W6 ⟨rfl, bq⟩; have hbx := hbx.below bq; have sa := sa.below bq; have sb := sb.below bq; have m1 := m1.below bq; have m3 := m3.below bq; have hr := hr.below bq; have ka := ka.below bq; have kb := kb.below bq; have kr := kr.below bq; have B := B.trans (bq.mono B.size); clear bq; clear ka_0 ka_1 ka_2 ka_l kb_0 kb_1 kb_2 kb_l kr_0 kr_1 kr_2 kr_l; obtain ⟨ka_0, ka_1, ka_2⟩ := block3 ka; have ka_l := ka.lt; obtain ⟨kb_0, kb_1, kb_2⟩ := block3 kb; have kb_l := kb.lt; obtain ⟨kr_0, kr_1, kr_2⟩ := block3 kr; have kr_l := kr.lt) | (go_at_call 12; have _t := tok4; clear _t tok4; have tok5 : True := trivial; refine (L3.out _ sa).mono ?_; rintro e W7 ⟨rfl, bq⟩; have hbx := hbx.below bq; have sa := sa.below bq; have sb := sb.below bq; have m1 := m1.below bq; have m3 := m3.below bq; have hr := hr.below bq; have ka := ka.below bq; have kb := kb.below bq; have kr := kr.below bq; have B := B.trans (bq.mono B.size); clear bq; clear ka_0 ka_1 ka_2 ka_l kb_0 kb_1 kb_2 kb_l kr_0 kr_1 kr_2 kr_l; obtain ⟨ka_0, ka_1, ka_2⟩ := block3 ka; have ka_l := ka.lt; obtain ⟨kb_0, kb_1, kb_2⟩ := block3 kb; have kb_l := kb.lt; obtain ⟨kr_0, kr_1, kr_2⟩ := block3 kr; have kr_l := kr.lt) | (go_at_call 14; have _t := tok5; clear _t tok5; have tok6 : True := trivial; refine (aliveR _).mono ?_; rintro e W8 ⟨rfl, bq⟩; have hbx := hbx.below bq; have sa := sa.below bq; have sb := sb.below bq; have m1 := m1.below bq; have m3 := m3.below bq; have hr := hr.below bq; have ka := ka.below bq; have kb := kb.below bq; have kr := kr.below bq; have B := B.trans (bq.mono B.size); clear bq; clear ka_0 ka_1 ka_2 ka_l kb_0 kb_1 kb_2 kb_l kr_0 kr_1 kr_2 kr_l; obtain ⟨ka_0, ka_1, ka_2⟩ := block3 ka; have ka_l := ka.lt; obtain ⟨kb_0, kb_1, kb_2⟩ := block3 kb; have kb_l := kb.lt; obtain ⟨kr_0, kr_1, kr_2⟩ := block3 kr; have kr_l := kr.lt))
            clear tok6
            clear sa sb
            have HC := Lib.hid (refR_not hbx)
            go_wp2_with fail
            refine HC.out.mono ?_
            rintro e W9 ⟨rfl, bq⟩
            clear HC
            have hbx := hbx.below bq
            have m1 := m1.below bq
            have m3 := m3.below bq
            have hr := hr.below bq
            have ka := ka.below bq
            have kb := kb.below bq
            have kr := kr.below bq
            have B := B.trans (bq.mono B.size)
            clear bq
            clear ka_0 ka_1 ka_2 ka_l kb_0 kb_1 kb_2 kb_l kr_0 kr_1 kr_2 kr_l
            obtain ⟨ka_0, ka_1, ka_2⟩ := block3 ka
            have ka_l := ka.lt
            obtain ⟨kb_0, kb_1, kb_2⟩ := block3 kb
            have kb_l := kb.lt
            obtain ⟨kr_0, kr_1, kr_2⟩ := block3 kr
            have kr_l := kr.lt
            have HC := Lib.hid (refR_not hbx)
            go_wp2_with fail
            refine HC.out.mono ?_
            rintro e W10 ⟨rfl, bq⟩
            clear HC
            have hbx := hbx.below bq
            have m1 := m1.below bq
            have m3 := m3.below bq
            have hr := hr.below bq
            have ka := ka.below bq
            have kb := kb.below bq
            have kr := kr.below bq
            have B := B.trans (bq.mono B.size)
            clear bq
            clear ka_0 ka_1 ka_2 ka_l kb_0 kb_1 kb_2 kb_l kr_0 kr_1 kr_2 kr_l
            obtain ⟨ka_0, ka_1, ka_2⟩ := block3 ka
            have ka_l := ka.lt
            obtain ⟨kb_0, kb_1, kb_2⟩ := block3 kb
            have kb_l := kb.lt
            obtain ⟨kr_0, kr_1, kr_2⟩ := block3 kr
            have kr_l := kr.lt
            clear hbx
            have HC := Lib.hid (refright_num m1)
            go_wp2_with fail
            refine HC.out.mono ?_
            rintro e w' ⟨rfl, rfl⟩
            clear HC
            have HC := Lib.hid (refright_num m3)
            go_wp2_with fail
            refine HC.out.mono ?_
            rintro e w' ⟨rfl, rfl⟩
            clear HC
            go_wp2_with fail
            have m1 := m1.below ((Below.refl W10.heap.size W10).drew)
            have m3 := m3.below ((Below.refl W10.heap.size W10).drew)
            have hr := hr.below ((Below.refl W10.heap.size W10).drew)
            have ka := ka.below ((Below.refl W10.heap.size W10).drew)
            have kb := kb.below ((Below.refl W10.heap.size W10).drew)
            have kr := kr.below ((Below.refl W10.heap.size W10).drew)
            have B := B.drew
            clear ka_0 ka_1 ka_2 ka_l kb_0 kb_1 kb_2 kb_l kr_0 kr_1 kr_2 kr_l
            obtain ⟨ka_0, ka_1, ka_2⟩ := block3 ka
            have ka_l := ka.lt
            obtain ⟨kb_0, kb_1, kb_2⟩ := block3 kb
            have kb_l := kb.lt
            obtain ⟨kr_0, kr_1, kr_2⟩ := block3 kr
            have kr_l := kr.lt
            have tok0 : True := trivial
            go_region_held3 (fun w' => w'.cell? ⟨W1.heap.size, 0, none⟩ = some (.bool t1_) ∧ w'.cell? ⟨W1.heap.size, 1, none⟩ = some (.slice oa1 na1 ca1) ∧ w'.cell? ⟨W1.heap.size, 2, none⟩ = some (.slice ob1 nb1 cb1) ∧ w'.cell? ⟨w.heap.size, 1, none⟩ = some (.slice ao1 an1 ac1) ∧ w'.cell? ⟨w.heap.size + 1, 1, none⟩ = some (.slice ao3 an3 ac3))
              (first | go_keep | (exact ⟨kr_0, kr_1, kr_2, ka_1, kb_1⟩))
              (first | (go_at_call 20; have _t := tok0; clear _t tok0; have tok1 : True := trivial; refine (MT.out _ _ m1).mono ?_; rintro e W11 ⟨rfl, bq⟩; have m1 := m1.below bq; have m3 := m3.below bq; have hr := hr.below bq; have ka := ka.below bq; have kb := kb.below bq; have kr := kr.below bq; have B := B.trans (bq.mono B.size); clear bq; clear ka_0 ka_1 ka_2 ka_l kb_0 kb_1 kb_2 kb_l kr_0 kr_1 kr_2 kr_l; obtain ⟨ka_0, ka_1, ka_2⟩ := block3 ka; have ka_l := ka.lt; obtain ⟨kb_0, kb_1, kb_2⟩ := block3 kb; have kb_l := kb.lt; obtain ⟨kr_0, kr_1, kr_2⟩ := block3 kr; have kr_l := kr.lt) | (go_at_call 20; have _t := tok1; clear _t tok1; have tok2 : True := trivial; refine (MU.out _ _ m3).mono ?_; rintro e W12 ⟨rfl, bq⟩; have m1 := m1.below bq; have m3 := m3.below bq; have hr := hr.below bq; have ka := ka.below bq; have kb := kb.below bq; have kr := kr.below bq; have B := B.trans (bq.mono B.size); clear bq; clear ka_0 ka_1 ka_2 ka_l kb_0 kb_1 kb_2 kb_l kr_0 kr_1 kr_2 kr_l; obtain ⟨ka_0, ka_1, ka_2⟩ := block3 ka; have ka_l := ka.lt; obtain ⟨kb_0, kb_1, kb_2⟩ := block3 kb; have kb_l := kb.lt; obtain ⟨kr_0, kr_1, kr_2⟩ := block3 kr; have kr_l := kr.lt) | (go_at_call 19; have _t := tok2; clear _t tok2; have tok3 : True := trivial; refine (MR.out _).mono ?_; rintro e W13 ⟨rfl, bq⟩; have m1 := m1.below bq; have m3 := m3.below bq; have hr := hr.below bq; have ka := ka.below bq; have kb := kb.below bq; have kr := kr.below bq; have B := B.trans (bq.mono B.size); clear bq; clear ka_0 ka_1 ka_2 ka_l kb_0 kb_1 kb_2 kb_l kr_0 kr_1 kr_2 kr_l; obtain ⟨ka_0, ka_1, ka_2⟩ := block3 ka; have ka_l := ka.lt; obtain ⟨kb_0, kb_1, kb_2⟩ := block3 kb; have kb_l := kb.lt; obtain ⟨kr_0, kr_1, kr_2⟩ := block3 kr; have kr_l := kr.lt) | (go_at_call 18; have _t := tok3; clear _t tok3; have tok4 : True := trivial; refine (MI.out _ _ hr).mono ?_; rintro e W14 ⟨rfl, bq⟩; have m1 := m1.below bq; have m3 := m3.below bq; have hr := hr.below bq; have ka := ka.below bq; have kb := kb.below bq; have kr := kr.below bq; have B := B.trans (bq.mono B.size); clear bq; clear ka_0 ka_1 ka_2 ka_l kb_0 kb_1 kb_2 kb_l kr_0 kr_1 kr_2 kr_l; obtain ⟨ka_0, ka_1, ka_2⟩ := block3 ka; have ka_l := ka.lt; obtain ⟨kb_0, kb_1, kb_2⟩ := block3 kb; have kb_l := kb.lt; obtain ⟨kr_0, kr_1, kr_2⟩ := block3 kr; have kr_l := kr.lt))
            clear tok4
            go_wp2_with fail
            go_ret
            exact ⟨rfl, B⟩
        · clear M3
          obtain ⟨ka_0, ka_1, ka_2⟩ := block3 ka
          have ka_l := ka.lt
          obtain ⟨kb_0, kb_1, kb_2⟩ := block3 kb
          have kb_l := kb.lt
          have HC := Lib.hid (make_bad x0 _ _ _ (.inr ⟨⟨_, m1⟩, m3⟩))
          go_wp2_with fail
          refine HC.out.mono ?_
          rintro e W1 ⟨hk, bq⟩
          clear HC
          have hbx := hbx.below bq
          have sa := sa.below bq
          have sb := sb.below bq
          have m1 := m1.below bq
          have m3 := m3.below bq
          have ka := ka.below bq
          have kb := kb.below bq
          have B := B.trans (bq.mono B.size)
          clear bq
          clear ka_0 ka_1 ka_2 ka_l kb_0 kb_1 kb_2 kb_l
          obtain ⟨ka_0, ka_1, ka_2⟩ := block3 ka
          have ka_l := ka.lt
          obtain ⟨kb_0, kb_1, kb_2⟩ := block3 kb
          have kb_l := kb.lt
          unfold nilRat at hk
          obtain rfl := hk
          have b4 : Below W1.heap.size W1 (W1.alloc (.cells #[.bool false, .slice none 0 0, .slice none 0 0] 25)) := (Below.refl _ _).alloc (Nat.le_refl _) _
          have kr := BlockAt.new W1 #[.bool false, .slice none 0 0, .slice none 0 0] 25
          have hbx := hbx.below b4
          have sa := sa.below b4
          have sb := sb.below b4
          have m1 := m1.below b4
          have m3 := m3.below b4
          have ka := ka.below b4
          have kb := kb.below b4
          have B := B.trans (b4.mono B.size)
          clear b4
          have HC := Lib.hid (text_badr _ _ hbx)
          go_wp2_with fail
          refine HC.out.mono ?_
          rintro e W2 ⟨rfl, bq⟩
          clear HC
          have hbx := hbx.below bq
          have sa := sa.below bq
          have sb := sb.below bq
          have m1 := m1.below bq
          have m3 := m3.below bq
          have ka := ka.below bq
          have kb := kb.below bq
          have kr := kr.below bq
          have B := B.trans (bq.mono B.size)
          clear bq
          clear ka_0 ka_1 ka_2 ka_l kb_0 kb_1 kb_2 kb_l
          obtain ⟨ka_0, ka_1, ka_2⟩ := block3 ka
          have ka_l := ka.lt
          obtain ⟨kb_0, kb_1, kb_2⟩ := block3 kb
          have kb_l := kb.lt
          obtain ⟨kr_0, kr_1, kr_2⟩ := block3 kr
          have kr_l := kr.lt
          go_wp2_with fail
          have hbx := hbx.below ((Below.refl W2.heap.size W2).drew)
          have sa := sa.below ((Below.refl W2.heap.size W2).drew)
          have sb := sb.below ((Below.refl W2.heap.size W2).drew)
          have m1 := m1.below ((Below.refl W2.heap.size W2).drew)
          have m3 := m3.below ((Below.refl W2.heap.size W2).drew)
          have ka := ka.below ((Below.refl W2.heap.size W2).drew)
          have kb := kb.below ((Below.refl W2.heap.size W2).drew)
          have kr := kr.below ((Below.refl W2.heap.size W2).drew)
          have B := B.drew
          clear ka_0 ka_1 ka_2 ka_l kb_0 kb_1 kb_2 kb_l kr_0 kr_1 kr_2 kr_l
          obtain ⟨ka_0, ka_1, ka_2⟩ := block3 ka
          have ka_l := ka.lt
          obtain ⟨kb_0, kb_1, kb_2⟩ := block3 kb
          have kb_l := kb.lt
          obtain ⟨kr_0, kr_1, kr_2⟩ := block3 kr
          have kr_l := kr.lt
          have tok0 : True := trivial
          go_region_held3 (fun w' => w'.cell? ⟨w.heap.size, 0, none⟩ = some (.bool s) ∧ w'.cell? ⟨w.heap.size, 1, none⟩ = some (.slice ao1 an1 ac1) ∧ w'.cell? ⟨w.heap.size, 2, none⟩ = some (.slice ao2 an2 ac2) ∧ w'.cell? ⟨w.heap.size + 1, 0, none⟩ = some (.bool t) ∧ w'.cell? ⟨w.heap.size + 1, 1, none⟩ = some (.slice ao3 an3 ac3) ∧ w'.cell? ⟨w.heap.size + 1, 2, none⟩ = some (.slice ao4 an4 ac4))
            (first | go_keep | (exact ⟨ka_0, ka_1, ka_2, kb_0, kb_1, kb_2⟩))
            (first | (go_at_call 10; have _t := tok0; clear _t tok0; have tok1 : True := trivial; refine (right_not hbx).mono ?_; rintro e W3 ⟨rfl, bq⟩; have hbx := hbx.below bq; have sa := sa.below bq; have sb := sb.below bq; have m1 := m1.below bq; have m3 := m3.below bq; have ka := ka.below bq; have kb := kb.below bq; have kr := kr.below bq; have B := B.trans (bq.mono B.size); clear bq; clear ka_0 ka_1 ka_2 ka_l kb_0 kb_1 kb_2 kb_l kr_0 kr_1 kr_2 kr_l; obtain ⟨ka_0, ka_1, ka_2⟩ := block3 ka; have ka_l := ka.lt; obtain ⟨kb_0, kb_1, kb_2⟩ := block3 kb; have kb_l := kb.lt; obtain ⟨kr_0, kr_1, kr_2⟩ := block3 kr; have kr_l := kr.lt) | (go_at_call 11; have _t := tok1; clear _t tok1; have tok2 : True := trivial; refine (refR_not hbx).mono ?_; rintro e W4 ⟨rfl, bq⟩; have hbx := hbx.below bq; have sa := sa.below bq; have sb := sb.below bq; have m1 := m1.below bq; have m3 := m3.below bq; have ka := ka.below bq; have kb := kb.below bq; have kr := kr.below bq; have B := B.trans (bq.mono B.size); clear bq; clear ka_0 ka_1 ka_2 ka_l kb_0 kb_1 kb_2 kb_l kr_0 kr_1 kr_2 kr_l; obtain ⟨ka_0, ka_1, ka_2⟩ := block3 ka; have ka_l := ka.lt; obtain ⟨kb_0, kb_1, kb_2⟩ := block3 kb; have kb_l := kb.lt; obtain ⟨kr_0, kr_1, kr_2⟩ := block3 kr; have kr_l := kr.lt) | (go_at_call 12; have _t := tok2; clear _t tok2; have tok3 : True := trivial; refine (L1.out _ sa sb).mono ?_; rintro e W5 ⟨rfl, bq⟩; have hbx := hbx.below bq; have sa := sa.below bq; have sb := sb.below bq; have m1 := m1.below bq; have m3 := m3.below bq; have ka := ka.below bq; have kb := kb.below bq; have kr := kr.below bq; have B := B.trans (bq.mono B.size); clear bq; clear ka_0 ka_1 ka_2 ka_l kb_0 kb_1 kb_2 kb_l kr_0 kr_1 kr_2 kr_l; obtain ⟨ka_0, ka_1, ka_2⟩ := block3 ka; have ka_l := ka.lt; obtain ⟨kb_0, kb_1, kb_2⟩ := block3 kb; have kb_l := kb.lt; obtain ⟨kr_0, kr_1, kr_2⟩ := block3 kr; have kr_l := kr.lt) | (go_at_call 13; have _t := tok3; clear _t tok3; have tok4 : True := trivial; refine (L2.out _ sa sb).mono ?_; rintro e W6 ⟨rfl, bq⟩; have hbx := hbx.below bq; have sa := sa.below bq; have sb := sb.below bq; have m1 := m1.below bq; have m3 := m3.below bq; have ka := ka.below bq; have kb := kb.below bq; have kr := kr.below bq; have B := B.trans (bq.mono B.size); clear bq; clear ka_0 ka_1 ka_2 ka_l kb_0 kb_1 kb_2 kb_l kr_0 kr_1 kr_2 kr_l; obtain ⟨ka_0, ka_1, ka_2⟩ := block3 ka; have ka_l := ka.lt; obtain ⟨kb_0, kb_1, kb_2⟩ := block3 kb; have kb_l := kb.lt; obtain ⟨kr_0, kr_1, kr_2⟩ := block3 kr; have kr_l := kr.lt) | (go_at_call 12; have _t := tok4; clear _t tok4; have tok5 : True := trivial; refine (L3.out _ sa).mono ?_; rintro e W7 ⟨rfl, bq⟩; have hbx := hbx.below bq; have sa := sa.below bq; have sb := sb.below bq; have m1 := m1.below bq; have m3 := m3.below bq; have ka := ka.below bq; have kb := kb.below bq; have kr := kr.below bq; have B := B.trans (bq.mono B.size); clear bq; clear ka_0 ka_1 ka_2 ka_l kb_0 kb_1 kb_2 kb_l kr_0 kr_1 kr_2 kr_l; obtain ⟨ka_0, ka_1, ka_2⟩ := block3 ka; have ka_l := ka.lt; obtain ⟨kb_0, kb_1, kb_2⟩ := block3 kb; have kb_l := kb.lt; obtain ⟨kr_0, kr_1, kr_2⟩ := block3 kr; have kr_l := kr.lt) | (go_at_call 14; have _t := tok5; clear _t tok5; have tok6 : True := trivial; refine (aliveR _).mono ?_; rintro e W8 ⟨rfl, bq⟩; have hbx := hbx.below bq; have sa := sa.below bq; have sb := sb.below bq; have m1 := m1.below bq; have m3 := m3.below bq; have ka := ka.below bq; have kb := kb.below bq; have kr := kr.below bq; have B := B.trans (bq.mono B.size); clear bq; clear ka_0 ka_1 ka_2 ka_l kb_0 kb_1 kb_2 kb_l kr_0 kr_1 kr_2 kr_l; obtain ⟨ka_0, ka_1, ka_2⟩ := block3 ka; have ka_l := ka.lt; obtain ⟨kb_0, kb_1, kb_2⟩ := block3 kb; have kb_l := kb.lt; obtain ⟨kr_0, kr_1, kr_2⟩ := block3 kr; have kr_l := kr.lt))
          clear tok6
          clear sa sb
          have HC := Lib.hid (refR_not hbx)
          go_wp2_with fail
          refine HC.out.mono ?_
          rintro e W9 ⟨rfl, bq⟩
          clear HC
          have hbx := hbx.below bq
          have m1 := m1.below bq
          have m3 := m3.below bq
          have ka := ka.below bq
          have kb := kb.below bq
          have kr := kr.below bq
          have B := B.trans (bq.mono B.size)
          clear bq
          clear ka_0 ka_1 ka_2 ka_l kb_0 kb_1 kb_2 kb_l kr_0 kr_1 kr_2 kr_l
          obtain ⟨ka_0, ka_1, ka_2⟩ := block3 ka
          have ka_l := ka.lt
          obtain ⟨kb_0, kb_1, kb_2⟩ := block3 kb
          have kb_l := kb.lt
          obtain ⟨kr_0, kr_1, kr_2⟩ := block3 kr
          have kr_l := kr.lt
          have HC := Lib.hid (refR_not hbx)
          go_wp2_with fail
          refine HC.out.mono ?_
          rintro e W10 ⟨rfl, bq⟩
          clear HC
          have hbx := hbx.below bq
          have m1 := m1.below bq
          have m3 := m3.below bq
          have ka := ka.below bq
          have kb := kb.below bq
          have kr := kr.below bq
          have B := B.trans (bq.mono B.size)
          clear bq
          clear ka_0 ka_1 ka_2 ka_l kb_0 kb_1 kb_2 kb_l kr_0 kr_1 kr_2 kr_l
          obtain ⟨ka_0, ka_1, ka_2⟩ := block3 ka
          have ka_l := ka.lt
          obtain ⟨kb_0, kb_1, kb_2⟩ := block3 kb
          have kb_l := kb.lt
          obtain ⟨kr_0, kr_1, kr_2⟩ := block3 kr
          have kr_l := kr.lt
          clear hbx
          have HC := Lib.hid (refright_num m1)
          go_wp2_with fail
          refine HC.out.mono ?_
          rintro e w' ⟨rfl, rfl⟩
          clear HC
          have HC := Lib.hid (refright_bad m3)
          go_wp2_with fail
          refine HC.out.mono ?_
          rintro e w' ⟨rfl, rfl⟩
          clear HC
          have HC := Lib.hid (same_none W10)
          go_wp2_with fail
          refine HC.out.mono ?_
          rintro e W11 ⟨rfl, bq⟩
          clear HC
          have m1 := m1.below bq
          have m3 := m3.below bq
          have ka := ka.below bq
          have kb := kb.below bq
          have kr := kr.below bq
          have B := B.trans (bq.mono B.size)
          clear bq
          clear ka_0 ka_1 ka_2 ka_l kb_0 kb_1 kb_2 kb_l kr_0 kr_1 kr_2 kr_l
          obtain ⟨ka_0, ka_1, ka_2⟩ := block3 ka
          have ka_l := ka.lt
          obtain ⟨kb_0, kb_1, kb_2⟩ := block3 kb
          have kb_l := kb.lt
          obtain ⟨kr_0, kr_1, kr_2⟩ := block3 kr
          have kr_l := kr.lt
          go_wp2_with fail
          go_ret
          exact ⟨rfl, B⟩
      · clear M1 M3
        obtain ⟨ka_0, ka_1, ka_2⟩ := block3 ka
        have ka_l := ka.lt
        obtain ⟨kb_0, kb_1, kb_2⟩ := block3 kb
        have kb_l := kb.lt
        have HC := Lib.hid (make_bad x0 _ (.slice ao3 an3 ac3) _ (.inl m1))
        go_wp2_with fail
        refine HC.out.mono ?_
        rintro e W1 ⟨hk, bq⟩
        clear HC
        have hbx := hbx.below bq
        have sa := sa.below bq
        have sb := sb.below bq
        have m1 := m1.below bq
        have ka := ka.below bq
        have kb := kb.below bq
        have B := B.trans (bq.mono B.size)
        clear bq
        clear ka_0 ka_1 ka_2 ka_l kb_0 kb_1 kb_2 kb_l
        obtain ⟨ka_0, ka_1, ka_2⟩ := block3 ka
        have ka_l := ka.lt
        obtain ⟨kb_0, kb_1, kb_2⟩ := block3 kb
        have kb_l := kb.lt
        unfold nilRat at hk
        obtain rfl := hk
        have b4 : Below W1.heap.size W1 (W1.alloc (.cells #[.bool false, .slice none 0 0, .slice none 0 0] 25)) := (Below.refl _ _).alloc (Nat.le_refl _) _
        have kr := BlockAt.new W1 #[.bool false, .slice none 0 0, .slice none 0 0] 25
        have hbx := hbx.below b4
        have sa := sa.below b4
        have sb := sb.below b4
        have m1 := m1.below b4
        have ka := ka.below b4
        have kb := kb.below b4
        have B := B.trans (b4.mono B.size)
        clear b4
        have HC := Lib.hid (text_badr _ _ hbx)
        go_wp2_with fail
        refine HC.out.mono ?_
        rintro e W2 ⟨rfl, bq⟩
        clear HC
        have hbx := hbx.below bq
        have sa := sa.below bq
        have sb := sb.below bq
        have m1 := m1.below bq
        have ka := ka.below bq
        have kb := kb.below bq
        have kr := kr.below bq
        have B := B.trans (bq.mono B.size)
        clear bq
        clear ka_0 ka_1 ka_2 ka_l kb_0 kb_1 kb_2 kb_l
        obtain ⟨ka_0, ka_1, ka_2⟩ := block3 ka
        have ka_l := ka.lt
        obtain ⟨kb_0, kb_1, kb_2⟩ := block3 kb
        have kb_l := kb.lt
        obtain ⟨kr_0, kr_1, kr_2⟩ := block3 kr
        have kr_l := kr.lt
        go_wp2_with fail
        have hbx := hbx.below ((Below.refl W2.heap.size W2).drew)
        have sa := sa.below ((Below.refl W2.heap.size W2).drew)
        have sb := sb.below ((Below.refl W2.heap.size W2).drew)
        have m1 := m1.below ((Below.refl W2.heap.size W2).drew)
        have ka := ka.below ((Below.refl W2.heap.size W2).drew)
        have kb := kb.below ((Below.refl W2.heap.size W2).drew)
        have kr := kr.below ((Below.refl W2.heap.size W2).drew)
        have B := B.drew
        clear ka_0 ka_1 ka_2 ka_l kb_0 kb_1 kb_2 kb_l kr_0 kr_1 kr_2 kr_l
        obtain ⟨ka_0, ka_1, ka_2⟩ := block3 ka
        have ka_l := ka.lt
        obtain ⟨kb_0, kb_1, kb_2⟩ := block3 kb
        have kb_l := kb.lt
        obtain ⟨kr_0, kr_1, kr_2⟩ := block3 kr
        have kr_l := kr.lt
        have tok0 : True := trivial
        go_region_held3 (fun w' => w'.cell? ⟨w.heap.size, 0, none⟩ = some (.bool s) ∧ w'.cell? ⟨w.heap.size, 1, none⟩ = some (.slice ao1 an1 ac1) ∧ w'.cell? ⟨w.heap.size, 2, none⟩ = some (.slice ao2 an2 ac2) ∧ w'.cell? ⟨w.heap.size + 1, 0, none⟩ = some (.bool t) ∧ w'.cell? ⟨w.heap.size + 1, 1, none⟩ = some (.slice ao3 an3 ac3) ∧ w'.cell? ⟨w.heap.size + 1, 2, none⟩ = some (.slice ao4 an4 ac4))
          (first | go_keep | (exact ⟨ka_0, ka_1, ka_2, kb_0, kb_1, kb_2⟩))
          (first | (go_at_call 10; have _t := tok0; clear _t tok0; have tok1 : True := trivial; refine (right_not hbx).mono ?_; rintro e W3 ⟨rfl, bq⟩; have hbx := hbx.below bq; have sa := sa.below bq; have sb := sb.below bq; have m1 := m1.below bq; have ka := ka.below bq; have kb := kb.below bq; have kr := kr.below bq; have B := B.trans (bq.mono B.size); clear bq; clear ka_0 ka_1 ka_2 ka_l kb_0 kb_1 kb_2 kb_l kr_0 kr_1 kr_2 kr_l; obtain ⟨ka_0, ka_1, ka_2⟩ := block3 ka; have ka_l := ka.lt; obtain ⟨kb_0, kb_1, kb_2⟩ := block3 kb; have kb_l := kb.lt; obtain ⟨kr_0, kr_1, kr_2⟩ := block3 kr; have kr_l := kr.lt) | (go_at_call 11; have _t := tok1; clear _t tok1; have tok2 : True := trivial; refine (refR_not hbx).mono ?_; rintro e W4 ⟨rfl, bq⟩; have hbx := hbx.below bq; have sa := sa.below bq; have sb := sb.below bq; have m1 := m1.below bq; have ka := ka.below bq; have kb := kb.below bq; have kr := kr.below bq; have B := B.trans (bq.mono B.size); clear bq; clear ka_0 ka_1 ka_2 ka_l kb_0 kb_1 kb_2 kb_l kr_0 kr_1 kr_2 kr_l; obtain ⟨ka_0, ka_1, ka_2⟩ := block3 ka; have ka_l := ka.lt; obtain ⟨kb_0, kb_1, kb_2⟩ := block3 kb; have kb_l := kb.lt; obtain ⟨kr_0, kr_1, kr_2⟩ := block3 kr; have kr_l := kr.lt) | (go_at_call 12; have _t := tok2; clear _t tok2; have tok3 : True := trivial; refine (L1.out _ sa sb).mono ?_; rintro e W5 ⟨rfl, bq⟩; have hbx := hbx.below bq; have sa := sa.below bq; have sb := sb.below bq; have m1 := m1.below bq; have ka := ka.below bq; have kb := kb.below bq; have kr := kr.below bq; have B := B.trans (bq.mono B.size); clear bq; clear ka_0 ka_1 ka_2 ka_l kb_0 kb_1 kb_2 kb_l kr_0 kr_1 kr_2 kr_l; obtain ⟨ka_0, ka_1, ka_2⟩ := block3 ka; have ka_l := ka.lt; obtain ⟨kb_0, kb_1, kb_2⟩ := block3 kb; have kb_l := kb.lt; obtain ⟨kr_0, kr_1, kr_2⟩ := block3 kr; have kr_l := kr.lt) | (go_at_call 13; have _t := tok3; clear _t tok3; have tok4 : True := trivial; refine (L2.out _ sa sb).mono ?_; rintro e W6 ⟨rfl, bq⟩; have hbx := hbx.below bq; have sa := sa.below bq; have sb := sb.below bq; have m1 := m1.below bq; have ka := ka.below bq; have kb := kb.below bq; have kr := kr.below bq; have B := B.trans (bq.mono B.size); clear bq; clear ka_0 ka_1 ka_2 ka_l kb_0 kb_1 kb_2 kb_l kr_0 kr_1 kr_2 kr_l; obtain ⟨ka_0, ka_1, ka_2⟩ := block3 ka; have ka_l := ka.lt; obtain ⟨kb_0, kb_1, kb_2⟩ := block3 kb; have kb_l := kb.lt; obtain ⟨kr_0, kr_1, kr_2⟩ := block3 kr; have kr_l := kr.lt) | (go_at_call 12; have _t := tok4; clear _t tok4; have tok5 : True := trivial; refine (L3.out _ sa).mono ?_; rintro e W7 ⟨rfl, bq⟩; have hbx := hbx.below bq; have sa := sa.below bq; have sb := sb.below bq; have m1 := m1.below bq; have ka := ka.below bq; have kb := kb.below bq; have kr := kr.below bq; have B := B.trans (bq.mono B.size); clear bq; clear ka_0 ka_1 ka_2 ka_l kb_0 kb_1 kb_2 kb_l kr_0 kr_1 kr_2 kr_l; obtain ⟨ka_0, ka_1, ka_2⟩ := block3 ka; have ka_l := ka.lt; obtain ⟨kb_0, kb_1, kb_2⟩ := block3 kb; have kb_l := kb.lt; obtain ⟨kr_0, kr_1, kr_2⟩ := block3 kr; have kr_l := kr.lt) | (go_at_call 14; have _t := tok5; clear _t tok5; have tok6 : True := trivial; refine (aliveR _).mono ?_; rintro e W8 ⟨rfl, bq⟩; have hbx := hbx.below bq; have sa := sa.below bq; have sb := sb.below bq; have m1 := m1.below bq; have ka := ka.below bq; have kb := kb.below bq; have kr := kr.below bq; have B := B.trans (bq.mono B.size); clear bq; clear ka_0 ka_1 ka_2 ka_l kb_0 kb_1 kb_2 kb_l kr_0 kr_1 kr_2 kr_l; obtain ⟨ka_0, ka_1, ka_2⟩ := block3 ka; have ka_l := ka.lt; obtain ⟨kb_0, kb_1, kb_2⟩ := block3 kb; have kb_l := kb.lt; obtain ⟨kr_0, kr_1, kr_2⟩ := block3 kr; have kr_l := kr.lt))
        clear tok6
        clear sa sb
        have HC := Lib.hid (refR_not hbx)
        go_wp2_with fail
        refine HC.out.mono ?_
        rintro e W9 ⟨rfl, bq⟩
        clear HC
        have hbx := hbx.below bq
        have m1 := m1.below bq
        have ka := ka.below bq
        have kb := kb.below bq
        have kr := kr.below bq
        have B := B.trans (bq.mono B.size)
        clear bq
        clear ka_0 ka_1 ka_2 ka_l kb_0 kb_1 kb_2 kb_l kr_0 kr_1 kr_2 kr_l
        obtain ⟨ka_0, ka_1, ka_2⟩ := block3 ka
        have ka_l := ka.lt
        obtain ⟨kb_0, kb_1, kb_2⟩ := block3 kb
        have kb_l := kb.lt
        obtain ⟨kr_0, kr_1, kr_2⟩ := block3 kr
        have kr_l := kr.lt
        have HC := Lib.hid (refR_not hbx)
        go_wp2_with fail
        refine HC.out.mono ?_
        rintro e W10 ⟨rfl, bq⟩
        clear HC
        have hbx := hbx.below bq
        have m1 := m1.below bq
        have ka := ka.below bq
        have kb := kb.below bq
        have kr := kr.below bq
        have B := B.trans (bq.mono B.size)
        clear bq
        clear ka_0 ka_1 ka_2 ka_l kb_0 kb_1 kb_2 kb_l kr_0 kr_1 kr_2 kr_l
        obtain ⟨ka_0, ka_1, ka_2⟩ := block3 ka
        have ka_l := ka.lt
        obtain ⟨kb_0, kb_1, kb_2⟩ := block3 kb
        have kb_l := kb.lt
        obtain ⟨kr_0, kr_1, kr_2⟩ := block3 kr
        have kr_l := kr.lt
        clear hbx
        have HC := Lib.hid (refright_bad m1)
        go_wp2_with fail
        refine HC.out.mono ?_
        rintro e w' ⟨rfl, rfl⟩
        clear HC
        have HC := Lib.hid (same_none W10)
        go_wp2_with fail
        refine HC.out.mono ?_
        rintro e W11 ⟨rfl, bq⟩
        clear HC
        have m1 := m1.below bq
        have ka := ka.below bq
        have kb := kb.below bq
        have kr := kr.below bq
        have B := B.trans (bq.mono B.size)
        clear bq
        clear ka_0 ka_1 ka_2 ka_l kb_0 kb_1 kb_2 kb_l kr_0 kr_1 kr_2 kr_l
        obtain ⟨ka_0, ka_1, ka_2⟩ := block3 ka
        have ka_l := ka.lt
        obtain ⟨kb_0, kb_1, kb_2⟩ := block3 kb
        have kb_l := kb.lt
        obtain ⟨kr_0, kr_1, kr_2⟩ := block3 kr
        have kr_l := kr.lt
        go_wp2_with fail
        go_ret
        exact ⟨rfl, B⟩
end Go.Proofs.Ythmhljfaenekfaa
