/- The law RatReckons. -/
import Derived.Test.YthmhljfaenekfaaRatCut
namespace Go.Proofs.Ythmhljfaenekfaa
open Go.RowKit NM

theorem left_drew {B : Nat} {w w' : World} (h : Below B w w') : Below B w.drew w' := ⟨h.os, h.tape, h.output, h.size, h.block⟩
theorem one_new {w w' : World} {cs : Array Value} {t : TypeId} (h : Below (w.alloc (.cells cs t)).heap.size (w.alloc (.cells cs t)) w') : BlockAt w' w.heap.size cs t ∧ Below w.heap.size w w' :=
  ⟨(BlockAt.new w cs t).below h, ((Below.refl w.heap.size w).alloc (Nat.le_refl _) _).trans (h.mono (by simp))⟩
theorem two_new {w w' : World} {cs cs2 : Array Value} {t t2 : TypeId} (h : Below ((w.alloc (.cells cs t)).alloc (.cells cs2 t2)).heap.size ((w.alloc (.cells cs t)).alloc (.cells cs2 t2)) w') :
    BlockAt w' w.heap.size cs t ∧ BlockAt w' (w.heap.size + 1) cs2 t2 ∧ Below w.heap.size w w' := by
  obtain ⟨h1, h2⟩ := one_new h
  have e : (w.alloc (.cells cs t)).heap.size = w.heap.size + 1 := by simp
  obtain ⟨h3, h4⟩ := one_new h2
  rw [e] at h1
  exact ⟨h3, h1, h4⟩
theorem one_new_d {w w' : World} {cs : Array Value} {t : TypeId} (h : Below (w.alloc (.cells cs t)).drew.heap.size (w.alloc (.cells cs t)).drew w') : BlockAt w' w.heap.size cs t ∧ Below w.drew.heap.size w.drew w' := by
  obtain ⟨h1, h2⟩ := one_new (show Below (w.alloc (.cells cs t)).heap.size (w.alloc (.cells cs t)) w' from ⟨h.os, h.tape, h.output, h.size, h.block⟩)
  exact ⟨h1, left_drew h2⟩
theorem two_new_d {w w' : World} {cs cs2 : Array Value} {t t2 : TypeId} (h : Below ((w.alloc (.cells cs t)).alloc (.cells cs2 t2)).drew.heap.size ((w.alloc (.cells cs t)).alloc (.cells cs2 t2)).drew w') :
    BlockAt w' w.heap.size cs t ∧ BlockAt w' (w.heap.size + 1) cs2 t2 ∧ Below w.drew.heap.size w.drew w' := by
  obtain ⟨h1, h2, h3⟩ := two_new (show Below ((w.alloc (.cells cs t)).alloc (.cells cs2 t2)).heap.size ((w.alloc (.cells cs t)).alloc (.cells cs2 t2)) w' from ⟨h.os, h.tape, h.output, h.size, h.block⟩)
  exact ⟨h1, h2, left_drew h3⟩
theorem RatN.a1 {w : World} {v : Value} {x : Rat} {o : Obj} (h : RatN w v x) : RatN (w.alloc o) v x := h.below ((Below.refl w.heap.size w).alloc (Nat.le_refl _) o)
theorem RatN.a2 {w : World} {v : Value} {x : Rat} {o o2 : Obj} (h : RatN w v x) : RatN ((w.alloc o).alloc o2) v x := h.a1.a1
theorem RatN.d0 {w : World} {v : Value} {x : Rat} (h : RatN w.drew v x) : RatN w v x := h.below (w := w.drew) (w' := w) ⟨rfl, rfl, rfl, Nat.le_refl _, fun _ _ => rfl⟩
theorem RatN.dd {w : World} {v : Value} {x : Rat} (h : RatN w v x) : RatN w.drew v x := h.below ((Below.refl w.heap.size w).drew)
theorem RatN.d1 {w : World} {v : Value} {x : Rat} {o : Obj} (h : RatN w.drew v x) : RatN (w.alloc o).drew v x := h.d0.a1.dd
theorem RatN.d2 {w : World} {v : Value} {x : Rat} {o o2 : Obj} (h : RatN w.drew v x) : RatN ((w.alloc o).alloc o2).drew v x := h.d0.a2.dd
theorem leafA {W0 W : World} (xs ys : Array Value) (t : TypeId) (B : Below W0.heap.size W0 W) : BlockAt ((W.alloc (.cells xs t)).alloc (.cells ys t)) W.heap.size xs t ∧ BlockAt ((W.alloc (.cells xs t)).alloc (.cells ys t)) (W.heap.size + 1) ys t ∧ Below W0.heap.size W0 ((W.alloc (.cells xs t)).alloc (.cells ys t)) := by
  obtain ⟨h1, h2, h3⟩ := two_start' W xs ys t t
  exact ⟨h2, h3, B.trans (h1.mono B.size)⟩
theorem leafB {W0 W : World} {p : Nat} {u0 u1 u2 u3 : Value} (v0 v1 v2 v3 : Value) (ys : Array Value) (t : TypeId) (g : BlockAt W p #[u0, u1, u2, u3] t) (hp : W0.heap.size ≤ p) (B : Below W0.heap.size W0 W) :
    BlockAt (((((W.setCell ⟨p, 0, none⟩ v0).setCell ⟨p, 1, none⟩ v1).setCell ⟨p, 2, none⟩ v2).setCell ⟨p, 3, none⟩ v3).alloc (.cells ys t)) p #[v0, v1, v2, v3] t ∧
    BlockAt (((((W.setCell ⟨p, 0, none⟩ v0).setCell ⟨p, 1, none⟩ v1).setCell ⟨p, 2, none⟩ v2).setCell ⟨p, 3, none⟩ v3).alloc (.cells ys t)) W.heap.size ys t ∧
    Below W0.heap.size W0 (((((W.setCell ⟨p, 0, none⟩ v0).setCell ⟨p, 1, none⟩ v1).setCell ⟨p, 2, none⟩ v2).setCell ⟨p, 3, none⟩ v3).alloc (.cells ys t)) := by
  have h := (((g.set 0 v0).set 1 v1).set 2 v2).set 3 v3
  have B2 := (((B.setCell (p := ⟨p, 0, none⟩) hp v0).setCell (p := ⟨p, 1, none⟩) hp v1).setCell (p := ⟨p, 2, none⟩) hp v2).setCell (p := ⟨p, 3, none⟩) hp v3
  have e : ((((W.setCell ⟨p, 0, none⟩ v0).setCell ⟨p, 1, none⟩ v1).setCell ⟨p, 2, none⟩ v2).setCell ⟨p, 3, none⟩ v3).heap.size = W.heap.size := by simp [World.setCell]
  generalize (((W.setCell ⟨p, 0, none⟩ v0).setCell ⟨p, 1, none⟩ v1).setCell ⟨p, 2, none⟩ v2).setCell ⟨p, 3, none⟩ v3 = V at *
  have b : Below V.heap.size V (V.alloc (.cells ys t)) := (Below.refl _ _).alloc (Nat.le_refl _) _
  rw [← e]
  exact ⟨h.below b, BlockAt.new V ys t, B2.trans (b.mono B2.size)⟩
theorem leafC {W0 W : World} {p q : Nat} {u0 u1 u2 u3 z0 z1 z2 z3 : Value} (v0 v1 v2 v3 y0 y1 y2 y3 : Value) {t : TypeId} (g : BlockAt W p #[u0, u1, u2, u3] t) (h : BlockAt W q #[z0, z1, z2, z3] t) (hne : p ≠ q) (hp : W0.heap.size ≤ p) (hq : W0.heap.size ≤ q) (B : Below W0.heap.size W0 W) :
    BlockAt ((((((((W.setCell ⟨p, 0, none⟩ v0).setCell ⟨p, 1, none⟩ v1).setCell ⟨p, 2, none⟩ v2).setCell ⟨p, 3, none⟩ v3).setCell ⟨q, 0, none⟩ y0).setCell ⟨q, 1, none⟩ y1).setCell ⟨q, 2, none⟩ y2).setCell ⟨q, 3, none⟩ y3) p #[v0, v1, v2, v3] t ∧
    BlockAt ((((((((W.setCell ⟨p, 0, none⟩ v0).setCell ⟨p, 1, none⟩ v1).setCell ⟨p, 2, none⟩ v2).setCell ⟨p, 3, none⟩ v3).setCell ⟨q, 0, none⟩ y0).setCell ⟨q, 1, none⟩ y1).setCell ⟨q, 2, none⟩ y2).setCell ⟨q, 3, none⟩ y3) q #[y0, y1, y2, y3] t ∧
    Below W0.heap.size W0 ((((((((W.setCell ⟨p, 0, none⟩ v0).setCell ⟨p, 1, none⟩ v1).setCell ⟨p, 2, none⟩ v2).setCell ⟨p, 3, none⟩ v3).setCell ⟨q, 0, none⟩ y0).setCell ⟨q, 1, none⟩ y1).setCell ⟨q, 2, none⟩ y2).setCell ⟨q, 3, none⟩ y3) := by
  have g2 := (((g.set 0 v0).set 1 v1).set 2 v2).set 3 v3
  have h2 := (((h.other (Ne.symm hne) 0 v0).other (Ne.symm hne) 1 v1).other (Ne.symm hne) 2 v2).other (Ne.symm hne) 3 v3
  have B2 := (((B.setCell (p := ⟨p, 0, none⟩) hp v0).setCell (p := ⟨p, 1, none⟩) hp v1).setCell (p := ⟨p, 2, none⟩) hp v2).setCell (p := ⟨p, 3, none⟩) hp v3
  generalize (((W.setCell ⟨p, 0, none⟩ v0).setCell ⟨p, 1, none⟩ v1).setCell ⟨p, 2, none⟩ v2).setCell ⟨p, 3, none⟩ v3 = V at *
  exact ⟨(((g2.other hne 0 y0).other hne 1 y1).other hne 2 y2).other hne 3 y3, (((h2.set 0 y0).set 1 y1).set 2 y2).set 3 y3,
    (((B2.setCell (p := ⟨q, 0, none⟩) hq y0).setCell (p := ⟨q, 1, none⟩) hq y1).setCell (p := ⟨q, 2, none⟩) hq y2).setCell (p := ⟨q, 3, none⟩) hq y3⟩
/-- What the reference answers to two numbers, every text under a name. -/
theorem reck_facts (x y : Rat) (hx : (x.num.natAbs : Int) < pw 16 ∧ (x.den : Int) < pw 16) (hy : (y.num.natAbs : Int) < pw 16 ∧ (y.den : Int) < pw 16) : ∃ (nx ny : Bool) (n1 d1 n2 d2 : ByteArray) (V1 V2 V3 : Value),
    (∀ (W : World) (v : Value), RatN W v x → Calls Try.prog 16 #[v] W fun e w' => e = .returned (.agg #[.bool nx, .string n1, .string d1, .bool false]) ∧ Below W.heap.size W w') ∧
    (∀ (W : World) (v : Value), RatN W v y → Calls Try.prog 16 #[v] W fun e w' => e = .returned (.agg #[.bool ny, .string n2, .string d2, .bool false]) ∧ Below W.heap.size W w') ∧
    (∀ W : World, Calls Try.prog 26 #[.agg #[.bool ny, .string n2, .string d2, .bool false]] W fun e w' => e = .returned (.agg #[.bool (!ny), .string n2, .string d2, .bool false]) ∧ Below W.heap.size W w') ∧
    (∀ W : World, Calls Try.prog 25 #[.agg #[.bool nx, .string n1, .string d1, .bool false], .agg #[.bool ny, .string n2, .string d2, .bool false]] W fun e w' => e = .returned V1 ∧ Below W.heap.size W w') ∧
    (∀ W : World, Calls Try.prog 25 #[.agg #[.bool nx, .string n1, .string d1, .bool false], .agg #[.bool (!ny), .string n2, .string d2, .bool false]] W fun e w' => e = .returned V2 ∧ Below W.heap.size W w') ∧
    (∀ W : World, Calls Try.prog 27 #[.agg #[.bool nx, .string n1, .string d1, .bool false], .agg #[.bool ny, .string n2, .string d2, .bool false]] W fun e w' => e = .returned V3 ∧ Below W.heap.size W w') ∧
    (∀ (W : World) (r : Value) (k : Int), Res (OverA x y) (x + y) W r k → Calls Try.prog 18 #[r, .int .i64 k, V1] W fun e w' => e = .returned (.bool true) ∧ Below W.heap.size W w') ∧
    (∀ (W : World) (r : Value) (k : Int), Res (OverA x y) (x - y) W r k → Calls Try.prog 18 #[r, .int .i64 k, V2] W fun e w' => e = .returned (.bool true) ∧ Below W.heap.size W w') ∧
    (∀ (W : World) (r : Value) (k : Int), Res (OverM x y) (x * y) W r k → Calls Try.prog 18 #[r, .int .i64 k, V3] W fun e w' => e = .returned (.bool true) ∧ Below W.heap.size W w') ∧
    (n2.toList == [48]) = decide (y = 0) ∧
    (y ≠ 0 → ∃ V4 : Value, (∀ W : World, Calls Try.prog 28 #[.agg #[.bool nx, .string n1, .string d1, .bool false], .agg #[.bool ny, .string n2, .string d2, .bool false]] W fun e w' => e = .returned V4 ∧ Below W.heap.size W w') ∧
      (∀ (W : World) (r : Value) (k : Int), Res (OverQ x y) (x / y) W r k → Calls Try.prog 18 #[r, .int .i64 k, V4] W fun e w' => e = .returned (.bool true) ∧ Below W.heap.size W w')) := by
  refine ⟨decide (x.num < 0), decide (y.num < 0), _, _, _, _, addV x y (decide (y.num < 0)), addV x y (!decide (y.num < 0)), mulV x y, fun W v h => of_rat v x W h, fun W v h => of_rat v y W h, fun W => less_fun _ _ _ _ W,
    fun W => refadd_rat x y _ false false W hx hy, fun W => refadd_rat x y _ false false W hx hy, fun W => refmul_rat x y false false W hx hy,
    fun W r k h => isadd x y W h, fun W r k h => issub x y W h, fun W r k h => ismul x y W h, ?_, fun h0 => ⟨quoV x y, fun W => refquo_rat x y false false W hx hy h0, fun W r k h => isquo x y W h0 h⟩⟩
  by_cases h0 : y = 0
  · rw [decide_eq_true h0, h0]
    rw [show numStr (((0 : Rat).num.natAbs : Nat) : Int) = ⟨#[48]⟩ from numStr_zero]
    decide +kernel
  · rw [decide_eq_false h0]
    apply list_ne48
    intro h
    have := numStr_inj (A := (y.num.natAbs : Int)) (B := 0) (by omega) (by omega) (by rw [h, numStr_zero])
    have := num_pos h0
    omega
theorem quo_none (v u : Value) (x y : Rat) (w : World) (h1 : RatN w v x) (h2 : RatN w u y) (h : y = 0) :
    Calls Try.prog 24 #[v, u] w fun e w' => e = .returned (.tuple #[nilRat, .int .i64 4]) ∧ Below w.heap.size w w' :=
  quo_zero v u x w h1 (by rw [h] at h2; exact h2)
set_option maxHeartbeats 1600000 in
set_option maxRecDepth 100000 in
theorem fewT (s : Bool) (a0 : Option Addr) (len0 cap0 : Nat) (z0 : List Int) (a1 : Option Addr) (len1 cap1 : Nat) (z1 : List Int) (w : World) (h0 : IsRow .u32 w a0 len0 cap0 z0) (h1 : IsRow .u32 w a1 len1 cap1 z1) :
    Calls Try.prog 7 #[.agg #[.bool s, .slice a0 len0 cap0, .slice a1 len1 cap1]] w fun e w' => (∃ n d, e = .returned (.agg #[.bool s, n, d]) ∧ Sl w' n (z0.take (min (len0 : Int) 18).toNat) ∧ Sl w' d (z1.take (min (len1 : Int) 18).toNat)) ∧ Below w.heap.size w w' := by
  obtain ⟨l0, c0⟩ := h0.caps
  obtain ⟨l1, c1⟩ := h1.caps
  have H0 := Lib.hid h0
  have H1 := Lib.hid h1
  clear h0 h1
  obtain ⟨B, ha, hr⟩ := two_start w #[.bool s, .slice a0 len0 cap0, .slice a1 len1 cap1] #[.bool false, .slice none 0 0, .slice none 0 0] 25
  go_enter Try.func7, Try.ntmps7
  go_wp2_with fail
  generalize (w.alloc (.cells #[.bool s, .slice a0 len0 cap0, .slice a1 len1 cap1] 25)).alloc (.cells #[.bool false, .slice none 0 0, .slice none 0 0] 25) = W at *
  obtain ⟨k0, k1, k2⟩ := block3 ha
  have m0 : (0 : Int) ≤ min (len0 : Int) 18 := by omega
  have m1 : min (len0 : Int) 18 ≤ (cap0 : Int) := by omega
  have m2 : (0 : Int) ≤ min (len1 : Int) 18 := by omega
  have m3 : min (len1 : Int) 18 ≤ (cap1 : Int) := by omega
  go_still_tail 17, (by kernel_rfl)
  have q1 := (((H0.out.sl (min (len0 : Int) 18).toNat (by omega) (by omega)).below B).below ((Below.refl W.heap.size W).drew))
  have q2 := (((H1.out.sl (min (len1 : Int) 18).toNat (by omega) (by omega)).below B).below ((Below.refl W.heap.size W).drew))
  have hr := hr.below ((Below.refl W.heap.size W).drew)
  have B := B.drew
  have Q1 := Lib.hid q1
  have Q2 := Lib.hid q2
  clear q1 q2 ha H0 H1 k0 k1 k2 m0 m1 m2 m3
  change wpList _ _ _ _ _ W.drew
  generalize W.drew = w2 at *
  have f0 := hr.free 0
  have f1 := hr.free 1
  have f2 := hr.free 2
  have g0 := hr.cell 0
  have g1 := hr.cell 1
  have g2 := hr.cell 2
  simp at g0 g1 g2
  go_wp2_with fail
  refine bodyPost_ret (v := .agg #[.bool s, .slice a0 (min (len0 : Int) 18).toNat cap0, .slice a1 (min (len1 : Int) 18).toNat cap1]) (by simp [results, Try.results7, go_sem, g0, g1, g2]) rfl ⟨⟨_, _, rfl, Sl.set3 Q1.out hr, Sl.set3 Q2.out hr⟩, ?_⟩
  exact ((B.setCell (by simp) _).setCell (by simp) _).setCell (by simp) _


/-- Which number, if any, a sign and two lists are. -/
theorem rat_pure (neg : Bool) (xs ys : List Int) : (∃ x, ∀ (w : World) (v u : Value), Sl w v xs → Sl w u ys → RatN w (.agg #[.bool neg, v, u]) x) ∨ (∀ (w : World) (v u : Value), Sl w v xs → Sl w u ys → BadR w (.agg #[.bool neg, v, u])) := by
  by_cases h : (rightB xs && (rightB ys && rawB neg (val xs).toNat (val ys).toNat)) = true
  · simp only [Bool.and_eq_true] at h
    obtain ⟨a1, a2, a3⟩ := h
    obtain ⟨k1, k2, k3⟩ := frac_raw a3
    refine .inl ⟨frac neg (val xs).toNat (val ys).toNat, fun w v u h1 h2 => ?_⟩
    have n1 : Num w v (val xs) := ⟨xs, h1, a1, rfl⟩
    have n2 : Num w u (val ys) := ⟨ys, h2, a2, rfl⟩
    have r1 := n1.range.1
    have r2 := n2.range.1
    refine ⟨v, u, by rw [k3], ?_, ?_⟩
    · rw [k1, show (((val xs).toNat : Nat) : Int) = val xs by omega]; exact n1
    · rw [k2, show (((val ys).toNat : Nat) : Int) = val ys by omega]; exact n2
  · exact .inr fun w v u h1 h2 => ⟨neg, v, u, xs, ys, rfl, h1, h2, by simpa using h⟩
end Go.Proofs.Ythmhljfaenekfaa
