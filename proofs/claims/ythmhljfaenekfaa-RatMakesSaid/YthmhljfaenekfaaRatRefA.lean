/- The reference's Add. -/
import Derived.Test.YthmhljfaenekfaaRatRefT
namespace Go.Proofs.Ythmhljfaenekfaa
open Go.RowKit NM

/-- The sum's sign, and its number. -/
def addNeg (na nb : Bool) (x y : Nat) : Bool := if na = nb then na else if y ≤ x then na else nb
def addNum (na nb : Bool) (x y : Nat) : Nat := if na = nb then x + y else max x y - min x y
theorem over_alloc {w w' : World} {o : Obj} (h : Below (w.alloc o).heap.size (w.alloc o) w') : Below w.heap.size w w' :=
  ((Below.refl w.heap.size w).alloc (Nat.le_refl _) o).trans (h.mono (by simp))
theorem drew_left {B : Nat} {w w' : World} (h : Below B w w') : Below B w.drew w' := ⟨h.os, h.tape, h.output, h.size, h.block⟩
theorem over_alloc_drew {w w' : World} {o : Obj} (h : Below (w.alloc o).drew.heap.size (w.alloc o).drew w') : Below w.drew.heap.size w.drew w' :=
  drew_left ((((Below.refl w.heap.size w).alloc (Nat.le_refl _) o).drew).trans (h.mono (by show w.heap.size ≤ (w.alloc o).heap.size; simp)))
theorem fset {w W : World} {p0 p1 p2 p3 : Nat} {xa xb xr : Array Value} {ta tb tr t : TypeId} {u0 u1 u2 u3 : Value} (v0 v1 v2 v3 : Value) (ha : BlockAt W p0 xa ta) (hb : BlockAt W p1 xb tb) (hr : BlockAt W p2 xr tr) (hf : BlockAt W p3 #[u0, u1, u2, u3] t)
    (n0 : p0 ≠ p3) (n1 : p1 ≠ p3) (n2 : p2 ≠ p3) (hp : w.heap.size ≤ p3) (B : Below w.heap.size w W) {V : World} (hV : V = (((W.setCell ⟨p3, 0, none⟩ v0).setCell ⟨p3, 1, none⟩ v1).setCell ⟨p3, 2, none⟩ v2).setCell ⟨p3, 3, none⟩ v3) :
    BlockAt V p0 xa ta ∧ BlockAt V p1 xb tb ∧ BlockAt V p2 xr tr ∧ BlockAt V p3 #[v0, v1, v2, v3] t ∧ Below w.heap.size w V := by
  subst hV
  exact ⟨(((ha.other n0 _ _).other n0 _ _).other n0 _ _).other n0 _ _, (((hb.other n1 _ _).other n1 _ _).other n1 _ _).other n1 _ _, (((hr.other n2 _ _).other n2 _ _).other n2 _ _).other n2 _ _, (((hf.set 0 v0).set 1 v1).set 2 v2).set 3 v3,
    (((B.setCell hp _).setCell hp _).setCell hp _).setCell hp _⟩
theorem fnew {w W : World} {p0 p1 p2 : Nat} {xa xb xr : Array Value} {ta tb tr : TypeId} (cs : Array Value) (t : TypeId) (ha : BlockAt W p0 xa ta) (hb : BlockAt W p1 xb tb) (hr : BlockAt W p2 xr tr) (B : Below w.heap.size w W) {V : World} (hV : V = W.alloc (.cells cs t)) :
    BlockAt V p0 xa ta ∧ BlockAt V p1 xb tb ∧ BlockAt V p2 xr tr ∧ BlockAt V W.heap.size cs t ∧ Below w.heap.size w V := by
  subst hV
  have b : Below W.heap.size W (W.alloc (.cells cs t)) := (Below.refl _ _).alloc (Nat.le_refl _) _
  exact ⟨ha.below b, hb.below b, hr.below b, BlockAt.new W cs t, B.trans (b.mono B.size)⟩
theorem far_mul2 {A B : Nat} (hA : (A : Int) < pw 16) (hB : (B : Int) < pw 16) : 40 * ((A * B : Nat) : Int) < big := by
  have h1 : (A : Int) * B ≤ pw 16 * pw 16 := Int.mul_le_mul (by omega) (by omega) (by omega) (by omega)
  have h2 : 40 * (pw 16 * pw 16) < big := by unfold big; decide +kernel
  rw [Int.natCast_mul]
  omega
theorem far_sum {x y : Nat} (hx : 40 * (x : Int) < big) (hy : 40 * (y : Int) < big) : Far (x + y) := by unfold Far; omega
theorem far_of {x : Nat} (hx : 40 * (x : Int) < big) : Far x := by unfold Far; omega
theorem refadd_nat {A B : Nat} (hA : Far A) (hB : Far B) (w : World) :
    Calls Try.prog 52 #[.string (numStr A), .string (numStr B)] w fun e w' => e = .returned (.string (numStr ((A + B : Nat) : Int))) ∧ Below w.heap.size w w' :=
  refadd_fun (A : Int) (B : Int) w (by omega) (by omega) hA.lt hB.lt
theorem refsub_nat {A B : Nat} (hA : Far A) (h : B ≤ A) (w : World) :
    Calls Try.prog 53 #[.string (numStr A), .string (numStr B)] w fun e w' => e = .returned (.string (numStr ((A - B : Nat) : Int))) ∧ Below w.heap.size w w' := by
  have := refsub_fun (A : Int) (B : Int) w (by omega) hA.lt (by omega)
  rw [show (A : Int) - B = ((A - B : Nat) : Int) by omega] at this
  exact this
theorem cmp_ge {A B : Nat} (hA : Far A) (hB : Far B) (h : B ≤ A) : ∃ g : Int, decide (0 ≤ g) = true ∧ ∀ w, Calls Try.prog 35 #[.string (numStr A), .string (numStr B)] w fun e w' => e = .returned (.int .i64 g) ∧ w = w' :=
  ⟨_, by rw [decide_eq_true_eq]; exact sgn_ge (show (B : Int) ≤ A by omega), fun w => cmp_fun (A : Int) (B : Int) w (by omega) (by omega) hA.lt hB.lt⟩
theorem cmp_lt {A B : Nat} (hA : Far A) (hB : Far B) (h : A < B) (w : World) : Calls Try.prog 35 #[.string (numStr A), .string (numStr B)] w fun e w' => e = .returned (.int .i64 (-1)) ∧ w = w' := by
  have := cmp_fun (A : Int) (B : Int) w (by omega) (by omega) hA.lt hB.lt
  rw [sgn_less (show (A : Int) < B by omega)] at this
  exact this
set_option maxHeartbeats 6400000 in
set_option maxRecDepth 100000 in
theorem addF_same_f (na ba bb : Bool) (N1 D1 N2 D2 x y dd : Nat) (w : World) (h1 : (N1 : Int) < pw 16) (h2 : (D1 : Int) < pw 16) (h3 : (N2 : Int) < pw 16) (h4 : (D2 : Int) < pw 16) (hD : 0 < dd) (ex : N1 * D2 = x) (ey : N2 * D1 = y) (ed : D1 * D2 = dd) (ho : overB (x + y) = false)  :
    Calls Try.prog 25 #[fracV na N1 D1 ba, fracV na N2 D2 bb] w fun e w' => e = .returned (redV na (x + y) dd (overB dd)) ∧ Below w.heap.size w w' := by
  have fx : 40 * (x : Int) < big := by rw [← ex]; exact far_mul2 h1 h4
  have fy : 40 * (y : Int) < big := by rw [← ey]; exact far_mul2 h3 h2
  have fd : 40 * (dd : Int) < big := by rw [← ed]; exact far_mul2 h2 h4
  have m1 := fun w => refmul_nat h1 h4 w
  have m2 := fun w => refmul_nat h3 h2 w
  have m3 := fun w => refmul_nat h2 h4 w
  rw [ex] at m1
  rw [ey] at m2
  rw [ed] at m3
  have M1 := Lib.hid m1
  have M2 := Lib.hid m2
  have M3 := Lib.hid m3
  clear m1 m2 m3
  have A1 := Lib.hid (fun w => refadd_nat (far_of fx) (far_of fy) w)
  have o1 := fun w => over_nat (far_sum fx fy) w
  rw [ho] at o1
  have O1 := Lib.hid o1
  clear o1
  have O2 := Lib.hid (fun w => over_nat (far_of fd) w)
  have hR := fun w => red_fun na (x + y) dd (overB dd) w (far_sum fx fy) (far_of fd) hD
  unfold redV
  unfold fracV at *
  have HR := Lib.hid hR
  clear hR
  obtain ⟨B, ha, hb, hr⟩ := three_any w #[.bool na, .string (numStr N1), .string (numStr D1), .bool ba] #[.bool na, .string (numStr N2), .string (numStr D2), .bool bb] #[.bool false, .string ⟨#[]⟩, .string ⟨#[]⟩, .bool false] 37 37 37
  generalize redBad (x + y) dd (overB dd) = rb at *
  generalize (na && decide ((x + y) ≠ 0)) = rn at *
  obtain ⟨r1, e1⟩ : ∃ s, numStr (((x + y) / Nat.gcd (x + y) dd : Nat) : Int) = s := ⟨_, rfl⟩
  obtain ⟨r2, e2⟩ : ∃ s, numStr ((dd / Nat.gcd (x + y) dd : Nat) : Int) = s := ⟨_, rfl⟩
  rw [e1, e2] at HR ⊢
  clear e1 e2 h1 h2 h3 h4 hD ho fx fy fd ex ey ed
  generalize numStr (N1 : Int) = s1 at *
  generalize numStr (D1 : Int) = s2 at *
  generalize numStr (N2 : Int) = s3 at *
  generalize numStr (D2 : Int) = s4 at *
  generalize numStr (x : Int) = sx at *
  generalize numStr (y : Int) = sy at *
  generalize numStr (dd : Int) = sd at *
  generalize numStr ((x + y : Nat) : Int) = ss at *
  generalize overB dd = od at *
  have tok1 : True := trivial
  go_enter Try.func25, Try.ntmps25
  go_wp2_with fail
  generalize ((w.alloc (.cells #[.bool na, .string s1, .string s2, .bool ba] 37)).alloc (.cells #[.bool na, .string s3, .string s4, .bool bb] 37)).alloc (.cells #[.bool false, .string ⟨#[]⟩, .string ⟨#[]⟩, .bool false] 37) = W at *
  obtain ⟨p0, e0⟩ : ∃ p, w.heap.size = p := ⟨_, rfl⟩
  obtain ⟨p1, e1⟩ : ∃ p, p0 + 1 = p := ⟨_, rfl⟩
  obtain ⟨p2, e2⟩ : ∃ p, p1 + 1 = p := ⟨_, rfl⟩
  simp only [e0, e1, e2] at ha hb hr ⊢
  have n02 : ¬ p0 = p2 := by omega
  have n12 : ¬ p1 = p2 := by omega
  have n20 : ¬ p2 = p0 := by omega
  have n21 : ¬ p2 = p1 := by omega
  have l2 : w.heap.size ≤ p2 := by omega
  clear e0 e1 e2
  obtain ⟨c0, c1, c2, c3⟩ := block4 ha
  obtain ⟨d0, d1, d2, d3⟩ := block4 hb
  refine (M1.out _).mono ?_
  rintro e W2 ⟨rfl, bq⟩
  have ha := ha.below bq
  have hb := hb.below bq
  have hr := hr.below bq
  have B := B.trans (bq.mono B.size)
  clear bq c0 c1 c2 c3 d0 d1 d2 d3
  obtain ⟨c0, c1, c2, c3⟩ := block4 ha
  obtain ⟨d0, d1, d2, d3⟩ := block4 hb
  go_wp2_with fail
  refine (M2.out _).mono ?_
  rintro e W3 ⟨rfl, bq⟩
  have ha := ha.below bq
  have hb := hb.below bq
  have hr := hr.below bq
  have B := B.trans (bq.mono B.size)
  clear bq c0 c1 c2 c3 d0 d1 d2 d3
  obtain ⟨c0, c1, c2, c3⟩ := block4 ha
  obtain ⟨d0, d1, d2, d3⟩ := block4 hb
  go_wp2_with fail
  have ha := ha.below ((Below.refl W3.heap.size W3).drew)
  have hb := hb.below ((Below.refl W3.heap.size W3).drew)
  have hr := hr.below ((Below.refl W3.heap.size W3).drew)
  have B := B.drew
  clear c0 c1 c2 c3 d0 d1 d2 d3
  obtain ⟨c0, c1, c2, c3⟩ := block4 ha
  obtain ⟨d0, d1, d2, d3⟩ := block4 hb
  have z0 : W3.cell? ⟨p0, 0, none⟩ = some (.bool na) := c0
  have z1 : W3.cell? ⟨p0, 2, none⟩ = some (.string s2) := c2
  have z2 : W3.cell? ⟨p1, 2, none⟩ = some (.string s4) := d2
  have l0 : p0 < W3.heap.size := ha.lt
  have l1 : p1 < W3.heap.size := hb.lt
  go_cut [7] (fun v7 wx => ∃ p3, v7 = .pointer (some ⟨p3, 0, none⟩) ∧ Hid (w.heap.size ≤ p3 ∧ p0 ≠ p3 ∧ p1 ≠ p3 ∧ p2 ≠ p3) ∧ Hid (BlockAt wx p0 #[.bool na, .string s1, .string s2, .bool ba] 37) ∧ Hid (BlockAt wx p1 #[.bool na, .string s3, .string s4, .bool bb] 37) ∧ Hid (BlockAt wx p2 #[.bool false, .string ⟨#[]⟩, .string ⟨#[]⟩, .bool false] 37) ∧ Hid (BlockAt wx p3 #[.bool na, .string ss, .string sd, .bool false] 37) ∧ Hid (Below w.heap.size w wx))
  case first =>
    go_region_held3 (fun w' => w'.cell? ⟨p0, 0, none⟩ = some (.bool na) ∧ w'.cell? ⟨p0, 2, none⟩ = some (.string s2) ∧ w'.cell? ⟨p1, 2, none⟩ = some (.string s4))
      (go_keep)
      (first | (go_at_call 52; refine (A1.out _).mono ?_; rintro e W5 ⟨rfl, bq⟩; (first | (have ha := ha.below bq; have hf := hf.below bq; obtain ⟨h0, h1, h2, h3⟩ := block4 hf; have f0 := hf.free 0; have f1 := hf.free 1; have f2 := hf.free 2; have f3 := hf.free 3; have hb := hb.below bq; have hr := hr.below bq; have B := B.trans (bq.mono B.size); clear bq c0 c1 c2 c3 d0 d1 d2 d3; obtain ⟨c0, c1, c2, c3⟩ := block4 ha; obtain ⟨d0, d1, d2, d3⟩ := block4 hb; have l0 := ha.lt; have l1 := hb.lt) | (have ha := ha.below bq; have hb := hb.below bq; have hr := hr.below bq; have B := B.trans (bq.mono B.size); clear bq c0 c1 c2 c3 d0 d1 d2 d3; obtain ⟨c0, c1, c2, c3⟩ := block4 ha; obtain ⟨d0, d1, d2, d3⟩ := block4 hb; have l0 := ha.lt; have l1 := hb.lt) | (have n9 := Nat.ne_of_lt hr.lt; have sz := B.size; have n5 := Nat.ne_of_lt ha.lt; have n6 := Nat.ne_of_lt hb.lt; have hf := (BlockAt.new _ _ _).below bq; obtain ⟨h0, h1, h2, h3⟩ := block4 hf; have f0 := hf.free 0; have f1 := hf.free 1; have f2 := hf.free 2; have f3 := hf.free 3; have n7 := Nat.ne_of_gt ha.lt; have n8 := Nat.ne_of_gt hb.lt; have bq := over_alloc bq; have ha := ha.below bq; have hb := hb.below bq; have hr := hr.below bq; have B := B.trans (bq.mono B.size); clear bq c0 c1 c2 c3 d0 d1 d2 d3; obtain ⟨c0, c1, c2, c3⟩ := block4 ha; obtain ⟨d0, d1, d2, d3⟩ := block4 hb; have l0 := ha.lt; have l1 := hb.lt) | (have n9 : p2 ≠ W3.heap.size := Nat.ne_of_lt hr.lt; have sz : w.heap.size ≤ W3.heap.size := B.size; have n5 := Nat.ne_of_lt l0; have n6 := Nat.ne_of_lt l1; have hf := ((BlockAt.new W3 _ _).drewN 1).below bq; obtain ⟨h0, h1, h2, h3⟩ := block4 hf; have f0 := hf.free 0; have f1 := hf.free 1; have f2 := hf.free 2; have f3 := hf.free 3; have n7 := Nat.ne_of_gt l0; have n8 := Nat.ne_of_gt l1; have bq := over_alloc_drew bq; have ha := ha.below bq; have hb := hb.below bq; have hr := hr.below bq; have B := B.trans (bq.mono B.size); clear bq c0 c1 c2 c3 d0 d1 d2 d3; obtain ⟨c0, c1, c2, c3⟩ := block4 ha; obtain ⟨d0, d1, d2, d3⟩ := block4 hb; have l0 := ha.lt; have l1 := hb.lt))) | (go_at_call 33; refine (M3.out _).mono ?_; rintro e W6 ⟨rfl, bq⟩; (first | (have ha := ha.below bq; have hf := hf.below bq; obtain ⟨h0, h1, h2, h3⟩ := block4 hf; have f0 := hf.free 0; have f1 := hf.free 1; have f2 := hf.free 2; have f3 := hf.free 3; have hb := hb.below bq; have hr := hr.below bq; have B := B.trans (bq.mono B.size); clear bq c0 c1 c2 c3 d0 d1 d2 d3; obtain ⟨c0, c1, c2, c3⟩ := block4 ha; obtain ⟨d0, d1, d2, d3⟩ := block4 hb; have l0 := ha.lt; have l1 := hb.lt) | (have ha := ha.below bq; have hb := hb.below bq; have hr := hr.below bq; have B := B.trans (bq.mono B.size); clear bq c0 c1 c2 c3 d0 d1 d2 d3; obtain ⟨c0, c1, c2, c3⟩ := block4 ha; obtain ⟨d0, d1, d2, d3⟩ := block4 hb; have l0 := ha.lt; have l1 := hb.lt) | (have n9 := Nat.ne_of_lt hr.lt; have sz := B.size; have n5 := Nat.ne_of_lt ha.lt; have n6 := Nat.ne_of_lt hb.lt; have hf := (BlockAt.new _ _ _).below bq; obtain ⟨h0, h1, h2, h3⟩ := block4 hf; have f0 := hf.free 0; have f1 := hf.free 1; have f2 := hf.free 2; have f3 := hf.free 3; have n7 := Nat.ne_of_gt ha.lt; have n8 := Nat.ne_of_gt hb.lt; have bq := over_alloc bq; have ha := ha.below bq; have hb := hb.below bq; have hr := hr.below bq; have B := B.trans (bq.mono B.size); clear bq c0 c1 c2 c3 d0 d1 d2 d3; obtain ⟨c0, c1, c2, c3⟩ := block4 ha; obtain ⟨d0, d1, d2, d3⟩ := block4 hb; have l0 := ha.lt; have l1 := hb.lt) | (have n9 : p2 ≠ W3.heap.size := Nat.ne_of_lt hr.lt; have sz : w.heap.size ≤ W3.heap.size := B.size; have n5 := Nat.ne_of_lt l0; have n6 := Nat.ne_of_lt l1; have hf := ((BlockAt.new W3 _ _).drewN 1).below bq; obtain ⟨h0, h1, h2, h3⟩ := block4 hf; have f0 := hf.free 0; have f1 := hf.free 1; have f2 := hf.free 2; have f3 := hf.free 3; have n7 := Nat.ne_of_gt l0; have n8 := Nat.ne_of_gt l1; have bq := over_alloc_drew bq; have ha := ha.below bq; have hb := hb.below bq; have hr := hr.below bq; have B := B.trans (bq.mono B.size); clear bq c0 c1 c2 c3 d0 d1 d2 d3; obtain ⟨c0, c1, c2, c3⟩ := block4 ha; obtain ⟨d0, d1, d2, d3⟩ := block4 hb; have l0 := ha.lt; have l1 := hb.lt))))
    all_goals
      clear M1 M2 M3 A1 O1 HR
      go_wp2_with fail
      go_meet
      first
        | (obtain ⟨y1, y2, y3, y4, y5⟩ := fset (.bool na) (.string ss) (.string sd) (.bool false) ha hb hr hf n5 n6 n9 sz B rfl; exact ⟨_, rfl, Lib.hid ⟨sz, n5, n6, n9⟩, Lib.hid y1, Lib.hid y2, Lib.hid y3, Lib.hid y4, Lib.hid y5⟩)
        | (obtain ⟨y1, y2, y3, y4, y5⟩ := fnew #[.bool na, .string ss, .string sd, .bool false] 37 ha hb hr B rfl; exact ⟨_, rfl, Lib.hid ⟨B.size, Nat.ne_of_lt ha.lt, Nat.ne_of_lt hb.lt, Nat.ne_of_lt hr.lt⟩, Lib.hid y1, Lib.hid y2, Lib.hid y3, Lib.hid y4, Lib.hid y5⟩)
  case rest =>
    obtain ⟨p3, rfl, hp, ya, yb, yr, yf, yB⟩ := hcut
    obtain ⟨sz, n0, n1, n2⟩ := hp.out
    have ha := ya.out
    have hb := yb.out
    have hr := yr.out
    have hf := yf.out
    have B := yB.out
    clear ya yb yr yf yB hp A1 M1 M2 M3 z0 z1 z2 l0 l1 c0 c1 c2 c3 d0 d1 d2 d3 n02 n12 n20 n21
    have m0 : ¬ p3 = p0 := fun h => n0 h.symm
    have m1 : ¬ p3 = p1 := fun h => n1 h.symm
    have m2 : ¬ p3 = p2 := fun h => n2 h.symm
    obtain ⟨c0, c1, c2, c3⟩ := block4 ha
    obtain ⟨d0, d1, d2, d3⟩ := block4 hb
    obtain ⟨h0, h1, h2, h3⟩ := block4 hf
    have f0 := hf.free 0
    have f1 := hf.free 1
    have f2 := hf.free 2
    have f3 := hf.free 3
    have fl := hf.lt
    go_wp2_with fail
    refine (O1.out _).mono ?_
    rintro e V1 ⟨rfl, bq⟩
    have ha := ha.below bq
    have hb := hb.below bq
    have hr := hr.below bq
    have hf := hf.below bq
    have B := B.trans (bq.mono B.size)
    clear c0 c1 c2 c3 d0 d1 d2 d3 h0 h1 h2 h3 f0 f1 f2 f3 fl
    clear bq
    obtain ⟨c0, c1, c2, c3⟩ := block4 ha
    obtain ⟨d0, d1, d2, d3⟩ := block4 hb
    obtain ⟨h0, h1, h2, h3⟩ := block4 hf
    have f0 := hf.free 0
    have f1 := hf.free 1
    have f2 := hf.free 2
    have f3 := hf.free 3
    have fl := hf.lt
    go_wp2_with fail
    refine (O2.out _).mono ?_
    rintro e V2 ⟨rfl, bq⟩
    have ha := ha.below bq
    have hb := hb.below bq
    have hr := hr.below bq
    have hf := hf.below bq
    have B := B.trans (bq.mono B.size)
    clear c0 c1 c2 c3 d0 d1 d2 d3 h0 h1 h2 h3 f0 f1 f2 f3 fl
    clear bq
    obtain ⟨c0, c1, c2, c3⟩ := block4 ha
    obtain ⟨d0, d1, d2, d3⟩ := block4 hb
    obtain ⟨h0, h1, h2, h3⟩ := block4 hf
    have f0 := hf.free 0
    have f1 := hf.free 1
    have f2 := hf.free 2
    have f3 := hf.free 3
    have fl := hf.lt
    have hq : (na != na) = false := by simp
    have ha := ha.other n0 3 (.bool od)
    have hb := hb.other n1 3 (.bool od)
    have hr := hr.other n2 3 (.bool od)
    have hf := hf.set 3 (.bool od)
    have B := B.setCell (p := ⟨p3, 3, none⟩) sz (.bool od)
    go_wp2_with fail
    generalize (V2.setCell ⟨p3, 3, none⟩ (.bool od)) = U1 at *
    simp at hf
    clear c0 c1 c2 c3 d0 d1 d2 d3 h0 h1 h2 h3 f0 f1 f2 f3 fl
    obtain ⟨c0, c1, c2, c3⟩ := block4 ha
    obtain ⟨d0, d1, d2, d3⟩ := block4 hb
    obtain ⟨h0, h1, h2, h3⟩ := block4 hf
    have f0 := hf.free 0
    have f1 := hf.free 1
    have f2 := hf.free 2
    have f3 := hf.free 3
    have fl := hf.lt
    refine (HR.out _).mono ?_
    rintro e V9 ⟨rfl, bq⟩
    have ha := ha.below bq
    have hb := hb.below bq
    have hr := hr.below bq
    have hf := hf.below bq
    have B := B.trans (bq.mono B.size)
    clear c0 c1 c2 c3 d0 d1 d2 d3 h0 h1 h2 h3 f0 f1 f2 f3 fl
    clear bq
    obtain ⟨c0, c1, c2, c3⟩ := block4 ha
    obtain ⟨d0, d1, d2, d3⟩ := block4 hb
    obtain ⟨h0, h1, h2, h3⟩ := block4 hf
    have f0 := hf.free 0
    have f1 := hf.free 1
    have f2 := hf.free 2
    have f3 := hf.free 3
    have fl := hf.lt
    have f4 := hr.free 0
    have f5 := hr.free 1
    have f6 := hr.free 2
    have f7 := hr.free 3
    obtain ⟨g0, g1, g2, g3⟩ := block4 hr
    go_wp2_with fail
    refine bodyPost_ret (v := .agg #[.bool rn, .string r1, .string r2, .bool rb]) (by simp [results, Try.results25, go_sem, g0, g1, g2, g3]) rfl ⟨rfl, ?_⟩
    exact (((B.setCell l2 _).setCell l2 _).setCell l2 _).setCell l2 _
set_option maxHeartbeats 6400000 in
set_option maxRecDepth 100000 in
theorem addF_same_t (na ba bb : Bool) (N1 D1 N2 D2 x y dd : Nat) (w : World) (h1 : (N1 : Int) < pw 16) (h2 : (D1 : Int) < pw 16) (h3 : (N2 : Int) < pw 16) (h4 : (D2 : Int) < pw 16) (hD : 0 < dd) (ex : N1 * D2 = x) (ey : N2 * D1 = y) (ed : D1 * D2 = dd) (ho : overB (x + y) = true)  :
    Calls Try.prog 25 #[fracV na N1 D1 ba, fracV na N2 D2 bb] w fun e w' => e = .returned (redV na (x + y) dd true) ∧ Below w.heap.size w w' := by
  have fx : 40 * (x : Int) < big := by rw [← ex]; exact far_mul2 h1 h4
  have fy : 40 * (y : Int) < big := by rw [← ey]; exact far_mul2 h3 h2
  have fd : 40 * (dd : Int) < big := by rw [← ed]; exact far_mul2 h2 h4
  have m1 := fun w => refmul_nat h1 h4 w
  have m2 := fun w => refmul_nat h3 h2 w
  have m3 := fun w => refmul_nat h2 h4 w
  rw [ex] at m1
  rw [ey] at m2
  rw [ed] at m3
  have M1 := Lib.hid m1
  have M2 := Lib.hid m2
  have M3 := Lib.hid m3
  clear m1 m2 m3
  have A1 := Lib.hid (fun w => refadd_nat (far_of fx) (far_of fy) w)
  have o1 := fun w => over_nat (far_sum fx fy) w
  rw [ho] at o1
  have O1 := Lib.hid o1
  clear o1
  have hR := fun w => red_fun na (x + y) dd true w (far_sum fx fy) (far_of fd) hD
  unfold redV
  unfold fracV at *
  have HR := Lib.hid hR
  clear hR
  obtain ⟨B, ha, hb, hr⟩ := three_any w #[.bool na, .string (numStr N1), .string (numStr D1), .bool ba] #[.bool na, .string (numStr N2), .string (numStr D2), .bool bb] #[.bool false, .string ⟨#[]⟩, .string ⟨#[]⟩, .bool false] 37 37 37
  generalize redBad (x + y) dd true = rb at *
  generalize (na && decide ((x + y) ≠ 0)) = rn at *
  obtain ⟨r1, e1⟩ : ∃ s, numStr (((x + y) / Nat.gcd (x + y) dd : Nat) : Int) = s := ⟨_, rfl⟩
  obtain ⟨r2, e2⟩ : ∃ s, numStr ((dd / Nat.gcd (x + y) dd : Nat) : Int) = s := ⟨_, rfl⟩
  rw [e1, e2] at HR ⊢
  clear e1 e2 h1 h2 h3 h4 hD ho fx fy fd ex ey ed
  generalize numStr (N1 : Int) = s1 at *
  generalize numStr (D1 : Int) = s2 at *
  generalize numStr (N2 : Int) = s3 at *
  generalize numStr (D2 : Int) = s4 at *
  generalize numStr (x : Int) = sx at *
  generalize numStr (y : Int) = sy at *
  generalize numStr (dd : Int) = sd at *
  generalize numStr ((x + y : Nat) : Int) = ss at *
  have hod : True := trivial
  have tok1 : True := trivial
  go_enter Try.func25, Try.ntmps25
  go_wp2_with fail
  generalize ((w.alloc (.cells #[.bool na, .string s1, .string s2, .bool ba] 37)).alloc (.cells #[.bool na, .string s3, .string s4, .bool bb] 37)).alloc (.cells #[.bool false, .string ⟨#[]⟩, .string ⟨#[]⟩, .bool false] 37) = W at *
  obtain ⟨p0, e0⟩ : ∃ p, w.heap.size = p := ⟨_, rfl⟩
  obtain ⟨p1, e1⟩ : ∃ p, p0 + 1 = p := ⟨_, rfl⟩
  obtain ⟨p2, e2⟩ : ∃ p, p1 + 1 = p := ⟨_, rfl⟩
  simp only [e0, e1, e2] at ha hb hr ⊢
  have n02 : ¬ p0 = p2 := by omega
  have n12 : ¬ p1 = p2 := by omega
  have n20 : ¬ p2 = p0 := by omega
  have n21 : ¬ p2 = p1 := by omega
  have l2 : w.heap.size ≤ p2 := by omega
  clear e0 e1 e2
  obtain ⟨c0, c1, c2, c3⟩ := block4 ha
  obtain ⟨d0, d1, d2, d3⟩ := block4 hb
  refine (M1.out _).mono ?_
  rintro e W2 ⟨rfl, bq⟩
  have ha := ha.below bq
  have hb := hb.below bq
  have hr := hr.below bq
  have B := B.trans (bq.mono B.size)
  clear bq c0 c1 c2 c3 d0 d1 d2 d3
  obtain ⟨c0, c1, c2, c3⟩ := block4 ha
  obtain ⟨d0, d1, d2, d3⟩ := block4 hb
  go_wp2_with fail
  refine (M2.out _).mono ?_
  rintro e W3 ⟨rfl, bq⟩
  have ha := ha.below bq
  have hb := hb.below bq
  have hr := hr.below bq
  have B := B.trans (bq.mono B.size)
  clear bq c0 c1 c2 c3 d0 d1 d2 d3
  obtain ⟨c0, c1, c2, c3⟩ := block4 ha
  obtain ⟨d0, d1, d2, d3⟩ := block4 hb
  go_wp2_with fail
  have ha := ha.below ((Below.refl W3.heap.size W3).drew)
  have hb := hb.below ((Below.refl W3.heap.size W3).drew)
  have hr := hr.below ((Below.refl W3.heap.size W3).drew)
  have B := B.drew
  clear c0 c1 c2 c3 d0 d1 d2 d3
  obtain ⟨c0, c1, c2, c3⟩ := block4 ha
  obtain ⟨d0, d1, d2, d3⟩ := block4 hb
  have z0 : W3.cell? ⟨p0, 0, none⟩ = some (.bool na) := c0
  have z1 : W3.cell? ⟨p0, 2, none⟩ = some (.string s2) := c2
  have z2 : W3.cell? ⟨p1, 2, none⟩ = some (.string s4) := d2
  have l0 : p0 < W3.heap.size := ha.lt
  have l1 : p1 < W3.heap.size := hb.lt
  go_cut [7] (fun v7 wx => ∃ p3, v7 = .pointer (some ⟨p3, 0, none⟩) ∧ Hid (w.heap.size ≤ p3 ∧ p0 ≠ p3 ∧ p1 ≠ p3 ∧ p2 ≠ p3) ∧ Hid (BlockAt wx p0 #[.bool na, .string s1, .string s2, .bool ba] 37) ∧ Hid (BlockAt wx p1 #[.bool na, .string s3, .string s4, .bool bb] 37) ∧ Hid (BlockAt wx p2 #[.bool false, .string ⟨#[]⟩, .string ⟨#[]⟩, .bool false] 37) ∧ Hid (BlockAt wx p3 #[.bool na, .string ss, .string sd, .bool false] 37) ∧ Hid (Below w.heap.size w wx))
  case first =>
    go_region_held3 (fun w' => w'.cell? ⟨p0, 0, none⟩ = some (.bool na) ∧ w'.cell? ⟨p0, 2, none⟩ = some (.string s2) ∧ w'.cell? ⟨p1, 2, none⟩ = some (.string s4))
      (go_keep)
      (first | (go_at_call 52; refine (A1.out _).mono ?_; rintro e W5 ⟨rfl, bq⟩; (first | (have ha := ha.below bq; have hf := hf.below bq; obtain ⟨h0, h1, h2, h3⟩ := block4 hf; have f0 := hf.free 0; have f1 := hf.free 1; have f2 := hf.free 2; have f3 := hf.free 3; have hb := hb.below bq; have hr := hr.below bq; have B := B.trans (bq.mono B.size); clear bq c0 c1 c2 c3 d0 d1 d2 d3; obtain ⟨c0, c1, c2, c3⟩ := block4 ha; obtain ⟨d0, d1, d2, d3⟩ := block4 hb; have l0 := ha.lt; have l1 := hb.lt) | (have ha := ha.below bq; have hb := hb.below bq; have hr := hr.below bq; have B := B.trans (bq.mono B.size); clear bq c0 c1 c2 c3 d0 d1 d2 d3; obtain ⟨c0, c1, c2, c3⟩ := block4 ha; obtain ⟨d0, d1, d2, d3⟩ := block4 hb; have l0 := ha.lt; have l1 := hb.lt) | (have n9 := Nat.ne_of_lt hr.lt; have sz := B.size; have n5 := Nat.ne_of_lt ha.lt; have n6 := Nat.ne_of_lt hb.lt; have hf := (BlockAt.new _ _ _).below bq; obtain ⟨h0, h1, h2, h3⟩ := block4 hf; have f0 := hf.free 0; have f1 := hf.free 1; have f2 := hf.free 2; have f3 := hf.free 3; have n7 := Nat.ne_of_gt ha.lt; have n8 := Nat.ne_of_gt hb.lt; have bq := over_alloc bq; have ha := ha.below bq; have hb := hb.below bq; have hr := hr.below bq; have B := B.trans (bq.mono B.size); clear bq c0 c1 c2 c3 d0 d1 d2 d3; obtain ⟨c0, c1, c2, c3⟩ := block4 ha; obtain ⟨d0, d1, d2, d3⟩ := block4 hb; have l0 := ha.lt; have l1 := hb.lt) | (have n9 : p2 ≠ W3.heap.size := Nat.ne_of_lt hr.lt; have sz : w.heap.size ≤ W3.heap.size := B.size; have n5 := Nat.ne_of_lt l0; have n6 := Nat.ne_of_lt l1; have hf := ((BlockAt.new W3 _ _).drewN 1).below bq; obtain ⟨h0, h1, h2, h3⟩ := block4 hf; have f0 := hf.free 0; have f1 := hf.free 1; have f2 := hf.free 2; have f3 := hf.free 3; have n7 := Nat.ne_of_gt l0; have n8 := Nat.ne_of_gt l1; have bq := over_alloc_drew bq; have ha := ha.below bq; have hb := hb.below bq; have hr := hr.below bq; have B := B.trans (bq.mono B.size); clear bq c0 c1 c2 c3 d0 d1 d2 d3; obtain ⟨c0, c1, c2, c3⟩ := block4 ha; obtain ⟨d0, d1, d2, d3⟩ := block4 hb; have l0 := ha.lt; have l1 := hb.lt))) | (go_at_call 33; refine (M3.out _).mono ?_; rintro e W6 ⟨rfl, bq⟩; (first | (have ha := ha.below bq; have hf := hf.below bq; obtain ⟨h0, h1, h2, h3⟩ := block4 hf; have f0 := hf.free 0; have f1 := hf.free 1; have f2 := hf.free 2; have f3 := hf.free 3; have hb := hb.below bq; have hr := hr.below bq; have B := B.trans (bq.mono B.size); clear bq c0 c1 c2 c3 d0 d1 d2 d3; obtain ⟨c0, c1, c2, c3⟩ := block4 ha; obtain ⟨d0, d1, d2, d3⟩ := block4 hb; have l0 := ha.lt; have l1 := hb.lt) | (have ha := ha.below bq; have hb := hb.below bq; have hr := hr.below bq; have B := B.trans (bq.mono B.size); clear bq c0 c1 c2 c3 d0 d1 d2 d3; obtain ⟨c0, c1, c2, c3⟩ := block4 ha; obtain ⟨d0, d1, d2, d3⟩ := block4 hb; have l0 := ha.lt; have l1 := hb.lt) | (have n9 := Nat.ne_of_lt hr.lt; have sz := B.size; have n5 := Nat.ne_of_lt ha.lt; have n6 := Nat.ne_of_lt hb.lt; have hf := (BlockAt.new _ _ _).below bq; obtain ⟨h0, h1, h2, h3⟩ := block4 hf; have f0 := hf.free 0; have f1 := hf.free 1; have f2 := hf.free 2; have f3 := hf.free 3; have n7 := Nat.ne_of_gt ha.lt; have n8 := Nat.ne_of_gt hb.lt; have bq := over_alloc bq; have ha := ha.below bq; have hb := hb.below bq; have hr := hr.below bq; have B := B.trans (bq.mono B.size); clear bq c0 c1 c2 c3 d0 d1 d2 d3; obtain ⟨c0, c1, c2, c3⟩ := block4 ha; obtain ⟨d0, d1, d2, d3⟩ := block4 hb; have l0 := ha.lt; have l1 := hb.lt) | (have n9 : p2 ≠ W3.heap.size := Nat.ne_of_lt hr.lt; have sz : w.heap.size ≤ W3.heap.size := B.size; have n5 := Nat.ne_of_lt l0; have n6 := Nat.ne_of_lt l1; have hf := ((BlockAt.new W3 _ _).drewN 1).below bq; obtain ⟨h0, h1, h2, h3⟩ := block4 hf; have f0 := hf.free 0; have f1 := hf.free 1; have f2 := hf.free 2; have f3 := hf.free 3; have n7 := Nat.ne_of_gt l0; have n8 := Nat.ne_of_gt l1; have bq := over_alloc_drew bq; have ha := ha.below bq; have hb := hb.below bq; have hr := hr.below bq; have B := B.trans (bq.mono B.size); clear bq c0 c1 c2 c3 d0 d1 d2 d3; obtain ⟨c0, c1, c2, c3⟩ := block4 ha; obtain ⟨d0, d1, d2, d3⟩ := block4 hb; have l0 := ha.lt; have l1 := hb.lt))))
    all_goals
      clear M1 M2 M3 A1 O1 HR
      go_wp2_with fail
      go_meet
      first
        | (obtain ⟨y1, y2, y3, y4, y5⟩ := fset (.bool na) (.string ss) (.string sd) (.bool false) ha hb hr hf n5 n6 n9 sz B rfl; exact ⟨_, rfl, Lib.hid ⟨sz, n5, n6, n9⟩, Lib.hid y1, Lib.hid y2, Lib.hid y3, Lib.hid y4, Lib.hid y5⟩)
        | (obtain ⟨y1, y2, y3, y4, y5⟩ := fnew #[.bool na, .string ss, .string sd, .bool false] 37 ha hb hr B rfl; exact ⟨_, rfl, Lib.hid ⟨B.size, Nat.ne_of_lt ha.lt, Nat.ne_of_lt hb.lt, Nat.ne_of_lt hr.lt⟩, Lib.hid y1, Lib.hid y2, Lib.hid y3, Lib.hid y4, Lib.hid y5⟩)
  case rest =>
    obtain ⟨p3, rfl, hp, ya, yb, yr, yf, yB⟩ := hcut
    obtain ⟨sz, n0, n1, n2⟩ := hp.out
    have ha := ya.out
    have hb := yb.out
    have hr := yr.out
    have hf := yf.out
    have B := yB.out
    clear ya yb yr yf yB hp A1 M1 M2 M3 z0 z1 z2 l0 l1 c0 c1 c2 c3 d0 d1 d2 d3 n02 n12 n20 n21
    have m0 : ¬ p3 = p0 := fun h => n0 h.symm
    have m1 : ¬ p3 = p1 := fun h => n1 h.symm
    have m2 : ¬ p3 = p2 := fun h => n2 h.symm
    obtain ⟨c0, c1, c2, c3⟩ := block4 ha
    obtain ⟨d0, d1, d2, d3⟩ := block4 hb
    obtain ⟨h0, h1, h2, h3⟩ := block4 hf
    have f0 := hf.free 0
    have f1 := hf.free 1
    have f2 := hf.free 2
    have f3 := hf.free 3
    have fl := hf.lt
    go_wp2_with fail
    refine (O1.out _).mono ?_
    rintro e V1 ⟨rfl, bq⟩
    have ha := ha.below bq
    have hb := hb.below bq
    have hr := hr.below bq
    have hf := hf.below bq
    have B := B.trans (bq.mono B.size)
    clear c0 c1 c2 c3 d0 d1 d2 d3 h0 h1 h2 h3 f0 f1 f2 f3 fl
    clear bq
    obtain ⟨c0, c1, c2, c3⟩ := block4 ha
    obtain ⟨d0, d1, d2, d3⟩ := block4 hb
    obtain ⟨h0, h1, h2, h3⟩ := block4 hf
    have f0 := hf.free 0
    have f1 := hf.free 1
    have f2 := hf.free 2
    have f3 := hf.free 3
    have fl := hf.lt
    have hq : (na != na) = false := by simp
    have ha := ha.other n0 3 (.bool true)
    have hb := hb.other n1 3 (.bool true)
    have hr := hr.other n2 3 (.bool true)
    have hf := hf.set 3 (.bool true)
    have B := B.setCell (p := ⟨p3, 3, none⟩) sz (.bool true)
    go_wp2_with fail
    generalize (V1.setCell ⟨p3, 3, none⟩ (.bool true)) = U1 at *
    simp at hf
    clear c0 c1 c2 c3 d0 d1 d2 d3 h0 h1 h2 h3 f0 f1 f2 f3 fl
    obtain ⟨c0, c1, c2, c3⟩ := block4 ha
    obtain ⟨d0, d1, d2, d3⟩ := block4 hb
    obtain ⟨h0, h1, h2, h3⟩ := block4 hf
    have f0 := hf.free 0
    have f1 := hf.free 1
    have f2 := hf.free 2
    have f3 := hf.free 3
    have fl := hf.lt
    refine (HR.out _).mono ?_
    rintro e V9 ⟨rfl, bq⟩
    have ha := ha.below bq
    have hb := hb.below bq
    have hr := hr.below bq
    have hf := hf.below bq
    have B := B.trans (bq.mono B.size)
    clear c0 c1 c2 c3 d0 d1 d2 d3 h0 h1 h2 h3 f0 f1 f2 f3 fl
    clear bq
    obtain ⟨c0, c1, c2, c3⟩ := block4 ha
    obtain ⟨d0, d1, d2, d3⟩ := block4 hb
    obtain ⟨h0, h1, h2, h3⟩ := block4 hf
    have f0 := hf.free 0
    have f1 := hf.free 1
    have f2 := hf.free 2
    have f3 := hf.free 3
    have fl := hf.lt
    have f4 := hr.free 0
    have f5 := hr.free 1
    have f6 := hr.free 2
    have f7 := hr.free 3
    obtain ⟨g0, g1, g2, g3⟩ := block4 hr
    go_wp2_with fail
    refine bodyPost_ret (v := .agg #[.bool rn, .string r1, .string r2, .bool rb]) (by simp [results, Try.results25, go_sem, g0, g1, g2, g3]) rfl ⟨rfl, ?_⟩
    exact (((B.setCell l2 _).setCell l2 _).setCell l2 _).setCell l2 _
set_option maxHeartbeats 6400000 in
set_option maxRecDepth 100000 in
theorem addF_ge_f (na ba bb : Bool) (N1 D1 N2 D2 x y dd : Nat) (w : World) (h1 : (N1 : Int) < pw 16) (h2 : (D1 : Int) < pw 16) (h3 : (N2 : Int) < pw 16) (h4 : (D2 : Int) < pw 16) (hD : 0 < dd) (ex : N1 * D2 = x) (ey : N2 * D1 = y) (ed : D1 * D2 = dd) (ho : overB (x + y) = false) (h : y ≤ x) :
    Calls Try.prog 25 #[fracV na N1 D1 ba, fracV (!na) N2 D2 bb] w fun e w' => e = .returned (redV na (max x y - min x y) dd (overB dd)) ∧ Below w.heap.size w w' := by
  have fx : 40 * (x : Int) < big := by rw [← ex]; exact far_mul2 h1 h4
  have fy : 40 * (y : Int) < big := by rw [← ey]; exact far_mul2 h3 h2
  have fd : 40 * (dd : Int) < big := by rw [← ed]; exact far_mul2 h2 h4
  have m1 := fun w => refmul_nat h1 h4 w
  have m2 := fun w => refmul_nat h3 h2 w
  have m3 := fun w => refmul_nat h2 h4 w
  rw [ex] at m1
  rw [ey] at m2
  rw [ed] at m3
  have M1 := Lib.hid m1
  have M2 := Lib.hid m2
  have M3 := Lib.hid m3
  clear m1 m2 m3
  have A1 := Lib.hid (fun w => refadd_nat (far_of fx) (far_of fy) w)
  have o1 := fun w => over_nat (far_sum fx fy) w
  rw [ho] at o1
  have O1 := Lib.hid o1
  clear o1
  have O2 := Lib.hid (fun w => over_nat (far_of fd) w)
  have fm : Far (max x y) := by unfold Far; omega
  have G1 := Lib.hid (fun w => larger_fun x y w (far_of fx) (far_of fy))
  have G2 := Lib.hid (fun w => smaller_fun x y w (far_of fx) (far_of fy))
  have G3 := Lib.hid (fun w => refsub_nat fm (show min x y ≤ max x y by omega) w)
  obtain ⟨cg, hcg, g4⟩ := cmp_ge (far_of fx) (far_of fy) h
  have G4 := Lib.hid g4
  clear g4
  have hR := fun w => red_fun na (max x y - min x y) dd (overB dd) w (show Far (max x y - min x y) by unfold Far; omega) (far_of fd) hD
  unfold redV
  unfold fracV at *
  have HR := Lib.hid hR
  clear hR
  obtain ⟨B, ha, hb, hr⟩ := three_any w #[.bool na, .string (numStr N1), .string (numStr D1), .bool ba] #[.bool (!na), .string (numStr N2), .string (numStr D2), .bool bb] #[.bool false, .string ⟨#[]⟩, .string ⟨#[]⟩, .bool false] 37 37 37
  generalize redBad (max x y - min x y) dd (overB dd) = rb at *
  generalize (na && decide ((max x y - min x y) ≠ 0)) = rn at *
  obtain ⟨r1, e1⟩ : ∃ s, numStr (((max x y - min x y) / Nat.gcd (max x y - min x y) dd : Nat) : Int) = s := ⟨_, rfl⟩
  obtain ⟨r2, e2⟩ : ∃ s, numStr ((dd / Nat.gcd (max x y - min x y) dd : Nat) : Int) = s := ⟨_, rfl⟩
  rw [e1, e2] at HR ⊢
  clear e1 e2 h1 h2 h3 h4 hD ho fx fy fd ex ey ed fm h
  generalize numStr (N1 : Int) = s1 at *
  generalize numStr (D1 : Int) = s2 at *
  generalize numStr (N2 : Int) = s3 at *
  generalize numStr (D2 : Int) = s4 at *
  generalize numStr (x : Int) = sx at *
  generalize numStr (y : Int) = sy at *
  generalize numStr (dd : Int) = sd at *
  generalize numStr ((x + y : Nat) : Int) = ss at *
  generalize overB dd = od at *
  generalize numStr ((max x y - min x y : Nat) : Int) = sf at *
  generalize numStr ((max x y : Nat) : Int) = sg at *
  generalize numStr ((min x y : Nat) : Int) = sh at *
  have tok1 : True := trivial
  go_enter Try.func25, Try.ntmps25
  go_wp2_with fail
  generalize ((w.alloc (.cells #[.bool na, .string s1, .string s2, .bool ba] 37)).alloc (.cells #[.bool (!na), .string s3, .string s4, .bool bb] 37)).alloc (.cells #[.bool false, .string ⟨#[]⟩, .string ⟨#[]⟩, .bool false] 37) = W at *
  obtain ⟨p0, e0⟩ : ∃ p, w.heap.size = p := ⟨_, rfl⟩
  obtain ⟨p1, e1⟩ : ∃ p, p0 + 1 = p := ⟨_, rfl⟩
  obtain ⟨p2, e2⟩ : ∃ p, p1 + 1 = p := ⟨_, rfl⟩
  simp only [e0, e1, e2] at ha hb hr ⊢
  have n02 : ¬ p0 = p2 := by omega
  have n12 : ¬ p1 = p2 := by omega
  have n20 : ¬ p2 = p0 := by omega
  have n21 : ¬ p2 = p1 := by omega
  have l2 : w.heap.size ≤ p2 := by omega
  clear e0 e1 e2
  obtain ⟨c0, c1, c2, c3⟩ := block4 ha
  obtain ⟨d0, d1, d2, d3⟩ := block4 hb
  refine (M1.out _).mono ?_
  rintro e W2 ⟨rfl, bq⟩
  have ha := ha.below bq
  have hb := hb.below bq
  have hr := hr.below bq
  have B := B.trans (bq.mono B.size)
  clear bq c0 c1 c2 c3 d0 d1 d2 d3
  obtain ⟨c0, c1, c2, c3⟩ := block4 ha
  obtain ⟨d0, d1, d2, d3⟩ := block4 hb
  go_wp2_with fail
  refine (M2.out _).mono ?_
  rintro e W3 ⟨rfl, bq⟩
  have ha := ha.below bq
  have hb := hb.below bq
  have hr := hr.below bq
  have B := B.trans (bq.mono B.size)
  clear bq c0 c1 c2 c3 d0 d1 d2 d3
  obtain ⟨c0, c1, c2, c3⟩ := block4 ha
  obtain ⟨d0, d1, d2, d3⟩ := block4 hb
  go_wp2_with fail
  have ha := ha.below ((Below.refl W3.heap.size W3).drew)
  have hb := hb.below ((Below.refl W3.heap.size W3).drew)
  have hr := hr.below ((Below.refl W3.heap.size W3).drew)
  have B := B.drew
  clear c0 c1 c2 c3 d0 d1 d2 d3
  obtain ⟨c0, c1, c2, c3⟩ := block4 ha
  obtain ⟨d0, d1, d2, d3⟩ := block4 hb
  have z0 : W3.cell? ⟨p0, 0, none⟩ = some (.bool na) := c0
  have z1 : W3.cell? ⟨p0, 2, none⟩ = some (.string s2) := c2
  have z2 : W3.cell? ⟨p1, 2, none⟩ = some (.string s4) := d2
  have l0 : p0 < W3.heap.size := ha.lt
  have l1 : p1 < W3.heap.size := hb.lt
  go_cut [7] (fun v7 wx => ∃ p3, v7 = .pointer (some ⟨p3, 0, none⟩) ∧ Hid (w.heap.size ≤ p3 ∧ p0 ≠ p3 ∧ p1 ≠ p3 ∧ p2 ≠ p3) ∧ Hid (BlockAt wx p0 #[.bool na, .string s1, .string s2, .bool ba] 37) ∧ Hid (BlockAt wx p1 #[.bool (!na), .string s3, .string s4, .bool bb] 37) ∧ Hid (BlockAt wx p2 #[.bool false, .string ⟨#[]⟩, .string ⟨#[]⟩, .bool false] 37) ∧ Hid (BlockAt wx p3 #[.bool na, .string ss, .string sd, .bool false] 37) ∧ Hid (Below w.heap.size w wx))
  case first =>
    go_region_held3 (fun w' => w'.cell? ⟨p0, 0, none⟩ = some (.bool na) ∧ w'.cell? ⟨p0, 2, none⟩ = some (.string s2) ∧ w'.cell? ⟨p1, 2, none⟩ = some (.string s4))
      (go_keep)
      (first | (go_at_call 52; refine (A1.out _).mono ?_; rintro e W5 ⟨rfl, bq⟩; (first | (have ha := ha.below bq; have hf := hf.below bq; obtain ⟨h0, h1, h2, h3⟩ := block4 hf; have f0 := hf.free 0; have f1 := hf.free 1; have f2 := hf.free 2; have f3 := hf.free 3; have hb := hb.below bq; have hr := hr.below bq; have B := B.trans (bq.mono B.size); clear bq c0 c1 c2 c3 d0 d1 d2 d3; obtain ⟨c0, c1, c2, c3⟩ := block4 ha; obtain ⟨d0, d1, d2, d3⟩ := block4 hb; have l0 := ha.lt; have l1 := hb.lt) | (have ha := ha.below bq; have hb := hb.below bq; have hr := hr.below bq; have B := B.trans (bq.mono B.size); clear bq c0 c1 c2 c3 d0 d1 d2 d3; obtain ⟨c0, c1, c2, c3⟩ := block4 ha; obtain ⟨d0, d1, d2, d3⟩ := block4 hb; have l0 := ha.lt; have l1 := hb.lt) | (have n9 := Nat.ne_of_lt hr.lt; have sz := B.size; have n5 := Nat.ne_of_lt ha.lt; have n6 := Nat.ne_of_lt hb.lt; have hf := (BlockAt.new _ _ _).below bq; obtain ⟨h0, h1, h2, h3⟩ := block4 hf; have f0 := hf.free 0; have f1 := hf.free 1; have f2 := hf.free 2; have f3 := hf.free 3; have n7 := Nat.ne_of_gt ha.lt; have n8 := Nat.ne_of_gt hb.lt; have bq := over_alloc bq; have ha := ha.below bq; have hb := hb.below bq; have hr := hr.below bq; have B := B.trans (bq.mono B.size); clear bq c0 c1 c2 c3 d0 d1 d2 d3; obtain ⟨c0, c1, c2, c3⟩ := block4 ha; obtain ⟨d0, d1, d2, d3⟩ := block4 hb; have l0 := ha.lt; have l1 := hb.lt) | (have n9 : p2 ≠ W3.heap.size := Nat.ne_of_lt hr.lt; have sz : w.heap.size ≤ W3.heap.size := B.size; have n5 := Nat.ne_of_lt l0; have n6 := Nat.ne_of_lt l1; have hf := ((BlockAt.new W3 _ _).drewN 1).below bq; obtain ⟨h0, h1, h2, h3⟩ := block4 hf; have f0 := hf.free 0; have f1 := hf.free 1; have f2 := hf.free 2; have f3 := hf.free 3; have n7 := Nat.ne_of_gt l0; have n8 := Nat.ne_of_gt l1; have bq := over_alloc_drew bq; have ha := ha.below bq; have hb := hb.below bq; have hr := hr.below bq; have B := B.trans (bq.mono B.size); clear bq c0 c1 c2 c3 d0 d1 d2 d3; obtain ⟨c0, c1, c2, c3⟩ := block4 ha; obtain ⟨d0, d1, d2, d3⟩ := block4 hb; have l0 := ha.lt; have l1 := hb.lt))) | (go_at_call 33; refine (M3.out _).mono ?_; rintro e W6 ⟨rfl, bq⟩; (first | (have ha := ha.below bq; have hf := hf.below bq; obtain ⟨h0, h1, h2, h3⟩ := block4 hf; have f0 := hf.free 0; have f1 := hf.free 1; have f2 := hf.free 2; have f3 := hf.free 3; have hb := hb.below bq; have hr := hr.below bq; have B := B.trans (bq.mono B.size); clear bq c0 c1 c2 c3 d0 d1 d2 d3; obtain ⟨c0, c1, c2, c3⟩ := block4 ha; obtain ⟨d0, d1, d2, d3⟩ := block4 hb; have l0 := ha.lt; have l1 := hb.lt) | (have ha := ha.below bq; have hb := hb.below bq; have hr := hr.below bq; have B := B.trans (bq.mono B.size); clear bq c0 c1 c2 c3 d0 d1 d2 d3; obtain ⟨c0, c1, c2, c3⟩ := block4 ha; obtain ⟨d0, d1, d2, d3⟩ := block4 hb; have l0 := ha.lt; have l1 := hb.lt) | (have n9 := Nat.ne_of_lt hr.lt; have sz := B.size; have n5 := Nat.ne_of_lt ha.lt; have n6 := Nat.ne_of_lt hb.lt; have hf := (BlockAt.new _ _ _).below bq; obtain ⟨h0, h1, h2, h3⟩ := block4 hf; have f0 := hf.free 0; have f1 := hf.free 1; have f2 := hf.free 2; have f3 := hf.free 3; have n7 := Nat.ne_of_gt ha.lt; have n8 := Nat.ne_of_gt hb.lt; have bq := over_alloc bq; have ha := ha.below bq; have hb := hb.below bq; have hr := hr.below bq; have B := B.trans (bq.mono B.size); clear bq c0 c1 c2 c3 d0 d1 d2 d3; obtain ⟨c0, c1, c2, c3⟩ := block4 ha; obtain ⟨d0, d1, d2, d3⟩ := block4 hb; have l0 := ha.lt; have l1 := hb.lt) | (have n9 : p2 ≠ W3.heap.size := Nat.ne_of_lt hr.lt; have sz : w.heap.size ≤ W3.heap.size := B.size; have n5 := Nat.ne_of_lt l0; have n6 := Nat.ne_of_lt l1; have hf := ((BlockAt.new W3 _ _).drewN 1).below bq; obtain ⟨h0, h1, h2, h3⟩ := block4 hf; have f0 := hf.free 0; have f1 := hf.free 1; have f2 := hf.free 2; have f3 := hf.free 3; have n7 := Nat.ne_of_gt l0; have n8 := Nat.ne_of_gt l1; have bq := over_alloc_drew bq; have ha := ha.below bq; have hb := hb.below bq; have hr := hr.below bq; have B := B.trans (bq.mono B.size); clear bq c0 c1 c2 c3 d0 d1 d2 d3; obtain ⟨c0, c1, c2, c3⟩ := block4 ha; obtain ⟨d0, d1, d2, d3⟩ := block4 hb; have l0 := ha.lt; have l1 := hb.lt))))
    all_goals
      clear M1 M2 M3 A1 O1 HR
      go_wp2_with fail
      go_meet
      first
        | (obtain ⟨y1, y2, y3, y4, y5⟩ := fset (.bool na) (.string ss) (.string sd) (.bool false) ha hb hr hf n5 n6 n9 sz B rfl; exact ⟨_, rfl, Lib.hid ⟨sz, n5, n6, n9⟩, Lib.hid y1, Lib.hid y2, Lib.hid y3, Lib.hid y4, Lib.hid y5⟩)
        | (obtain ⟨y1, y2, y3, y4, y5⟩ := fnew #[.bool na, .string ss, .string sd, .bool false] 37 ha hb hr B rfl; exact ⟨_, rfl, Lib.hid ⟨B.size, Nat.ne_of_lt ha.lt, Nat.ne_of_lt hb.lt, Nat.ne_of_lt hr.lt⟩, Lib.hid y1, Lib.hid y2, Lib.hid y3, Lib.hid y4, Lib.hid y5⟩)
  case rest =>
    obtain ⟨p3, rfl, hp, ya, yb, yr, yf, yB⟩ := hcut
    obtain ⟨sz, n0, n1, n2⟩ := hp.out
    have ha := ya.out
    have hb := yb.out
    have hr := yr.out
    have hf := yf.out
    have B := yB.out
    clear ya yb yr yf yB hp A1 M1 M2 M3 z0 z1 z2 l0 l1 c0 c1 c2 c3 d0 d1 d2 d3 n02 n12 n20 n21
    have m0 : ¬ p3 = p0 := fun h => n0 h.symm
    have m1 : ¬ p3 = p1 := fun h => n1 h.symm
    have m2 : ¬ p3 = p2 := fun h => n2 h.symm
    obtain ⟨c0, c1, c2, c3⟩ := block4 ha
    obtain ⟨d0, d1, d2, d3⟩ := block4 hb
    obtain ⟨h0, h1, h2, h3⟩ := block4 hf
    have f0 := hf.free 0
    have f1 := hf.free 1
    have f2 := hf.free 2
    have f3 := hf.free 3
    have fl := hf.lt
    go_wp2_with fail
    refine (O1.out _).mono ?_
    rintro e V1 ⟨rfl, bq⟩
    have ha := ha.below bq
    have hb := hb.below bq
    have hr := hr.below bq
    have hf := hf.below bq
    have B := B.trans (bq.mono B.size)
    clear c0 c1 c2 c3 d0 d1 d2 d3 h0 h1 h2 h3 f0 f1 f2 f3 fl
    clear bq
    obtain ⟨c0, c1, c2, c3⟩ := block4 ha
    obtain ⟨d0, d1, d2, d3⟩ := block4 hb
    obtain ⟨h0, h1, h2, h3⟩ := block4 hf
    have f0 := hf.free 0
    have f1 := hf.free 1
    have f2 := hf.free 2
    have f3 := hf.free 3
    have fl := hf.lt
    go_wp2_with fail
    refine (O2.out _).mono ?_
    rintro e V2 ⟨rfl, bq⟩
    have ha := ha.below bq
    have hb := hb.below bq
    have hr := hr.below bq
    have hf := hf.below bq
    have B := B.trans (bq.mono B.size)
    clear c0 c1 c2 c3 d0 d1 d2 d3 h0 h1 h2 h3 f0 f1 f2 f3 fl
    clear bq
    obtain ⟨c0, c1, c2, c3⟩ := block4 ha
    obtain ⟨d0, d1, d2, d3⟩ := block4 hb
    obtain ⟨h0, h1, h2, h3⟩ := block4 hf
    have f0 := hf.free 0
    have f1 := hf.free 1
    have f2 := hf.free 2
    have f3 := hf.free 3
    have fl := hf.lt
    have hq : (na != !na) = true := by cases na <;> rfl
    have ha := ha.other n0 3 (.bool od)
    have hb := hb.other n1 3 (.bool od)
    have hr := hr.other n2 3 (.bool od)
    have hf := hf.set 3 (.bool od)
    have B := B.setCell (p := ⟨p3, 3, none⟩) sz (.bool od)
    have ha := ha.other n0 0 (.bool (!na))
    have hb := hb.other n1 0 (.bool (!na))
    have hr := hr.other n2 0 (.bool (!na))
    have hf := hf.set 0 (.bool (!na))
    have B := B.setCell (p := ⟨p3, 0, none⟩) sz (.bool (!na))
    go_wp2_with fail
    generalize ((V2.setCell ⟨p3, 3, none⟩ (.bool od)).setCell ⟨p3, 0, none⟩ (.bool (!na))) = U1 at *
    simp at hf
    clear c0 c1 c2 c3 d0 d1 d2 d3 h0 h1 h2 h3 f0 f1 f2 f3 fl
    obtain ⟨c0, c1, c2, c3⟩ := block4 ha
    obtain ⟨d0, d1, d2, d3⟩ := block4 hb
    obtain ⟨h0, h1, h2, h3⟩ := block4 hf
    have f0 := hf.free 0
    have f1 := hf.free 1
    have f2 := hf.free 2
    have f3 := hf.free 3
    have fl := hf.lt
    refine (G1.out _).mono ?_
    rintro e w' ⟨rfl, rfl⟩
    go_wp2_with fail
    refine (G2.out _).mono ?_
    rintro e w' ⟨rfl, rfl⟩
    go_wp2_with fail
    refine (G3.out _).mono ?_
    rintro e V3 ⟨rfl, bq⟩
    have ha := ha.below bq
    have hb := hb.below bq
    have hr := hr.below bq
    have hf := hf.below bq
    have B := B.trans (bq.mono B.size)
    clear c0 c1 c2 c3 d0 d1 d2 d3 h0 h1 h2 h3 f0 f1 f2 f3 fl
    clear bq
    obtain ⟨c0, c1, c2, c3⟩ := block4 ha
    obtain ⟨d0, d1, d2, d3⟩ := block4 hb
    obtain ⟨h0, h1, h2, h3⟩ := block4 hf
    have f0 := hf.free 0
    have f1 := hf.free 1
    have f2 := hf.free 2
    have f3 := hf.free 3
    have fl := hf.lt
    have ha := ha.other n0 1 (.string sf)
    have hb := hb.other n1 1 (.string sf)
    have hr := hr.other n2 1 (.string sf)
    have hf := hf.set 1 (.string sf)
    have B := B.setCell (p := ⟨p3, 1, none⟩) sz (.string sf)
    go_wp2_with fail
    generalize (V3.setCell ⟨p3, 1, none⟩ (.string sf)) = U2 at *
    simp at hf
    clear c0 c1 c2 c3 d0 d1 d2 d3 h0 h1 h2 h3 f0 f1 f2 f3 fl
    obtain ⟨c0, c1, c2, c3⟩ := block4 ha
    obtain ⟨d0, d1, d2, d3⟩ := block4 hb
    obtain ⟨h0, h1, h2, h3⟩ := block4 hf
    have f0 := hf.free 0
    have f1 := hf.free 1
    have f2 := hf.free 2
    have f3 := hf.free 3
    have fl := hf.lt
    refine (G4.out _).mono ?_
    rintro e w' ⟨rfl, rfl⟩
    have ha := ha.other n0 0 (.bool na)
    have hb := hb.other n1 0 (.bool na)
    have hr := hr.other n2 0 (.bool na)
    have hf := hf.set 0 (.bool na)
    have B := B.setCell (p := ⟨p3, 0, none⟩) sz (.bool na)
    go_wp2_with fail
    generalize (U2.setCell ⟨p3, 0, none⟩ (.bool na)) = U3 at *
    simp at hf
    clear c0 c1 c2 c3 d0 d1 d2 d3 h0 h1 h2 h3 f0 f1 f2 f3 fl
    obtain ⟨c0, c1, c2, c3⟩ := block4 ha
    obtain ⟨d0, d1, d2, d3⟩ := block4 hb
    obtain ⟨h0, h1, h2, h3⟩ := block4 hf
    have f0 := hf.free 0
    have f1 := hf.free 1
    have f2 := hf.free 2
    have f3 := hf.free 3
    have fl := hf.lt
    refine (HR.out _).mono ?_
    rintro e V9 ⟨rfl, bq⟩
    have ha := ha.below bq
    have hb := hb.below bq
    have hr := hr.below bq
    have hf := hf.below bq
    have B := B.trans (bq.mono B.size)
    clear c0 c1 c2 c3 d0 d1 d2 d3 h0 h1 h2 h3 f0 f1 f2 f3 fl
    clear bq
    obtain ⟨c0, c1, c2, c3⟩ := block4 ha
    obtain ⟨d0, d1, d2, d3⟩ := block4 hb
    obtain ⟨h0, h1, h2, h3⟩ := block4 hf
    have f0 := hf.free 0
    have f1 := hf.free 1
    have f2 := hf.free 2
    have f3 := hf.free 3
    have fl := hf.lt
    have f4 := hr.free 0
    have f5 := hr.free 1
    have f6 := hr.free 2
    have f7 := hr.free 3
    obtain ⟨g0, g1, g2, g3⟩ := block4 hr
    go_wp2_with fail
    refine bodyPost_ret (v := .agg #[.bool rn, .string r1, .string r2, .bool rb]) (by simp [results, Try.results25, go_sem, g0, g1, g2, g3]) rfl ⟨rfl, ?_⟩
    exact (((B.setCell l2 _).setCell l2 _).setCell l2 _).setCell l2 _
set_option maxHeartbeats 6400000 in
set_option maxRecDepth 100000 in
theorem addF_ge_t (na ba bb : Bool) (N1 D1 N2 D2 x y dd : Nat) (w : World) (h1 : (N1 : Int) < pw 16) (h2 : (D1 : Int) < pw 16) (h3 : (N2 : Int) < pw 16) (h4 : (D2 : Int) < pw 16) (hD : 0 < dd) (ex : N1 * D2 = x) (ey : N2 * D1 = y) (ed : D1 * D2 = dd) (ho : overB (x + y) = true) (h : y ≤ x) :
    Calls Try.prog 25 #[fracV na N1 D1 ba, fracV (!na) N2 D2 bb] w fun e w' => e = .returned (redV na (max x y - min x y) dd true) ∧ Below w.heap.size w w' := by
  have fx : 40 * (x : Int) < big := by rw [← ex]; exact far_mul2 h1 h4
  have fy : 40 * (y : Int) < big := by rw [← ey]; exact far_mul2 h3 h2
  have fd : 40 * (dd : Int) < big := by rw [← ed]; exact far_mul2 h2 h4
  have m1 := fun w => refmul_nat h1 h4 w
  have m2 := fun w => refmul_nat h3 h2 w
  have m3 := fun w => refmul_nat h2 h4 w
  rw [ex] at m1
  rw [ey] at m2
  rw [ed] at m3
  have M1 := Lib.hid m1
  have M2 := Lib.hid m2
  have M3 := Lib.hid m3
  clear m1 m2 m3
  have A1 := Lib.hid (fun w => refadd_nat (far_of fx) (far_of fy) w)
  have o1 := fun w => over_nat (far_sum fx fy) w
  rw [ho] at o1
  have O1 := Lib.hid o1
  clear o1
  have fm : Far (max x y) := by unfold Far; omega
  have G1 := Lib.hid (fun w => larger_fun x y w (far_of fx) (far_of fy))
  have G2 := Lib.hid (fun w => smaller_fun x y w (far_of fx) (far_of fy))
  have G3 := Lib.hid (fun w => refsub_nat fm (show min x y ≤ max x y by omega) w)
  obtain ⟨cg, hcg, g4⟩ := cmp_ge (far_of fx) (far_of fy) h
  have G4 := Lib.hid g4
  clear g4
  have hR := fun w => red_fun na (max x y - min x y) dd true w (show Far (max x y - min x y) by unfold Far; omega) (far_of fd) hD
  unfold redV
  unfold fracV at *
  have HR := Lib.hid hR
  clear hR
  obtain ⟨B, ha, hb, hr⟩ := three_any w #[.bool na, .string (numStr N1), .string (numStr D1), .bool ba] #[.bool (!na), .string (numStr N2), .string (numStr D2), .bool bb] #[.bool false, .string ⟨#[]⟩, .string ⟨#[]⟩, .bool false] 37 37 37
  generalize redBad (max x y - min x y) dd true = rb at *
  generalize (na && decide ((max x y - min x y) ≠ 0)) = rn at *
  obtain ⟨r1, e1⟩ : ∃ s, numStr (((max x y - min x y) / Nat.gcd (max x y - min x y) dd : Nat) : Int) = s := ⟨_, rfl⟩
  obtain ⟨r2, e2⟩ : ∃ s, numStr ((dd / Nat.gcd (max x y - min x y) dd : Nat) : Int) = s := ⟨_, rfl⟩
  rw [e1, e2] at HR ⊢
  clear e1 e2 h1 h2 h3 h4 hD ho fx fy fd ex ey ed fm h
  generalize numStr (N1 : Int) = s1 at *
  generalize numStr (D1 : Int) = s2 at *
  generalize numStr (N2 : Int) = s3 at *
  generalize numStr (D2 : Int) = s4 at *
  generalize numStr (x : Int) = sx at *
  generalize numStr (y : Int) = sy at *
  generalize numStr (dd : Int) = sd at *
  generalize numStr ((x + y : Nat) : Int) = ss at *
  have hod : True := trivial
  generalize numStr ((max x y - min x y : Nat) : Int) = sf at *
  generalize numStr ((max x y : Nat) : Int) = sg at *
  generalize numStr ((min x y : Nat) : Int) = sh at *
  have tok1 : True := trivial
  go_enter Try.func25, Try.ntmps25
  go_wp2_with fail
  generalize ((w.alloc (.cells #[.bool na, .string s1, .string s2, .bool ba] 37)).alloc (.cells #[.bool (!na), .string s3, .string s4, .bool bb] 37)).alloc (.cells #[.bool false, .string ⟨#[]⟩, .string ⟨#[]⟩, .bool false] 37) = W at *
  obtain ⟨p0, e0⟩ : ∃ p, w.heap.size = p := ⟨_, rfl⟩
  obtain ⟨p1, e1⟩ : ∃ p, p0 + 1 = p := ⟨_, rfl⟩
  obtain ⟨p2, e2⟩ : ∃ p, p1 + 1 = p := ⟨_, rfl⟩
  simp only [e0, e1, e2] at ha hb hr ⊢
  have n02 : ¬ p0 = p2 := by omega
  have n12 : ¬ p1 = p2 := by omega
  have n20 : ¬ p2 = p0 := by omega
  have n21 : ¬ p2 = p1 := by omega
  have l2 : w.heap.size ≤ p2 := by omega
  clear e0 e1 e2
  obtain ⟨c0, c1, c2, c3⟩ := block4 ha
  obtain ⟨d0, d1, d2, d3⟩ := block4 hb
  refine (M1.out _).mono ?_
  rintro e W2 ⟨rfl, bq⟩
  have ha := ha.below bq
  have hb := hb.below bq
  have hr := hr.below bq
  have B := B.trans (bq.mono B.size)
  clear bq c0 c1 c2 c3 d0 d1 d2 d3
  obtain ⟨c0, c1, c2, c3⟩ := block4 ha
  obtain ⟨d0, d1, d2, d3⟩ := block4 hb
  go_wp2_with fail
  refine (M2.out _).mono ?_
  rintro e W3 ⟨rfl, bq⟩
  have ha := ha.below bq
  have hb := hb.below bq
  have hr := hr.below bq
  have B := B.trans (bq.mono B.size)
  clear bq c0 c1 c2 c3 d0 d1 d2 d3
  obtain ⟨c0, c1, c2, c3⟩ := block4 ha
  obtain ⟨d0, d1, d2, d3⟩ := block4 hb
  go_wp2_with fail
  have ha := ha.below ((Below.refl W3.heap.size W3).drew)
  have hb := hb.below ((Below.refl W3.heap.size W3).drew)
  have hr := hr.below ((Below.refl W3.heap.size W3).drew)
  have B := B.drew
  clear c0 c1 c2 c3 d0 d1 d2 d3
  obtain ⟨c0, c1, c2, c3⟩ := block4 ha
  obtain ⟨d0, d1, d2, d3⟩ := block4 hb
  have z0 : W3.cell? ⟨p0, 0, none⟩ = some (.bool na) := c0
  have z1 : W3.cell? ⟨p0, 2, none⟩ = some (.string s2) := c2
  have z2 : W3.cell? ⟨p1, 2, none⟩ = some (.string s4) := d2
  have l0 : p0 < W3.heap.size := ha.lt
  have l1 : p1 < W3.heap.size := hb.lt
  go_cut [7] (fun v7 wx => ∃ p3, v7 = .pointer (some ⟨p3, 0, none⟩) ∧ Hid (w.heap.size ≤ p3 ∧ p0 ≠ p3 ∧ p1 ≠ p3 ∧ p2 ≠ p3) ∧ Hid (BlockAt wx p0 #[.bool na, .string s1, .string s2, .bool ba] 37) ∧ Hid (BlockAt wx p1 #[.bool (!na), .string s3, .string s4, .bool bb] 37) ∧ Hid (BlockAt wx p2 #[.bool false, .string ⟨#[]⟩, .string ⟨#[]⟩, .bool false] 37) ∧ Hid (BlockAt wx p3 #[.bool na, .string ss, .string sd, .bool false] 37) ∧ Hid (Below w.heap.size w wx))
  case first =>
    go_region_held3 (fun w' => w'.cell? ⟨p0, 0, none⟩ = some (.bool na) ∧ w'.cell? ⟨p0, 2, none⟩ = some (.string s2) ∧ w'.cell? ⟨p1, 2, none⟩ = some (.string s4))
      (go_keep)
      (first | (go_at_call 52; refine (A1.out _).mono ?_; rintro e W5 ⟨rfl, bq⟩; (first | (have ha := ha.below bq; have hf := hf.below bq; obtain ⟨h0, h1, h2, h3⟩ := block4 hf; have f0 := hf.free 0; have f1 := hf.free 1; have f2 := hf.free 2; have f3 := hf.free 3; have hb := hb.below bq; have hr := hr.below bq; have B := B.trans (bq.mono B.size); clear bq c0 c1 c2 c3 d0 d1 d2 d3; obtain ⟨c0, c1, c2, c3⟩ := block4 ha; obtain ⟨d0, d1, d2, d3⟩ := block4 hb; have l0 := ha.lt; have l1 := hb.lt) | (have ha := ha.below bq; have hb := hb.below bq; have hr := hr.below bq; have B := B.trans (bq.mono B.size); clear bq c0 c1 c2 c3 d0 d1 d2 d3; obtain ⟨c0, c1, c2, c3⟩ := block4 ha; obtain ⟨d0, d1, d2, d3⟩ := block4 hb; have l0 := ha.lt; have l1 := hb.lt) | (have n9 := Nat.ne_of_lt hr.lt; have sz := B.size; have n5 := Nat.ne_of_lt ha.lt; have n6 := Nat.ne_of_lt hb.lt; have hf := (BlockAt.new _ _ _).below bq; obtain ⟨h0, h1, h2, h3⟩ := block4 hf; have f0 := hf.free 0; have f1 := hf.free 1; have f2 := hf.free 2; have f3 := hf.free 3; have n7 := Nat.ne_of_gt ha.lt; have n8 := Nat.ne_of_gt hb.lt; have bq := over_alloc bq; have ha := ha.below bq; have hb := hb.below bq; have hr := hr.below bq; have B := B.trans (bq.mono B.size); clear bq c0 c1 c2 c3 d0 d1 d2 d3; obtain ⟨c0, c1, c2, c3⟩ := block4 ha; obtain ⟨d0, d1, d2, d3⟩ := block4 hb; have l0 := ha.lt; have l1 := hb.lt) | (have n9 : p2 ≠ W3.heap.size := Nat.ne_of_lt hr.lt; have sz : w.heap.size ≤ W3.heap.size := B.size; have n5 := Nat.ne_of_lt l0; have n6 := Nat.ne_of_lt l1; have hf := ((BlockAt.new W3 _ _).drewN 1).below bq; obtain ⟨h0, h1, h2, h3⟩ := block4 hf; have f0 := hf.free 0; have f1 := hf.free 1; have f2 := hf.free 2; have f3 := hf.free 3; have n7 := Nat.ne_of_gt l0; have n8 := Nat.ne_of_gt l1; have bq := over_alloc_drew bq; have ha := ha.below bq; have hb := hb.below bq; have hr := hr.below bq; have B := B.trans (bq.mono B.size); clear bq c0 c1 c2 c3 d0 d1 d2 d3; obtain ⟨c0, c1, c2, c3⟩ := block4 ha; obtain ⟨d0, d1, d2, d3⟩ := block4 hb; have l0 := ha.lt; have l1 := hb.lt))) | (go_at_call 33; refine (M3.out _).mono ?_; rintro e W6 ⟨rfl, bq⟩; (first | (have ha := ha.below bq; have hf := hf.below bq; obtain ⟨h0, h1, h2, h3⟩ := block4 hf; have f0 := hf.free 0; have f1 := hf.free 1; have f2 := hf.free 2; have f3 := hf.free 3; have hb := hb.below bq; have hr := hr.below bq; have B := B.trans (bq.mono B.size); clear bq c0 c1 c2 c3 d0 d1 d2 d3; obtain ⟨c0, c1, c2, c3⟩ := block4 ha; obtain ⟨d0, d1, d2, d3⟩ := block4 hb; have l0 := ha.lt; have l1 := hb.lt) | (have ha := ha.below bq; have hb := hb.below bq; have hr := hr.below bq; have B := B.trans (bq.mono B.size); clear bq c0 c1 c2 c3 d0 d1 d2 d3; obtain ⟨c0, c1, c2, c3⟩ := block4 ha; obtain ⟨d0, d1, d2, d3⟩ := block4 hb; have l0 := ha.lt; have l1 := hb.lt) | (have n9 := Nat.ne_of_lt hr.lt; have sz := B.size; have n5 := Nat.ne_of_lt ha.lt; have n6 := Nat.ne_of_lt hb.lt; have hf := (BlockAt.new _ _ _).below bq; obtain ⟨h0, h1, h2, h3⟩ := block4 hf; have f0 := hf.free 0; have f1 := hf.free 1; have f2 := hf.free 2; have f3 := hf.free 3; have n7 := Nat.ne_of_gt ha.lt; have n8 := Nat.ne_of_gt hb.lt; have bq := over_alloc bq; have ha := ha.below bq; have hb := hb.below bq; have hr := hr.below bq; have B := B.trans (bq.mono B.size); clear bq c0 c1 c2 c3 d0 d1 d2 d3; obtain ⟨c0, c1, c2, c3⟩ := block4 ha; obtain ⟨d0, d1, d2, d3⟩ := block4 hb; have l0 := ha.lt; have l1 := hb.lt) | (have n9 : p2 ≠ W3.heap.size := Nat.ne_of_lt hr.lt; have sz : w.heap.size ≤ W3.heap.size := B.size; have n5 := Nat.ne_of_lt l0; have n6 := Nat.ne_of_lt l1; have hf := ((BlockAt.new W3 _ _).drewN 1).below bq; obtain ⟨h0, h1, h2, h3⟩ := block4 hf; have f0 := hf.free 0; have f1 := hf.free 1; have f2 := hf.free 2; have f3 := hf.free 3; have n7 := Nat.ne_of_gt l0; have n8 := Nat.ne_of_gt l1; have bq := over_alloc_drew bq; have ha := ha.below bq; have hb := hb.below bq; have hr := hr.below bq; have B := B.trans (bq.mono B.size); clear bq c0 c1 c2 c3 d0 d1 d2 d3; obtain ⟨c0, c1, c2, c3⟩ := block4 ha; obtain ⟨d0, d1, d2, d3⟩ := block4 hb; have l0 := ha.lt; have l1 := hb.lt))))
    all_goals
      clear M1 M2 M3 A1 O1 HR
      go_wp2_with fail
      go_meet
      first
        | (obtain ⟨y1, y2, y3, y4, y5⟩ := fset (.bool na) (.string ss) (.string sd) (.bool false) ha hb hr hf n5 n6 n9 sz B rfl; exact ⟨_, rfl, Lib.hid ⟨sz, n5, n6, n9⟩, Lib.hid y1, Lib.hid y2, Lib.hid y3, Lib.hid y4, Lib.hid y5⟩)
        | (obtain ⟨y1, y2, y3, y4, y5⟩ := fnew #[.bool na, .string ss, .string sd, .bool false] 37 ha hb hr B rfl; exact ⟨_, rfl, Lib.hid ⟨B.size, Nat.ne_of_lt ha.lt, Nat.ne_of_lt hb.lt, Nat.ne_of_lt hr.lt⟩, Lib.hid y1, Lib.hid y2, Lib.hid y3, Lib.hid y4, Lib.hid y5⟩)
  case rest =>
    obtain ⟨p3, rfl, hp, ya, yb, yr, yf, yB⟩ := hcut
    obtain ⟨sz, n0, n1, n2⟩ := hp.out
    have ha := ya.out
    have hb := yb.out
    have hr := yr.out
    have hf := yf.out
    have B := yB.out
    clear ya yb yr yf yB hp A1 M1 M2 M3 z0 z1 z2 l0 l1 c0 c1 c2 c3 d0 d1 d2 d3 n02 n12 n20 n21
    have m0 : ¬ p3 = p0 := fun h => n0 h.symm
    have m1 : ¬ p3 = p1 := fun h => n1 h.symm
    have m2 : ¬ p3 = p2 := fun h => n2 h.symm
    obtain ⟨c0, c1, c2, c3⟩ := block4 ha
    obtain ⟨d0, d1, d2, d3⟩ := block4 hb
    obtain ⟨h0, h1, h2, h3⟩ := block4 hf
    have f0 := hf.free 0
    have f1 := hf.free 1
    have f2 := hf.free 2
    have f3 := hf.free 3
    have fl := hf.lt
    go_wp2_with fail
    refine (O1.out _).mono ?_
    rintro e V1 ⟨rfl, bq⟩
    have ha := ha.below bq
    have hb := hb.below bq
    have hr := hr.below bq
    have hf := hf.below bq
    have B := B.trans (bq.mono B.size)
    clear c0 c1 c2 c3 d0 d1 d2 d3 h0 h1 h2 h3 f0 f1 f2 f3 fl
    clear bq
    obtain ⟨c0, c1, c2, c3⟩ := block4 ha
    obtain ⟨d0, d1, d2, d3⟩ := block4 hb
    obtain ⟨h0, h1, h2, h3⟩ := block4 hf
    have f0 := hf.free 0
    have f1 := hf.free 1
    have f2 := hf.free 2
    have f3 := hf.free 3
    have fl := hf.lt
    have hq : (na != !na) = true := by cases na <;> rfl
    have ha := ha.other n0 3 (.bool true)
    have hb := hb.other n1 3 (.bool true)
    have hr := hr.other n2 3 (.bool true)
    have hf := hf.set 3 (.bool true)
    have B := B.setCell (p := ⟨p3, 3, none⟩) sz (.bool true)
    have ha := ha.other n0 0 (.bool (!na))
    have hb := hb.other n1 0 (.bool (!na))
    have hr := hr.other n2 0 (.bool (!na))
    have hf := hf.set 0 (.bool (!na))
    have B := B.setCell (p := ⟨p3, 0, none⟩) sz (.bool (!na))
    go_wp2_with fail
    generalize ((V1.setCell ⟨p3, 3, none⟩ (.bool true)).setCell ⟨p3, 0, none⟩ (.bool (!na))) = U1 at *
    simp at hf
    clear c0 c1 c2 c3 d0 d1 d2 d3 h0 h1 h2 h3 f0 f1 f2 f3 fl
    obtain ⟨c0, c1, c2, c3⟩ := block4 ha
    obtain ⟨d0, d1, d2, d3⟩ := block4 hb
    obtain ⟨h0, h1, h2, h3⟩ := block4 hf
    have f0 := hf.free 0
    have f1 := hf.free 1
    have f2 := hf.free 2
    have f3 := hf.free 3
    have fl := hf.lt
    refine (G1.out _).mono ?_
    rintro e w' ⟨rfl, rfl⟩
    go_wp2_with fail
    refine (G2.out _).mono ?_
    rintro e w' ⟨rfl, rfl⟩
    go_wp2_with fail
    refine (G3.out _).mono ?_
    rintro e V3 ⟨rfl, bq⟩
    have ha := ha.below bq
    have hb := hb.below bq
    have hr := hr.below bq
    have hf := hf.below bq
    have B := B.trans (bq.mono B.size)
    clear c0 c1 c2 c3 d0 d1 d2 d3 h0 h1 h2 h3 f0 f1 f2 f3 fl
    clear bq
    obtain ⟨c0, c1, c2, c3⟩ := block4 ha
    obtain ⟨d0, d1, d2, d3⟩ := block4 hb
    obtain ⟨h0, h1, h2, h3⟩ := block4 hf
    have f0 := hf.free 0
    have f1 := hf.free 1
    have f2 := hf.free 2
    have f3 := hf.free 3
    have fl := hf.lt
    have ha := ha.other n0 1 (.string sf)
    have hb := hb.other n1 1 (.string sf)
    have hr := hr.other n2 1 (.string sf)
    have hf := hf.set 1 (.string sf)
    have B := B.setCell (p := ⟨p3, 1, none⟩) sz (.string sf)
    go_wp2_with fail
    generalize (V3.setCell ⟨p3, 1, none⟩ (.string sf)) = U2 at *
    simp at hf
    clear c0 c1 c2 c3 d0 d1 d2 d3 h0 h1 h2 h3 f0 f1 f2 f3 fl
    obtain ⟨c0, c1, c2, c3⟩ := block4 ha
    obtain ⟨d0, d1, d2, d3⟩ := block4 hb
    obtain ⟨h0, h1, h2, h3⟩ := block4 hf
    have f0 := hf.free 0
    have f1 := hf.free 1
    have f2 := hf.free 2
    have f3 := hf.free 3
    have fl := hf.lt
    refine (G4.out _).mono ?_
    rintro e w' ⟨rfl, rfl⟩
    have ha := ha.other n0 0 (.bool na)
    have hb := hb.other n1 0 (.bool na)
    have hr := hr.other n2 0 (.bool na)
    have hf := hf.set 0 (.bool na)
    have B := B.setCell (p := ⟨p3, 0, none⟩) sz (.bool na)
    go_wp2_with fail
    generalize (U2.setCell ⟨p3, 0, none⟩ (.bool na)) = U3 at *
    simp at hf
    clear c0 c1 c2 c3 d0 d1 d2 d3 h0 h1 h2 h3 f0 f1 f2 f3 fl
    obtain ⟨c0, c1, c2, c3⟩ := block4 ha
    obtain ⟨d0, d1, d2, d3⟩ := block4 hb
    obtain ⟨h0, h1, h2, h3⟩ := block4 hf
    have f0 := hf.free 0
    have f1 := hf.free 1
    have f2 := hf.free 2
    have f3 := hf.free 3
    have fl := hf.lt
    refine (HR.out _).mono ?_
    rintro e V9 ⟨rfl, bq⟩
    have ha := ha.below bq
    have hb := hb.below bq
    have hr := hr.below bq
    have hf := hf.below bq
    have B := B.trans (bq.mono B.size)
    clear c0 c1 c2 c3 d0 d1 d2 d3 h0 h1 h2 h3 f0 f1 f2 f3 fl
    clear bq
    obtain ⟨c0, c1, c2, c3⟩ := block4 ha
    obtain ⟨d0, d1, d2, d3⟩ := block4 hb
    obtain ⟨h0, h1, h2, h3⟩ := block4 hf
    have f0 := hf.free 0
    have f1 := hf.free 1
    have f2 := hf.free 2
    have f3 := hf.free 3
    have fl := hf.lt
    have f4 := hr.free 0
    have f5 := hr.free 1
    have f6 := hr.free 2
    have f7 := hr.free 3
    obtain ⟨g0, g1, g2, g3⟩ := block4 hr
    go_wp2_with fail
    refine bodyPost_ret (v := .agg #[.bool rn, .string r1, .string r2, .bool rb]) (by simp [results, Try.results25, go_sem, g0, g1, g2, g3]) rfl ⟨rfl, ?_⟩
    exact (((B.setCell l2 _).setCell l2 _).setCell l2 _).setCell l2 _
set_option maxHeartbeats 6400000 in
set_option maxRecDepth 100000 in
theorem addF_lt_f (na ba bb : Bool) (N1 D1 N2 D2 x y dd : Nat) (w : World) (h1 : (N1 : Int) < pw 16) (h2 : (D1 : Int) < pw 16) (h3 : (N2 : Int) < pw 16) (h4 : (D2 : Int) < pw 16) (hD : 0 < dd) (ex : N1 * D2 = x) (ey : N2 * D1 = y) (ed : D1 * D2 = dd) (ho : overB (x + y) = false) (h : x < y) :
    Calls Try.prog 25 #[fracV na N1 D1 ba, fracV (!na) N2 D2 bb] w fun e w' => e = .returned (redV (!na) (max x y - min x y) dd (overB dd)) ∧ Below w.heap.size w w' := by
  have fx : 40 * (x : Int) < big := by rw [← ex]; exact far_mul2 h1 h4
  have fy : 40 * (y : Int) < big := by rw [← ey]; exact far_mul2 h3 h2
  have fd : 40 * (dd : Int) < big := by rw [← ed]; exact far_mul2 h2 h4
  have m1 := fun w => refmul_nat h1 h4 w
  have m2 := fun w => refmul_nat h3 h2 w
  have m3 := fun w => refmul_nat h2 h4 w
  rw [ex] at m1
  rw [ey] at m2
  rw [ed] at m3
  have M1 := Lib.hid m1
  have M2 := Lib.hid m2
  have M3 := Lib.hid m3
  clear m1 m2 m3
  have A1 := Lib.hid (fun w => refadd_nat (far_of fx) (far_of fy) w)
  have o1 := fun w => over_nat (far_sum fx fy) w
  rw [ho] at o1
  have O1 := Lib.hid o1
  clear o1
  have O2 := Lib.hid (fun w => over_nat (far_of fd) w)
  have fm : Far (max x y) := by unfold Far; omega
  have G1 := Lib.hid (fun w => larger_fun x y w (far_of fx) (far_of fy))
  have G2 := Lib.hid (fun w => smaller_fun x y w (far_of fx) (far_of fy))
  have G3 := Lib.hid (fun w => refsub_nat fm (show min x y ≤ max x y by omega) w)
  have G4 := Lib.hid (fun w => cmp_lt (far_of fx) (far_of fy) h w)
  have hR := fun w => red_fun (!na) (max x y - min x y) dd (overB dd) w (show Far (max x y - min x y) by unfold Far; omega) (far_of fd) hD
  unfold redV
  unfold fracV at *
  have HR := Lib.hid hR
  clear hR
  obtain ⟨B, ha, hb, hr⟩ := three_any w #[.bool na, .string (numStr N1), .string (numStr D1), .bool ba] #[.bool (!na), .string (numStr N2), .string (numStr D2), .bool bb] #[.bool false, .string ⟨#[]⟩, .string ⟨#[]⟩, .bool false] 37 37 37
  generalize redBad (max x y - min x y) dd (overB dd) = rb at *
  generalize ((!na) && decide ((max x y - min x y) ≠ 0)) = rn at *
  obtain ⟨r1, e1⟩ : ∃ s, numStr (((max x y - min x y) / Nat.gcd (max x y - min x y) dd : Nat) : Int) = s := ⟨_, rfl⟩
  obtain ⟨r2, e2⟩ : ∃ s, numStr ((dd / Nat.gcd (max x y - min x y) dd : Nat) : Int) = s := ⟨_, rfl⟩
  rw [e1, e2] at HR ⊢
  clear e1 e2 h1 h2 h3 h4 hD ho fx fy fd ex ey ed fm h
  generalize numStr (N1 : Int) = s1 at *
  generalize numStr (D1 : Int) = s2 at *
  generalize numStr (N2 : Int) = s3 at *
  generalize numStr (D2 : Int) = s4 at *
  generalize numStr (x : Int) = sx at *
  generalize numStr (y : Int) = sy at *
  generalize numStr (dd : Int) = sd at *
  generalize numStr ((x + y : Nat) : Int) = ss at *
  generalize overB dd = od at *
  generalize numStr ((max x y - min x y : Nat) : Int) = sf at *
  generalize numStr ((max x y : Nat) : Int) = sg at *
  generalize numStr ((min x y : Nat) : Int) = sh at *
  have tok1 : True := trivial
  go_enter Try.func25, Try.ntmps25
  go_wp2_with fail
  generalize ((w.alloc (.cells #[.bool na, .string s1, .string s2, .bool ba] 37)).alloc (.cells #[.bool (!na), .string s3, .string s4, .bool bb] 37)).alloc (.cells #[.bool false, .string ⟨#[]⟩, .string ⟨#[]⟩, .bool false] 37) = W at *
  obtain ⟨p0, e0⟩ : ∃ p, w.heap.size = p := ⟨_, rfl⟩
  obtain ⟨p1, e1⟩ : ∃ p, p0 + 1 = p := ⟨_, rfl⟩
  obtain ⟨p2, e2⟩ : ∃ p, p1 + 1 = p := ⟨_, rfl⟩
  simp only [e0, e1, e2] at ha hb hr ⊢
  have n02 : ¬ p0 = p2 := by omega
  have n12 : ¬ p1 = p2 := by omega
  have n20 : ¬ p2 = p0 := by omega
  have n21 : ¬ p2 = p1 := by omega
  have l2 : w.heap.size ≤ p2 := by omega
  clear e0 e1 e2
  obtain ⟨c0, c1, c2, c3⟩ := block4 ha
  obtain ⟨d0, d1, d2, d3⟩ := block4 hb
  refine (M1.out _).mono ?_
  rintro e W2 ⟨rfl, bq⟩
  have ha := ha.below bq
  have hb := hb.below bq
  have hr := hr.below bq
  have B := B.trans (bq.mono B.size)
  clear bq c0 c1 c2 c3 d0 d1 d2 d3
  obtain ⟨c0, c1, c2, c3⟩ := block4 ha
  obtain ⟨d0, d1, d2, d3⟩ := block4 hb
  go_wp2_with fail
  refine (M2.out _).mono ?_
  rintro e W3 ⟨rfl, bq⟩
  have ha := ha.below bq
  have hb := hb.below bq
  have hr := hr.below bq
  have B := B.trans (bq.mono B.size)
  clear bq c0 c1 c2 c3 d0 d1 d2 d3
  obtain ⟨c0, c1, c2, c3⟩ := block4 ha
  obtain ⟨d0, d1, d2, d3⟩ := block4 hb
  go_wp2_with fail
  have ha := ha.below ((Below.refl W3.heap.size W3).drew)
  have hb := hb.below ((Below.refl W3.heap.size W3).drew)
  have hr := hr.below ((Below.refl W3.heap.size W3).drew)
  have B := B.drew
  clear c0 c1 c2 c3 d0 d1 d2 d3
  obtain ⟨c0, c1, c2, c3⟩ := block4 ha
  obtain ⟨d0, d1, d2, d3⟩ := block4 hb
  have z0 : W3.cell? ⟨p0, 0, none⟩ = some (.bool na) := c0
  have z1 : W3.cell? ⟨p0, 2, none⟩ = some (.string s2) := c2
  have z2 : W3.cell? ⟨p1, 2, none⟩ = some (.string s4) := d2
  have l0 : p0 < W3.heap.size := ha.lt
  have l1 : p1 < W3.heap.size := hb.lt
  go_cut [7] (fun v7 wx => ∃ p3, v7 = .pointer (some ⟨p3, 0, none⟩) ∧ Hid (w.heap.size ≤ p3 ∧ p0 ≠ p3 ∧ p1 ≠ p3 ∧ p2 ≠ p3) ∧ Hid (BlockAt wx p0 #[.bool na, .string s1, .string s2, .bool ba] 37) ∧ Hid (BlockAt wx p1 #[.bool (!na), .string s3, .string s4, .bool bb] 37) ∧ Hid (BlockAt wx p2 #[.bool false, .string ⟨#[]⟩, .string ⟨#[]⟩, .bool false] 37) ∧ Hid (BlockAt wx p3 #[.bool na, .string ss, .string sd, .bool false] 37) ∧ Hid (Below w.heap.size w wx))
  case first =>
    go_region_held3 (fun w' => w'.cell? ⟨p0, 0, none⟩ = some (.bool na) ∧ w'.cell? ⟨p0, 2, none⟩ = some (.string s2) ∧ w'.cell? ⟨p1, 2, none⟩ = some (.string s4))
      (go_keep)
      (first | (go_at_call 52; refine (A1.out _).mono ?_; rintro e W5 ⟨rfl, bq⟩; (first | (have ha := ha.below bq; have hf := hf.below bq; obtain ⟨h0, h1, h2, h3⟩ := block4 hf; have f0 := hf.free 0; have f1 := hf.free 1; have f2 := hf.free 2; have f3 := hf.free 3; have hb := hb.below bq; have hr := hr.below bq; have B := B.trans (bq.mono B.size); clear bq c0 c1 c2 c3 d0 d1 d2 d3; obtain ⟨c0, c1, c2, c3⟩ := block4 ha; obtain ⟨d0, d1, d2, d3⟩ := block4 hb; have l0 := ha.lt; have l1 := hb.lt) | (have ha := ha.below bq; have hb := hb.below bq; have hr := hr.below bq; have B := B.trans (bq.mono B.size); clear bq c0 c1 c2 c3 d0 d1 d2 d3; obtain ⟨c0, c1, c2, c3⟩ := block4 ha; obtain ⟨d0, d1, d2, d3⟩ := block4 hb; have l0 := ha.lt; have l1 := hb.lt) | (have n9 := Nat.ne_of_lt hr.lt; have sz := B.size; have n5 := Nat.ne_of_lt ha.lt; have n6 := Nat.ne_of_lt hb.lt; have hf := (BlockAt.new _ _ _).below bq; obtain ⟨h0, h1, h2, h3⟩ := block4 hf; have f0 := hf.free 0; have f1 := hf.free 1; have f2 := hf.free 2; have f3 := hf.free 3; have n7 := Nat.ne_of_gt ha.lt; have n8 := Nat.ne_of_gt hb.lt; have bq := over_alloc bq; have ha := ha.below bq; have hb := hb.below bq; have hr := hr.below bq; have B := B.trans (bq.mono B.size); clear bq c0 c1 c2 c3 d0 d1 d2 d3; obtain ⟨c0, c1, c2, c3⟩ := block4 ha; obtain ⟨d0, d1, d2, d3⟩ := block4 hb; have l0 := ha.lt; have l1 := hb.lt) | (have n9 : p2 ≠ W3.heap.size := Nat.ne_of_lt hr.lt; have sz : w.heap.size ≤ W3.heap.size := B.size; have n5 := Nat.ne_of_lt l0; have n6 := Nat.ne_of_lt l1; have hf := ((BlockAt.new W3 _ _).drewN 1).below bq; obtain ⟨h0, h1, h2, h3⟩ := block4 hf; have f0 := hf.free 0; have f1 := hf.free 1; have f2 := hf.free 2; have f3 := hf.free 3; have n7 := Nat.ne_of_gt l0; have n8 := Nat.ne_of_gt l1; have bq := over_alloc_drew bq; have ha := ha.below bq; have hb := hb.below bq; have hr := hr.below bq; have B := B.trans (bq.mono B.size); clear bq c0 c1 c2 c3 d0 d1 d2 d3; obtain ⟨c0, c1, c2, c3⟩ := block4 ha; obtain ⟨d0, d1, d2, d3⟩ := block4 hb; have l0 := ha.lt; have l1 := hb.lt))) | (go_at_call 33; refine (M3.out _).mono ?_; rintro e W6 ⟨rfl, bq⟩; (first | (have ha := ha.below bq; have hf := hf.below bq; obtain ⟨h0, h1, h2, h3⟩ := block4 hf; have f0 := hf.free 0; have f1 := hf.free 1; have f2 := hf.free 2; have f3 := hf.free 3; have hb := hb.below bq; have hr := hr.below bq; have B := B.trans (bq.mono B.size); clear bq c0 c1 c2 c3 d0 d1 d2 d3; obtain ⟨c0, c1, c2, c3⟩ := block4 ha; obtain ⟨d0, d1, d2, d3⟩ := block4 hb; have l0 := ha.lt; have l1 := hb.lt) | (have ha := ha.below bq; have hb := hb.below bq; have hr := hr.below bq; have B := B.trans (bq.mono B.size); clear bq c0 c1 c2 c3 d0 d1 d2 d3; obtain ⟨c0, c1, c2, c3⟩ := block4 ha; obtain ⟨d0, d1, d2, d3⟩ := block4 hb; have l0 := ha.lt; have l1 := hb.lt) | (have n9 := Nat.ne_of_lt hr.lt; have sz := B.size; have n5 := Nat.ne_of_lt ha.lt; have n6 := Nat.ne_of_lt hb.lt; have hf := (BlockAt.new _ _ _).below bq; obtain ⟨h0, h1, h2, h3⟩ := block4 hf; have f0 := hf.free 0; have f1 := hf.free 1; have f2 := hf.free 2; have f3 := hf.free 3; have n7 := Nat.ne_of_gt ha.lt; have n8 := Nat.ne_of_gt hb.lt; have bq := over_alloc bq; have ha := ha.below bq; have hb := hb.below bq; have hr := hr.below bq; have B := B.trans (bq.mono B.size); clear bq c0 c1 c2 c3 d0 d1 d2 d3; obtain ⟨c0, c1, c2, c3⟩ := block4 ha; obtain ⟨d0, d1, d2, d3⟩ := block4 hb; have l0 := ha.lt; have l1 := hb.lt) | (have n9 : p2 ≠ W3.heap.size := Nat.ne_of_lt hr.lt; have sz : w.heap.size ≤ W3.heap.size := B.size; have n5 := Nat.ne_of_lt l0; have n6 := Nat.ne_of_lt l1; have hf := ((BlockAt.new W3 _ _).drewN 1).below bq; obtain ⟨h0, h1, h2, h3⟩ := block4 hf; have f0 := hf.free 0; have f1 := hf.free 1; have f2 := hf.free 2; have f3 := hf.free 3; have n7 := Nat.ne_of_gt l0; have n8 := Nat.ne_of_gt l1; have bq := over_alloc_drew bq; have ha := ha.below bq; have hb := hb.below bq; have hr := hr.below bq; have B := B.trans (bq.mono B.size); clear bq c0 c1 c2 c3 d0 d1 d2 d3; obtain ⟨c0, c1, c2, c3⟩ := block4 ha; obtain ⟨d0, d1, d2, d3⟩ := block4 hb; have l0 := ha.lt; have l1 := hb.lt))))
    all_goals
      clear M1 M2 M3 A1 O1 HR
      go_wp2_with fail
      go_meet
      first
        | (obtain ⟨y1, y2, y3, y4, y5⟩ := fset (.bool na) (.string ss) (.string sd) (.bool false) ha hb hr hf n5 n6 n9 sz B rfl; exact ⟨_, rfl, Lib.hid ⟨sz, n5, n6, n9⟩, Lib.hid y1, Lib.hid y2, Lib.hid y3, Lib.hid y4, Lib.hid y5⟩)
        | (obtain ⟨y1, y2, y3, y4, y5⟩ := fnew #[.bool na, .string ss, .string sd, .bool false] 37 ha hb hr B rfl; exact ⟨_, rfl, Lib.hid ⟨B.size, Nat.ne_of_lt ha.lt, Nat.ne_of_lt hb.lt, Nat.ne_of_lt hr.lt⟩, Lib.hid y1, Lib.hid y2, Lib.hid y3, Lib.hid y4, Lib.hid y5⟩)
  case rest =>
    obtain ⟨p3, rfl, hp, ya, yb, yr, yf, yB⟩ := hcut
    obtain ⟨sz, n0, n1, n2⟩ := hp.out
    have ha := ya.out
    have hb := yb.out
    have hr := yr.out
    have hf := yf.out
    have B := yB.out
    clear ya yb yr yf yB hp A1 M1 M2 M3 z0 z1 z2 l0 l1 c0 c1 c2 c3 d0 d1 d2 d3 n02 n12 n20 n21
    have m0 : ¬ p3 = p0 := fun h => n0 h.symm
    have m1 : ¬ p3 = p1 := fun h => n1 h.symm
    have m2 : ¬ p3 = p2 := fun h => n2 h.symm
    obtain ⟨c0, c1, c2, c3⟩ := block4 ha
    obtain ⟨d0, d1, d2, d3⟩ := block4 hb
    obtain ⟨h0, h1, h2, h3⟩ := block4 hf
    have f0 := hf.free 0
    have f1 := hf.free 1
    have f2 := hf.free 2
    have f3 := hf.free 3
    have fl := hf.lt
    go_wp2_with fail
    refine (O1.out _).mono ?_
    rintro e V1 ⟨rfl, bq⟩
    have ha := ha.below bq
    have hb := hb.below bq
    have hr := hr.below bq
    have hf := hf.below bq
    have B := B.trans (bq.mono B.size)
    clear c0 c1 c2 c3 d0 d1 d2 d3 h0 h1 h2 h3 f0 f1 f2 f3 fl
    clear bq
    obtain ⟨c0, c1, c2, c3⟩ := block4 ha
    obtain ⟨d0, d1, d2, d3⟩ := block4 hb
    obtain ⟨h0, h1, h2, h3⟩ := block4 hf
    have f0 := hf.free 0
    have f1 := hf.free 1
    have f2 := hf.free 2
    have f3 := hf.free 3
    have fl := hf.lt
    go_wp2_with fail
    refine (O2.out _).mono ?_
    rintro e V2 ⟨rfl, bq⟩
    have ha := ha.below bq
    have hb := hb.below bq
    have hr := hr.below bq
    have hf := hf.below bq
    have B := B.trans (bq.mono B.size)
    clear c0 c1 c2 c3 d0 d1 d2 d3 h0 h1 h2 h3 f0 f1 f2 f3 fl
    clear bq
    obtain ⟨c0, c1, c2, c3⟩ := block4 ha
    obtain ⟨d0, d1, d2, d3⟩ := block4 hb
    obtain ⟨h0, h1, h2, h3⟩ := block4 hf
    have f0 := hf.free 0
    have f1 := hf.free 1
    have f2 := hf.free 2
    have f3 := hf.free 3
    have fl := hf.lt
    have hq : (na != !na) = true := by cases na <;> rfl
    have ha := ha.other n0 3 (.bool od)
    have hb := hb.other n1 3 (.bool od)
    have hr := hr.other n2 3 (.bool od)
    have hf := hf.set 3 (.bool od)
    have B := B.setCell (p := ⟨p3, 3, none⟩) sz (.bool od)
    have ha := ha.other n0 0 (.bool (!na))
    have hb := hb.other n1 0 (.bool (!na))
    have hr := hr.other n2 0 (.bool (!na))
    have hf := hf.set 0 (.bool (!na))
    have B := B.setCell (p := ⟨p3, 0, none⟩) sz (.bool (!na))
    go_wp2_with fail
    generalize ((V2.setCell ⟨p3, 3, none⟩ (.bool od)).setCell ⟨p3, 0, none⟩ (.bool (!na))) = U1 at *
    simp at hf
    clear c0 c1 c2 c3 d0 d1 d2 d3 h0 h1 h2 h3 f0 f1 f2 f3 fl
    obtain ⟨c0, c1, c2, c3⟩ := block4 ha
    obtain ⟨d0, d1, d2, d3⟩ := block4 hb
    obtain ⟨h0, h1, h2, h3⟩ := block4 hf
    have f0 := hf.free 0
    have f1 := hf.free 1
    have f2 := hf.free 2
    have f3 := hf.free 3
    have fl := hf.lt
    refine (G1.out _).mono ?_
    rintro e w' ⟨rfl, rfl⟩
    go_wp2_with fail
    refine (G2.out _).mono ?_
    rintro e w' ⟨rfl, rfl⟩
    go_wp2_with fail
    refine (G3.out _).mono ?_
    rintro e V3 ⟨rfl, bq⟩
    have ha := ha.below bq
    have hb := hb.below bq
    have hr := hr.below bq
    have hf := hf.below bq
    have B := B.trans (bq.mono B.size)
    clear c0 c1 c2 c3 d0 d1 d2 d3 h0 h1 h2 h3 f0 f1 f2 f3 fl
    clear bq
    obtain ⟨c0, c1, c2, c3⟩ := block4 ha
    obtain ⟨d0, d1, d2, d3⟩ := block4 hb
    obtain ⟨h0, h1, h2, h3⟩ := block4 hf
    have f0 := hf.free 0
    have f1 := hf.free 1
    have f2 := hf.free 2
    have f3 := hf.free 3
    have fl := hf.lt
    have ha := ha.other n0 1 (.string sf)
    have hb := hb.other n1 1 (.string sf)
    have hr := hr.other n2 1 (.string sf)
    have hf := hf.set 1 (.string sf)
    have B := B.setCell (p := ⟨p3, 1, none⟩) sz (.string sf)
    go_wp2_with fail
    generalize (V3.setCell ⟨p3, 1, none⟩ (.string sf)) = U2 at *
    simp at hf
    clear c0 c1 c2 c3 d0 d1 d2 d3 h0 h1 h2 h3 f0 f1 f2 f3 fl
    obtain ⟨c0, c1, c2, c3⟩ := block4 ha
    obtain ⟨d0, d1, d2, d3⟩ := block4 hb
    obtain ⟨h0, h1, h2, h3⟩ := block4 hf
    have f0 := hf.free 0
    have f1 := hf.free 1
    have f2 := hf.free 2
    have f3 := hf.free 3
    have fl := hf.lt
    refine (G4.out _).mono ?_
    rintro e w' ⟨rfl, rfl⟩
    go_wp2_with fail
    refine (HR.out _).mono ?_
    rintro e V9 ⟨rfl, bq⟩
    have ha := ha.below bq
    have hb := hb.below bq
    have hr := hr.below bq
    have hf := hf.below bq
    have B := B.trans (bq.mono B.size)
    clear c0 c1 c2 c3 d0 d1 d2 d3 h0 h1 h2 h3 f0 f1 f2 f3 fl
    clear bq
    obtain ⟨c0, c1, c2, c3⟩ := block4 ha
    obtain ⟨d0, d1, d2, d3⟩ := block4 hb
    obtain ⟨h0, h1, h2, h3⟩ := block4 hf
    have f0 := hf.free 0
    have f1 := hf.free 1
    have f2 := hf.free 2
    have f3 := hf.free 3
    have fl := hf.lt
    have f4 := hr.free 0
    have f5 := hr.free 1
    have f6 := hr.free 2
    have f7 := hr.free 3
    obtain ⟨g0, g1, g2, g3⟩ := block4 hr
    go_wp2_with fail
    refine bodyPost_ret (v := .agg #[.bool rn, .string r1, .string r2, .bool rb]) (by simp [results, Try.results25, go_sem, g0, g1, g2, g3]) rfl ⟨rfl, ?_⟩
    exact (((B.setCell l2 _).setCell l2 _).setCell l2 _).setCell l2 _
set_option maxHeartbeats 6400000 in
set_option maxRecDepth 100000 in
theorem addF_lt_t (na ba bb : Bool) (N1 D1 N2 D2 x y dd : Nat) (w : World) (h1 : (N1 : Int) < pw 16) (h2 : (D1 : Int) < pw 16) (h3 : (N2 : Int) < pw 16) (h4 : (D2 : Int) < pw 16) (hD : 0 < dd) (ex : N1 * D2 = x) (ey : N2 * D1 = y) (ed : D1 * D2 = dd) (ho : overB (x + y) = true) (h : x < y) :
    Calls Try.prog 25 #[fracV na N1 D1 ba, fracV (!na) N2 D2 bb] w fun e w' => e = .returned (redV (!na) (max x y - min x y) dd true) ∧ Below w.heap.size w w' := by
  have fx : 40 * (x : Int) < big := by rw [← ex]; exact far_mul2 h1 h4
  have fy : 40 * (y : Int) < big := by rw [← ey]; exact far_mul2 h3 h2
  have fd : 40 * (dd : Int) < big := by rw [← ed]; exact far_mul2 h2 h4
  have m1 := fun w => refmul_nat h1 h4 w
  have m2 := fun w => refmul_nat h3 h2 w
  have m3 := fun w => refmul_nat h2 h4 w
  rw [ex] at m1
  rw [ey] at m2
  rw [ed] at m3
  have M1 := Lib.hid m1
  have M2 := Lib.hid m2
  have M3 := Lib.hid m3
  clear m1 m2 m3
  have A1 := Lib.hid (fun w => refadd_nat (far_of fx) (far_of fy) w)
  have o1 := fun w => over_nat (far_sum fx fy) w
  rw [ho] at o1
  have O1 := Lib.hid o1
  clear o1
  have fm : Far (max x y) := by unfold Far; omega
  have G1 := Lib.hid (fun w => larger_fun x y w (far_of fx) (far_of fy))
  have G2 := Lib.hid (fun w => smaller_fun x y w (far_of fx) (far_of fy))
  have G3 := Lib.hid (fun w => refsub_nat fm (show min x y ≤ max x y by omega) w)
  have G4 := Lib.hid (fun w => cmp_lt (far_of fx) (far_of fy) h w)
  have hR := fun w => red_fun (!na) (max x y - min x y) dd true w (show Far (max x y - min x y) by unfold Far; omega) (far_of fd) hD
  unfold redV
  unfold fracV at *
  have HR := Lib.hid hR
  clear hR
  obtain ⟨B, ha, hb, hr⟩ := three_any w #[.bool na, .string (numStr N1), .string (numStr D1), .bool ba] #[.bool (!na), .string (numStr N2), .string (numStr D2), .bool bb] #[.bool false, .string ⟨#[]⟩, .string ⟨#[]⟩, .bool false] 37 37 37
  generalize redBad (max x y - min x y) dd true = rb at *
  generalize ((!na) && decide ((max x y - min x y) ≠ 0)) = rn at *
  obtain ⟨r1, e1⟩ : ∃ s, numStr (((max x y - min x y) / Nat.gcd (max x y - min x y) dd : Nat) : Int) = s := ⟨_, rfl⟩
  obtain ⟨r2, e2⟩ : ∃ s, numStr ((dd / Nat.gcd (max x y - min x y) dd : Nat) : Int) = s := ⟨_, rfl⟩
  rw [e1, e2] at HR ⊢
  clear e1 e2 h1 h2 h3 h4 hD ho fx fy fd ex ey ed fm h
  generalize numStr (N1 : Int) = s1 at *
  generalize numStr (D1 : Int) = s2 at *
  generalize numStr (N2 : Int) = s3 at *
  generalize numStr (D2 : Int) = s4 at *
  generalize numStr (x : Int) = sx at *
  generalize numStr (y : Int) = sy at *
  generalize numStr (dd : Int) = sd at *
  generalize numStr ((x + y : Nat) : Int) = ss at *
  have hod : True := trivial
  generalize numStr ((max x y - min x y : Nat) : Int) = sf at *
  generalize numStr ((max x y : Nat) : Int) = sg at *
  generalize numStr ((min x y : Nat) : Int) = sh at *
  have tok1 : True := trivial
  go_enter Try.func25, Try.ntmps25
  go_wp2_with fail
  generalize ((w.alloc (.cells #[.bool na, .string s1, .string s2, .bool ba] 37)).alloc (.cells #[.bool (!na), .string s3, .string s4, .bool bb] 37)).alloc (.cells #[.bool false, .string ⟨#[]⟩, .string ⟨#[]⟩, .bool false] 37) = W at *
  obtain ⟨p0, e0⟩ : ∃ p, w.heap.size = p := ⟨_, rfl⟩
  obtain ⟨p1, e1⟩ : ∃ p, p0 + 1 = p := ⟨_, rfl⟩
  obtain ⟨p2, e2⟩ : ∃ p, p1 + 1 = p := ⟨_, rfl⟩
  simp only [e0, e1, e2] at ha hb hr ⊢
  have n02 : ¬ p0 = p2 := by omega
  have n12 : ¬ p1 = p2 := by omega
  have n20 : ¬ p2 = p0 := by omega
  have n21 : ¬ p2 = p1 := by omega
  have l2 : w.heap.size ≤ p2 := by omega
  clear e0 e1 e2
  obtain ⟨c0, c1, c2, c3⟩ := block4 ha
  obtain ⟨d0, d1, d2, d3⟩ := block4 hb
  refine (M1.out _).mono ?_
  rintro e W2 ⟨rfl, bq⟩
  have ha := ha.below bq
  have hb := hb.below bq
  have hr := hr.below bq
  have B := B.trans (bq.mono B.size)
  clear bq c0 c1 c2 c3 d0 d1 d2 d3
  obtain ⟨c0, c1, c2, c3⟩ := block4 ha
  obtain ⟨d0, d1, d2, d3⟩ := block4 hb
  go_wp2_with fail
  refine (M2.out _).mono ?_
  rintro e W3 ⟨rfl, bq⟩
  have ha := ha.below bq
  have hb := hb.below bq
  have hr := hr.below bq
  have B := B.trans (bq.mono B.size)
  clear bq c0 c1 c2 c3 d0 d1 d2 d3
  obtain ⟨c0, c1, c2, c3⟩ := block4 ha
  obtain ⟨d0, d1, d2, d3⟩ := block4 hb
  go_wp2_with fail
  have ha := ha.below ((Below.refl W3.heap.size W3).drew)
  have hb := hb.below ((Below.refl W3.heap.size W3).drew)
  have hr := hr.below ((Below.refl W3.heap.size W3).drew)
  have B := B.drew
  clear c0 c1 c2 c3 d0 d1 d2 d3
  obtain ⟨c0, c1, c2, c3⟩ := block4 ha
  obtain ⟨d0, d1, d2, d3⟩ := block4 hb
  have z0 : W3.cell? ⟨p0, 0, none⟩ = some (.bool na) := c0
  have z1 : W3.cell? ⟨p0, 2, none⟩ = some (.string s2) := c2
  have z2 : W3.cell? ⟨p1, 2, none⟩ = some (.string s4) := d2
  have l0 : p0 < W3.heap.size := ha.lt
  have l1 : p1 < W3.heap.size := hb.lt
  go_cut [7] (fun v7 wx => ∃ p3, v7 = .pointer (some ⟨p3, 0, none⟩) ∧ Hid (w.heap.size ≤ p3 ∧ p0 ≠ p3 ∧ p1 ≠ p3 ∧ p2 ≠ p3) ∧ Hid (BlockAt wx p0 #[.bool na, .string s1, .string s2, .bool ba] 37) ∧ Hid (BlockAt wx p1 #[.bool (!na), .string s3, .string s4, .bool bb] 37) ∧ Hid (BlockAt wx p2 #[.bool false, .string ⟨#[]⟩, .string ⟨#[]⟩, .bool false] 37) ∧ Hid (BlockAt wx p3 #[.bool na, .string ss, .string sd, .bool false] 37) ∧ Hid (Below w.heap.size w wx))
  case first =>
    go_region_held3 (fun w' => w'.cell? ⟨p0, 0, none⟩ = some (.bool na) ∧ w'.cell? ⟨p0, 2, none⟩ = some (.string s2) ∧ w'.cell? ⟨p1, 2, none⟩ = some (.string s4))
      (go_keep)
      (first | (go_at_call 52; refine (A1.out _).mono ?_; rintro e W5 ⟨rfl, bq⟩; (first | (have ha := ha.below bq; have hf := hf.below bq; obtain ⟨h0, h1, h2, h3⟩ := block4 hf; have f0 := hf.free 0; have f1 := hf.free 1; have f2 := hf.free 2; have f3 := hf.free 3; have hb := hb.below bq; have hr := hr.below bq; have B := B.trans (bq.mono B.size); clear bq c0 c1 c2 c3 d0 d1 d2 d3; obtain ⟨c0, c1, c2, c3⟩ := block4 ha; obtain ⟨d0, d1, d2, d3⟩ := block4 hb; have l0 := ha.lt; have l1 := hb.lt) | (have ha := ha.below bq; have hb := hb.below bq; have hr := hr.below bq; have B := B.trans (bq.mono B.size); clear bq c0 c1 c2 c3 d0 d1 d2 d3; obtain ⟨c0, c1, c2, c3⟩ := block4 ha; obtain ⟨d0, d1, d2, d3⟩ := block4 hb; have l0 := ha.lt; have l1 := hb.lt) | (have n9 := Nat.ne_of_lt hr.lt; have sz := B.size; have n5 := Nat.ne_of_lt ha.lt; have n6 := Nat.ne_of_lt hb.lt; have hf := (BlockAt.new _ _ _).below bq; obtain ⟨h0, h1, h2, h3⟩ := block4 hf; have f0 := hf.free 0; have f1 := hf.free 1; have f2 := hf.free 2; have f3 := hf.free 3; have n7 := Nat.ne_of_gt ha.lt; have n8 := Nat.ne_of_gt hb.lt; have bq := over_alloc bq; have ha := ha.below bq; have hb := hb.below bq; have hr := hr.below bq; have B := B.trans (bq.mono B.size); clear bq c0 c1 c2 c3 d0 d1 d2 d3; obtain ⟨c0, c1, c2, c3⟩ := block4 ha; obtain ⟨d0, d1, d2, d3⟩ := block4 hb; have l0 := ha.lt; have l1 := hb.lt) | (have n9 : p2 ≠ W3.heap.size := Nat.ne_of_lt hr.lt; have sz : w.heap.size ≤ W3.heap.size := B.size; have n5 := Nat.ne_of_lt l0; have n6 := Nat.ne_of_lt l1; have hf := ((BlockAt.new W3 _ _).drewN 1).below bq; obtain ⟨h0, h1, h2, h3⟩ := block4 hf; have f0 := hf.free 0; have f1 := hf.free 1; have f2 := hf.free 2; have f3 := hf.free 3; have n7 := Nat.ne_of_gt l0; have n8 := Nat.ne_of_gt l1; have bq := over_alloc_drew bq; have ha := ha.below bq; have hb := hb.below bq; have hr := hr.below bq; have B := B.trans (bq.mono B.size); clear bq c0 c1 c2 c3 d0 d1 d2 d3; obtain ⟨c0, c1, c2, c3⟩ := block4 ha; obtain ⟨d0, d1, d2, d3⟩ := block4 hb; have l0 := ha.lt; have l1 := hb.lt))) | (go_at_call 33; refine (M3.out _).mono ?_; rintro e W6 ⟨rfl, bq⟩; (first | (have ha := ha.below bq; have hf := hf.below bq; obtain ⟨h0, h1, h2, h3⟩ := block4 hf; have f0 := hf.free 0; have f1 := hf.free 1; have f2 := hf.free 2; have f3 := hf.free 3; have hb := hb.below bq; have hr := hr.below bq; have B := B.trans (bq.mono B.size); clear bq c0 c1 c2 c3 d0 d1 d2 d3; obtain ⟨c0, c1, c2, c3⟩ := block4 ha; obtain ⟨d0, d1, d2, d3⟩ := block4 hb; have l0 := ha.lt; have l1 := hb.lt) | (have ha := ha.below bq; have hb := hb.below bq; have hr := hr.below bq; have B := B.trans (bq.mono B.size); clear bq c0 c1 c2 c3 d0 d1 d2 d3; obtain ⟨c0, c1, c2, c3⟩ := block4 ha; obtain ⟨d0, d1, d2, d3⟩ := block4 hb; have l0 := ha.lt; have l1 := hb.lt) | (have n9 := Nat.ne_of_lt hr.lt; have sz := B.size; have n5 := Nat.ne_of_lt ha.lt; have n6 := Nat.ne_of_lt hb.lt; have hf := (BlockAt.new _ _ _).below bq; obtain ⟨h0, h1, h2, h3⟩ := block4 hf; have f0 := hf.free 0; have f1 := hf.free 1; have f2 := hf.free 2; have f3 := hf.free 3; have n7 := Nat.ne_of_gt ha.lt; have n8 := Nat.ne_of_gt hb.lt; have bq := over_alloc bq; have ha := ha.below bq; have hb := hb.below bq; have hr := hr.below bq; have B := B.trans (bq.mono B.size); clear bq c0 c1 c2 c3 d0 d1 d2 d3; obtain ⟨c0, c1, c2, c3⟩ := block4 ha; obtain ⟨d0, d1, d2, d3⟩ := block4 hb; have l0 := ha.lt; have l1 := hb.lt) | (have n9 : p2 ≠ W3.heap.size := Nat.ne_of_lt hr.lt; have sz : w.heap.size ≤ W3.heap.size := B.size; have n5 := Nat.ne_of_lt l0; have n6 := Nat.ne_of_lt l1; have hf := ((BlockAt.new W3 _ _).drewN 1).below bq; obtain ⟨h0, h1, h2, h3⟩ := block4 hf; have f0 := hf.free 0; have f1 := hf.free 1; have f2 := hf.free 2; have f3 := hf.free 3; have n7 := Nat.ne_of_gt l0; have n8 := Nat.ne_of_gt l1; have bq := over_alloc_drew bq; have ha := ha.below bq; have hb := hb.below bq; have hr := hr.below bq; have B := B.trans (bq.mono B.size); clear bq c0 c1 c2 c3 d0 d1 d2 d3; obtain ⟨c0, c1, c2, c3⟩ := block4 ha; obtain ⟨d0, d1, d2, d3⟩ := block4 hb; have l0 := ha.lt; have l1 := hb.lt))))
    all_goals
      clear M1 M2 M3 A1 O1 HR
      go_wp2_with fail
      go_meet
      first
        | (obtain ⟨y1, y2, y3, y4, y5⟩ := fset (.bool na) (.string ss) (.string sd) (.bool false) ha hb hr hf n5 n6 n9 sz B rfl; exact ⟨_, rfl, Lib.hid ⟨sz, n5, n6, n9⟩, Lib.hid y1, Lib.hid y2, Lib.hid y3, Lib.hid y4, Lib.hid y5⟩)
        | (obtain ⟨y1, y2, y3, y4, y5⟩ := fnew #[.bool na, .string ss, .string sd, .bool false] 37 ha hb hr B rfl; exact ⟨_, rfl, Lib.hid ⟨B.size, Nat.ne_of_lt ha.lt, Nat.ne_of_lt hb.lt, Nat.ne_of_lt hr.lt⟩, Lib.hid y1, Lib.hid y2, Lib.hid y3, Lib.hid y4, Lib.hid y5⟩)
  case rest =>
    obtain ⟨p3, rfl, hp, ya, yb, yr, yf, yB⟩ := hcut
    obtain ⟨sz, n0, n1, n2⟩ := hp.out
    have ha := ya.out
    have hb := yb.out
    have hr := yr.out
    have hf := yf.out
    have B := yB.out
    clear ya yb yr yf yB hp A1 M1 M2 M3 z0 z1 z2 l0 l1 c0 c1 c2 c3 d0 d1 d2 d3 n02 n12 n20 n21
    have m0 : ¬ p3 = p0 := fun h => n0 h.symm
    have m1 : ¬ p3 = p1 := fun h => n1 h.symm
    have m2 : ¬ p3 = p2 := fun h => n2 h.symm
    obtain ⟨c0, c1, c2, c3⟩ := block4 ha
    obtain ⟨d0, d1, d2, d3⟩ := block4 hb
    obtain ⟨h0, h1, h2, h3⟩ := block4 hf
    have f0 := hf.free 0
    have f1 := hf.free 1
    have f2 := hf.free 2
    have f3 := hf.free 3
    have fl := hf.lt
    go_wp2_with fail
    refine (O1.out _).mono ?_
    rintro e V1 ⟨rfl, bq⟩
    have ha := ha.below bq
    have hb := hb.below bq
    have hr := hr.below bq
    have hf := hf.below bq
    have B := B.trans (bq.mono B.size)
    clear c0 c1 c2 c3 d0 d1 d2 d3 h0 h1 h2 h3 f0 f1 f2 f3 fl
    clear bq
    obtain ⟨c0, c1, c2, c3⟩ := block4 ha
    obtain ⟨d0, d1, d2, d3⟩ := block4 hb
    obtain ⟨h0, h1, h2, h3⟩ := block4 hf
    have f0 := hf.free 0
    have f1 := hf.free 1
    have f2 := hf.free 2
    have f3 := hf.free 3
    have fl := hf.lt
    have hq : (na != !na) = true := by cases na <;> rfl
    have ha := ha.other n0 3 (.bool true)
    have hb := hb.other n1 3 (.bool true)
    have hr := hr.other n2 3 (.bool true)
    have hf := hf.set 3 (.bool true)
    have B := B.setCell (p := ⟨p3, 3, none⟩) sz (.bool true)
    have ha := ha.other n0 0 (.bool (!na))
    have hb := hb.other n1 0 (.bool (!na))
    have hr := hr.other n2 0 (.bool (!na))
    have hf := hf.set 0 (.bool (!na))
    have B := B.setCell (p := ⟨p3, 0, none⟩) sz (.bool (!na))
    go_wp2_with fail
    generalize ((V1.setCell ⟨p3, 3, none⟩ (.bool true)).setCell ⟨p3, 0, none⟩ (.bool (!na))) = U1 at *
    simp at hf
    clear c0 c1 c2 c3 d0 d1 d2 d3 h0 h1 h2 h3 f0 f1 f2 f3 fl
    obtain ⟨c0, c1, c2, c3⟩ := block4 ha
    obtain ⟨d0, d1, d2, d3⟩ := block4 hb
    obtain ⟨h0, h1, h2, h3⟩ := block4 hf
    have f0 := hf.free 0
    have f1 := hf.free 1
    have f2 := hf.free 2
    have f3 := hf.free 3
    have fl := hf.lt
    refine (G1.out _).mono ?_
    rintro e w' ⟨rfl, rfl⟩
    go_wp2_with fail
    refine (G2.out _).mono ?_
    rintro e w' ⟨rfl, rfl⟩
    go_wp2_with fail
    refine (G3.out _).mono ?_
    rintro e V3 ⟨rfl, bq⟩
    have ha := ha.below bq
    have hb := hb.below bq
    have hr := hr.below bq
    have hf := hf.below bq
    have B := B.trans (bq.mono B.size)
    clear c0 c1 c2 c3 d0 d1 d2 d3 h0 h1 h2 h3 f0 f1 f2 f3 fl
    clear bq
    obtain ⟨c0, c1, c2, c3⟩ := block4 ha
    obtain ⟨d0, d1, d2, d3⟩ := block4 hb
    obtain ⟨h0, h1, h2, h3⟩ := block4 hf
    have f0 := hf.free 0
    have f1 := hf.free 1
    have f2 := hf.free 2
    have f3 := hf.free 3
    have fl := hf.lt
    have ha := ha.other n0 1 (.string sf)
    have hb := hb.other n1 1 (.string sf)
    have hr := hr.other n2 1 (.string sf)
    have hf := hf.set 1 (.string sf)
    have B := B.setCell (p := ⟨p3, 1, none⟩) sz (.string sf)
    go_wp2_with fail
    generalize (V3.setCell ⟨p3, 1, none⟩ (.string sf)) = U2 at *
    simp at hf
    clear c0 c1 c2 c3 d0 d1 d2 d3 h0 h1 h2 h3 f0 f1 f2 f3 fl
    obtain ⟨c0, c1, c2, c3⟩ := block4 ha
    obtain ⟨d0, d1, d2, d3⟩ := block4 hb
    obtain ⟨h0, h1, h2, h3⟩ := block4 hf
    have f0 := hf.free 0
    have f1 := hf.free 1
    have f2 := hf.free 2
    have f3 := hf.free 3
    have fl := hf.lt
    refine (G4.out _).mono ?_
    rintro e w' ⟨rfl, rfl⟩
    go_wp2_with fail
    refine (HR.out _).mono ?_
    rintro e V9 ⟨rfl, bq⟩
    have ha := ha.below bq
    have hb := hb.below bq
    have hr := hr.below bq
    have hf := hf.below bq
    have B := B.trans (bq.mono B.size)
    clear c0 c1 c2 c3 d0 d1 d2 d3 h0 h1 h2 h3 f0 f1 f2 f3 fl
    clear bq
    obtain ⟨c0, c1, c2, c3⟩ := block4 ha
    obtain ⟨d0, d1, d2, d3⟩ := block4 hb
    obtain ⟨h0, h1, h2, h3⟩ := block4 hf
    have f0 := hf.free 0
    have f1 := hf.free 1
    have f2 := hf.free 2
    have f3 := hf.free 3
    have fl := hf.lt
    have f4 := hr.free 0
    have f5 := hr.free 1
    have f6 := hr.free 2
    have f7 := hr.free 3
    obtain ⟨g0, g1, g2, g3⟩ := block4 hr
    go_wp2_with fail
    refine bodyPost_ret (v := .agg #[.bool rn, .string r1, .string r2, .bool rb]) (by simp [results, Try.results25, go_sem, g0, g1, g2, g3]) rfl ⟨rfl, ?_⟩
    exact (((B.setCell l2 _).setCell l2 _).setCell l2 _).setCell l2 _
end Go.Proofs.Ythmhljfaenekfaa
