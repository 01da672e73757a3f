/- Next. -/
import Derived.Test.YtbdhmelebedpiaaGreatDoorSemClear
namespace Go.Proofs.YtbdhmelebedpiaaGreatDoor
open Go.RowKit
set_option linter.unusedSimpArgs false
set_option linter.unusedVariables false

/-- What Next gives for a version that may be, and a class. -/
def relV (a b c : Int) : Value := .agg #[.int .i64 a, .int .i64 b, .int .i64 c, .slice none 0 0, .slice none 0 0]
def nextRes (o : Option Vr) : Value := match o with
  | some n => .tuple #[relV n.ma n.mi n.pa, .int .i64 0]
  | none => .tuple #[relV 0 0 0, .int .i64 2]
set_option maxHeartbeats 16000000 in
set_option maxRecDepth 100000 in
theorem next_0a (A : Vr) (ao bo : Option Addr) (ac bc : Nat) (w : World) (hA : VerC w ao bo A) (hE : Errs w) (r1 : rightB A = true) (hp : preN A = true)  :
    Calls Tryz.prog 35 #[verV A ao ac bo bc, .int .i64 0] w fun e w' => e = .returned (nextRes (nextV A 0)) ∧ Below w.heap.size w w' := by
  have hres := (show nextV A 0 = some ⟨A.ma, A.mi, A.pa, [], []⟩ by unfold nextV; rw [if_pos rfl, if_pos hp])
  rw [hres]
  clear hres
  unfold nextRes
  have hpl := hA.pl
  have hnums := hA.nums
  have hp1 : 0 < A.pre.length := by unfold preN at hp; exact of_decide_eq_true hp
  have hp2 : decide (0 < A.pre.length) = true := decide_eq_true hp1
  clear hp
  obtain ⟨wa, ha⟩ : ∃ wa, w.alloc (.cells #[.int .i64 A.ma, .int .i64 A.mi, .int .i64 A.pa, .slice ao A.pre.length ac, .slice bo A.build.length bc] 24) = wa := ⟨_, rfl⟩
  obtain ⟨wb, hb⟩ : ∃ wb, wa.alloc (.cells #[.int .i64 0, .int .i64 0, .int .i64 0, .slice none 0 0, .slice none 0 0] 24) = wb := ⟨_, rfl⟩
  obtain ⟨k1, q1, z1⟩ := box_new ha
  obtain ⟨k2, q2, z2⟩ := box_new hb
  have BW := Lib.hid (q1.trans (q2.mono q1.size))
  have HZ := Lib.hid (And.intro z1 z2)
  have K1 := Lib.hid (k1.below q2)
  have K2 := Lib.hid k2
  have HR := Lib.hid (right_any A ao bo ac bc wb (hA.below BW.out) (hE.below BW.out))
  obtain ⟨c0, c1, c2, c3, c4⟩ := cell5 K1.out
  rw [r1] at HR
  unfold verV at *
  clear hA hE k1 k2 q1 q2 r1 z1 z2
  go_enter Tryz.func35, Tryz.ntmps35
  go_wp2_with fail
  refine HR.out.mono ?_
  rintro e w1 ⟨rfl, b1⟩
  have B1 := Lib.hid (BW.out.trans (b1.mono BW.out.size))
  have HZ1 := Lib.hid (show wa.heap.size < w1.heap.size by have := HZ.out; have := b1.size; omega)
  have K3 := Lib.hid (K1.out.below b1)
  have K4 := Lib.hid (K2.out.below b1)
  clear b1 c0 c1 c2 c3 c4 ha hb K1 K2 BW HR
  obtain ⟨w2, hw2⟩ : ∃ w2, w1.alloc (.cells #[.int .i64 A.ma, .int .i64 A.mi, .int .i64 A.pa] 72) = w2 := ⟨_, rfl⟩
  obtain ⟨k5, q5, -⟩ := box_new hw2
  have B2 := Lib.hid (B1.out.trans (q5.mono B1.out.size))
  have K5 := Lib.hid k5
  have K6 := Lib.hid (K3.out.below q5)
  have K7 := Lib.hid (K4.out.below q5)
  clear k5 q5
  obtain ⟨c0, c1, c2, c3, c4⟩ := cell5 K3.out
  obtain ⟨d0, d1, d2, d3, d4⟩ := cell5 K6.out
  have n0 := K5.out.cell 0
  have n1 := K5.out.cell 1
  have n2 := K5.out.cell 2
  simp at n0 n1 n2
  go_wp2_with fail
  clear hw2 c0 c1 c2 c3 c4
  go_loop [51, 8] (fun i ah => (i = .int .i64 0 ∧ ah = .bool true)) (fun i _ => 0 - (intOf i).toNat)
  case atStart => exact ⟨rfl, rfl⟩
  case round =>
    rcases hrel with ⟨rfl, rfl⟩
    · have HC := clear_none ⟨w1.heap.size, 0, none⟩ 0 w2
      clear n0 n1 n2 d0 d1 d2 d3 d4
      have K8 := K5
      have K9 := K7
      have B3 := B2
      have m0 := K8.out.cell 0
      have m1 := K8.out.cell 1
      have m2 := K8.out.cell 2
      simp at m0 m1 m2
      have f0 := K9.out.free 0
      have f1 := K9.out.free 1
      have f2 := K9.out.free 2
      have f3 := K9.out.free 3
      have f4 := K9.out.free 4
      obtain ⟨g0, g1, g2, g3, g4⟩ := cell5 K9.out
      go_wp2_with fail
      refine bodyPost_ret (v := .tuple #[.agg #[.int .i64 A.ma, .int .i64 A.mi, .int .i64 A.pa, .slice none 0 0, .slice none 0 0], .int .i64 0]) (by simp [results, Tryz.results35, go_sem, g0, g1, g2, g3, g4, f0, f1, f2, f3, f4]) rfl ⟨rfl, ?_⟩
      have hlt := HZ.out.1
      exact ((((B3.out.setCell (by simp; omega) _).setCell (by simp; omega) _).setCell (by simp; omega) _).setCell (by simp; omega) _).setCell (by simp; omega) _
set_option maxHeartbeats 16000000 in
set_option maxRecDepth 100000 in
theorem next_0m (A : Vr) (ao bo : Option Addr) (ac bc : Nat) (w : World) (hA : VerC w ao bo A) (hE : Errs w) (r1 : rightB A = true) (hp : preN A = false)  (hm : A.pa = bigM) :
    Calls Tryz.prog 35 #[verV A ao ac bo bc, .int .i64 0] w fun e w' => e = .returned (nextRes (nextV A 0)) ∧ Below w.heap.size w w' := by
  have hres := (show nextV A 0 = none by unfold nextV; rw [if_pos rfl, if_neg (by rw [hp]; decide)]; rw [if_pos hm])
  rw [hres]
  clear hres
  unfold nextRes
  have hm1 : (A.pa == 9223372036854775807) = true := by rw [beq_iff_eq]; exact hm
  clear hm
  have hpl := hA.pl
  have hnums := hA.nums
  have hp1 : ¬ 0 < A.pre.length := by unfold preN at hp; exact of_decide_eq_false hp
  have hp2 : decide (0 < A.pre.length) = false := decide_eq_false hp1
  clear hp
  obtain ⟨wa, ha⟩ : ∃ wa, w.alloc (.cells #[.int .i64 A.ma, .int .i64 A.mi, .int .i64 A.pa, .slice ao A.pre.length ac, .slice bo A.build.length bc] 24) = wa := ⟨_, rfl⟩
  obtain ⟨wb, hb⟩ : ∃ wb, wa.alloc (.cells #[.int .i64 0, .int .i64 0, .int .i64 0, .slice none 0 0, .slice none 0 0] 24) = wb := ⟨_, rfl⟩
  obtain ⟨k1, q1, z1⟩ := box_new ha
  obtain ⟨k2, q2, z2⟩ := box_new hb
  have BW := Lib.hid (q1.trans (q2.mono q1.size))
  have HZ := Lib.hid (And.intro z1 z2)
  have K1 := Lib.hid (k1.below q2)
  have K2 := Lib.hid k2
  have HR := Lib.hid (right_any A ao bo ac bc wb (hA.below BW.out) (hE.below BW.out))
  obtain ⟨c0, c1, c2, c3, c4⟩ := cell5 K1.out
  rw [r1] at HR
  unfold verV at *
  clear hA hE k1 k2 q1 q2 r1 z1 z2
  go_enter Tryz.func35, Tryz.ntmps35
  go_wp2_with fail
  refine HR.out.mono ?_
  rintro e w1 ⟨rfl, b1⟩
  have B1 := Lib.hid (BW.out.trans (b1.mono BW.out.size))
  have HZ1 := Lib.hid (show wa.heap.size < w1.heap.size by have := HZ.out; have := b1.size; omega)
  have K3 := Lib.hid (K1.out.below b1)
  have K4 := Lib.hid (K2.out.below b1)
  clear b1 c0 c1 c2 c3 c4 ha hb K1 K2 BW HR
  obtain ⟨w2, hw2⟩ : ∃ w2, w1.alloc (.cells #[.int .i64 A.ma, .int .i64 A.mi, .int .i64 A.pa] 72) = w2 := ⟨_, rfl⟩
  obtain ⟨k5, q5, -⟩ := box_new hw2
  have B2 := Lib.hid (B1.out.trans (q5.mono B1.out.size))
  have K5 := Lib.hid k5
  have K6 := Lib.hid (K3.out.below q5)
  have K7 := Lib.hid (K4.out.below q5)
  clear k5 q5
  obtain ⟨c0, c1, c2, c3, c4⟩ := cell5 K3.out
  obtain ⟨d0, d1, d2, d3, d4⟩ := cell5 K6.out
  have n0 := K5.out.cell 0
  have n1 := K5.out.cell 1
  have n2 := K5.out.cell 2
  simp at n0 n1 n2
  go_wp2_with fail
  clear hw2 c0 c1 c2 c3 c4
  go_loop [51, 8] (fun i ah => (i = .int .i64 0 ∧ ah = .bool false)) (fun i _ => 0 - (intOf i).toNat)
  case atStart => exact ⟨rfl, rfl⟩
  case round =>
    rcases hrel with ⟨rfl, rfl⟩
    · have HC := clear_none ⟨w1.heap.size, 0, none⟩ 0 w2
      clear n0 n1 n2 d0 d1 d2 d3 d4
      have K8 := K5
      have K9 := K7
      have B3 := B2
      have m0 := K8.out.cell 0
      have m1 := K8.out.cell 1
      have m2 := K8.out.cell 2
      simp at m0 m1 m2
      have f0 := K9.out.free 0
      have f1 := K9.out.free 1
      have f2 := K9.out.free 2
      have f3 := K9.out.free 3
      have f4 := K9.out.free 4
      obtain ⟨g0, g1, g2, g3, g4⟩ := cell5 K9.out
      go_wp2_with fail
      refine bodyPost_ret (v := .tuple #[.agg #[.int .i64 0, .int .i64 0, .int .i64 0, .slice none 0 0, .slice none 0 0], .int .i64 2]) (by simp [results, Tryz.results35, go_sem, g0, g1, g2, g3, g4, f0, f1, f2, f3, f4]) rfl ⟨rfl, ?_⟩
      have hlt := HZ.out.1
      exact ((((B3.out.setCell (by simp; omega) _).setCell (by simp; omega) _).setCell (by simp; omega) _).setCell (by simp; omega) _).setCell (by simp; omega) _
set_option maxHeartbeats 16000000 in
set_option maxRecDepth 100000 in
theorem next_0i (A : Vr) (ao bo : Option Addr) (ac bc : Nat) (w : World) (hA : VerC w ao bo A) (hE : Errs w) (r1 : rightB A = true) (hp : preN A = false)  (hm : A.pa ≠ bigM) :
    Calls Tryz.prog 35 #[verV A ao ac bo bc, .int .i64 0] w fun e w' => e = .returned (nextRes (nextV A 0)) ∧ Below w.heap.size w w' := by
  have hres := (show nextV A 0 = some ⟨A.ma, A.mi, A.pa + 1, [], []⟩ by unfold nextV; rw [if_pos rfl, if_neg (by rw [hp]; decide)]; rw [if_neg hm])
  rw [hres]
  clear hres
  unfold nextRes
  have hm0 : A.pa ≠ 9223372036854775807 := hm
  have hm1 : (A.pa == 9223372036854775807) = false := by rw [beq_eq_false_iff_ne]; exact hm0
  have hm2 : A.pa + 1 ≤ 9223372036854775807 := by have := hA.nums; omega
  clear hm hm0
  have hpl := hA.pl
  have hnums := hA.nums
  have hp1 : ¬ 0 < A.pre.length := by unfold preN at hp; exact of_decide_eq_false hp
  have hp2 : decide (0 < A.pre.length) = false := decide_eq_false hp1
  clear hp
  obtain ⟨wa, ha⟩ : ∃ wa, w.alloc (.cells #[.int .i64 A.ma, .int .i64 A.mi, .int .i64 A.pa, .slice ao A.pre.length ac, .slice bo A.build.length bc] 24) = wa := ⟨_, rfl⟩
  obtain ⟨wb, hb⟩ : ∃ wb, wa.alloc (.cells #[.int .i64 0, .int .i64 0, .int .i64 0, .slice none 0 0, .slice none 0 0] 24) = wb := ⟨_, rfl⟩
  obtain ⟨k1, q1, z1⟩ := box_new ha
  obtain ⟨k2, q2, z2⟩ := box_new hb
  have BW := Lib.hid (q1.trans (q2.mono q1.size))
  have HZ := Lib.hid (And.intro z1 z2)
  have K1 := Lib.hid (k1.below q2)
  have K2 := Lib.hid k2
  have HR := Lib.hid (right_any A ao bo ac bc wb (hA.below BW.out) (hE.below BW.out))
  obtain ⟨c0, c1, c2, c3, c4⟩ := cell5 K1.out
  rw [r1] at HR
  unfold verV at *
  clear hA hE k1 k2 q1 q2 r1 z1 z2
  go_enter Tryz.func35, Tryz.ntmps35
  go_wp2_with fail
  refine HR.out.mono ?_
  rintro e w1 ⟨rfl, b1⟩
  have B1 := Lib.hid (BW.out.trans (b1.mono BW.out.size))
  have HZ1 := Lib.hid (show wa.heap.size < w1.heap.size by have := HZ.out; have := b1.size; omega)
  have K3 := Lib.hid (K1.out.below b1)
  have K4 := Lib.hid (K2.out.below b1)
  clear b1 c0 c1 c2 c3 c4 ha hb K1 K2 BW HR
  obtain ⟨w2, hw2⟩ : ∃ w2, w1.alloc (.cells #[.int .i64 A.ma, .int .i64 A.mi, .int .i64 A.pa] 72) = w2 := ⟨_, rfl⟩
  obtain ⟨k5, q5, -⟩ := box_new hw2
  have B2 := Lib.hid (B1.out.trans (q5.mono B1.out.size))
  have K5 := Lib.hid k5
  have K6 := Lib.hid (K3.out.below q5)
  have K7 := Lib.hid (K4.out.below q5)
  clear k5 q5
  obtain ⟨c0, c1, c2, c3, c4⟩ := cell5 K3.out
  obtain ⟨d0, d1, d2, d3, d4⟩ := cell5 K6.out
  have n0 := K5.out.cell 0
  have n1 := K5.out.cell 1
  have n2 := K5.out.cell 2
  simp at n0 n1 n2
  go_wp2_with fail
  clear hw2 c0 c1 c2 c3 c4
  go_loop [51, 8] (fun i ah => (i = .int .i64 0 ∧ ah = .bool false)) (fun i _ => 0 - (intOf i).toNat)
  case atStart => exact ⟨rfl, rfl⟩
  case round =>
    rcases hrel with ⟨rfl, rfl⟩
    · have HC := clear_none ⟨w1.heap.size, 0, none⟩ 0 w2
      clear n0 n1 n2 d0 d1 d2 d3 d4
      have K8 := K5
      have K9 := K7
      have B3 := B2
      have m0 := K8.out.cell 0
      have m1 := K8.out.cell 1
      have m2 := K8.out.cell 2
      simp at m0 m1 m2
      have f0 := K9.out.free 0
      have f1 := K9.out.free 1
      have f2 := K9.out.free 2
      have f3 := K9.out.free 3
      have f4 := K9.out.free 4
      obtain ⟨g0, g1, g2, g3, g4⟩ := cell5 K9.out
      have fr := K8.out.free 2
      have K10 := Lib.hid (K8.out.set 2 (.int .i64 (A.pa + 1)))
      have K11 := Lib.hid (K9.out.other (c := w1.heap.size) (by have := HZ1.out; omega) 2 (.int .i64 (A.pa + 1)))
      have B4 := Lib.hid (show Below w.heap.size w (w2.setCell ⟨w1.heap.size, 2, none⟩ (.int .i64 (A.pa + 1))) from B3.out.setCell (by have := B1.out.size; simpa using this) _)
      obtain ⟨w4, hw4⟩ : ∃ w4, w2.setCell ⟨w1.heap.size, 2, none⟩ (.int .i64 (A.pa + 1)) = w4 := ⟨_, rfl⟩
      rw [hw4] at K10 K11 B4
      have e10 := K10.out
      simp only [List.setIfInBounds_toArray, List.set_cons_zero, List.set_cons_succ] at e10
      have p0 := e10.cell 0
      have p1 := e10.cell 1
      have p2 := e10.cell 2
      simp at p0 p1 p2
      clear e10 g0 g1 g2 g3 g4 f0 f1 f2 f3 f4
      have f0 := K11.out.free 0
      have f1 := K11.out.free 1
      have f2 := K11.out.free 2
      have f3 := K11.out.free 3
      have f4 := K11.out.free 4
      obtain ⟨g0, g1, g2, g3, g4⟩ := cell5 K11.out
      go_wp2_with fail
      refine bodyPost_ret (v := .tuple #[.agg #[.int .i64 (A.ma), .int .i64 (A.mi), .int .i64 (A.pa + 1), .slice none 0 0, .slice none 0 0], .int .i64 0]) (by simp [results, Tryz.results35, go_sem, g0, g1, g2, g3, g4, f0, f1, f2, f3, f4]) rfl ⟨rfl, ?_⟩
      have hlt := HZ.out.1
      exact ((((B4.out.setCell (by simp; omega) _).setCell (by simp; omega) _).setCell (by simp; omega) _).setCell (by simp; omega) _).setCell (by simp; omega) _
set_option maxHeartbeats 16000000 in
set_option maxRecDepth 100000 in
theorem next_1a (A : Vr) (ao bo : Option Addr) (ac bc : Nat) (w : World) (hA : VerC w ao bo A) (hE : Errs w) (r1 : rightB A = true) (hp : preN A = true)  (hz : A.pa = 0) :
    Calls Tryz.prog 35 #[verV A ao ac bo bc, .int .i64 1] w fun e w' => e = .returned (nextRes (nextV A 1)) ∧ Below w.heap.size w w' := by
  have hres := (show nextV A 1 = some ⟨A.ma, A.mi, 0, [], []⟩ by unfold nextV; rw [if_neg (by decide), if_pos (.inl rfl)]; rw [if_pos ⟨hp, hz⟩])
  rw [hres]
  clear hres
  unfold nextRes
  have hz1 : (A.pa == 0) = true := by rw [beq_iff_eq]; exact hz
  clear hz
  have hpl := hA.pl
  have hnums := hA.nums
  have hp1 : 0 < A.pre.length := by unfold preN at hp; exact of_decide_eq_true hp
  have hp2 : decide (0 < A.pre.length) = true := decide_eq_true hp1
  clear hp
  obtain ⟨wa, ha⟩ : ∃ wa, w.alloc (.cells #[.int .i64 A.ma, .int .i64 A.mi, .int .i64 A.pa, .slice ao A.pre.length ac, .slice bo A.build.length bc] 24) = wa := ⟨_, rfl⟩
  obtain ⟨wb, hb⟩ : ∃ wb, wa.alloc (.cells #[.int .i64 0, .int .i64 0, .int .i64 0, .slice none 0 0, .slice none 0 0] 24) = wb := ⟨_, rfl⟩
  obtain ⟨k1, q1, z1⟩ := box_new ha
  obtain ⟨k2, q2, z2⟩ := box_new hb
  have BW := Lib.hid (q1.trans (q2.mono q1.size))
  have HZ := Lib.hid (And.intro z1 z2)
  have K1 := Lib.hid (k1.below q2)
  have K2 := Lib.hid k2
  have HR := Lib.hid (right_any A ao bo ac bc wb (hA.below BW.out) (hE.below BW.out))
  obtain ⟨c0, c1, c2, c3, c4⟩ := cell5 K1.out
  rw [r1] at HR
  unfold verV at *
  clear hA hE k1 k2 q1 q2 r1 z1 z2
  go_enter Tryz.func35, Tryz.ntmps35
  go_wp2_with fail
  refine HR.out.mono ?_
  rintro e w1 ⟨rfl, b1⟩
  have B1 := Lib.hid (BW.out.trans (b1.mono BW.out.size))
  have HZ1 := Lib.hid (show wa.heap.size < w1.heap.size by have := HZ.out; have := b1.size; omega)
  have K3 := Lib.hid (K1.out.below b1)
  have K4 := Lib.hid (K2.out.below b1)
  clear b1 c0 c1 c2 c3 c4 ha hb K1 K2 BW HR
  obtain ⟨w2, hw2⟩ : ∃ w2, w1.alloc (.cells #[.int .i64 A.ma, .int .i64 A.mi, .int .i64 A.pa] 72) = w2 := ⟨_, rfl⟩
  obtain ⟨k5, q5, -⟩ := box_new hw2
  have B2 := Lib.hid (B1.out.trans (q5.mono B1.out.size))
  have K5 := Lib.hid k5
  have K6 := Lib.hid (K3.out.below q5)
  have K7 := Lib.hid (K4.out.below q5)
  clear k5 q5
  obtain ⟨c0, c1, c2, c3, c4⟩ := cell5 K3.out
  obtain ⟨d0, d1, d2, d3, d4⟩ := cell5 K6.out
  have n0 := K5.out.cell 0
  have n1 := K5.out.cell 1
  have n2 := K5.out.cell 2
  simp at n0 n1 n2
  go_wp2_with fail
  clear hw2 c0 c1 c2 c3 c4
  go_loop [51, 8] (fun i ah => (i = .int .i64 0 ∧ ah = .bool true) ∨ (i = .int .i64 1 ∧ ah = .bool true)) (fun i _ => 1 - (intOf i).toNat)
  case atStart => exact .inl ⟨rfl, rfl⟩
  case round =>
    rcases hrel with ⟨rfl, rfl⟩ | ⟨rfl, rfl⟩
    · go_wp2_with fail
      go_round
      case rel => exact .inr ⟨by first | rfl | go_num, by first | rfl | go_num⟩
      case measure => simp [intOf]
    · have HC := clear_one w1.heap.size 2 1 (.int .i64 A.pa) w2 n2 (K5.out.free 2)
      have K8 := Lib.hid (K5.out.set 2 (.int .i64 0))
      have K9 := Lib.hid (K7.out.other (c := w1.heap.size) (by have := HZ1.out; omega) 2 (.int .i64 0))
      have B3 := Lib.hid (show Below w.heap.size w (w2.setCell ⟨w1.heap.size, 2, none⟩ (.int .i64 0)) from B2.out.setCell (by have := B1.out.size; simpa using this) _)
      generalize w2.setCell ⟨w1.heap.size, 2, none⟩ (.int .i64 0) = w3 at *
      clear n0 n1 n2 d0 d1 d2 d3 d4
      have e8 := K8.out
      simp only [List.setIfInBounds_toArray, List.set_cons_zero, List.set_cons_succ] at e8
      have K8 := Lib.hid e8
      clear e8
      have m0 := K8.out.cell 0
      have m1 := K8.out.cell 1
      have m2 := K8.out.cell 2
      simp at m0 m1 m2
      have f0 := K9.out.free 0
      have f1 := K9.out.free 1
      have f2 := K9.out.free 2
      have f3 := K9.out.free 3
      have f4 := K9.out.free 4
      obtain ⟨g0, g1, g2, g3, g4⟩ := cell5 K9.out
      go_wp2_with fail
      refine bodyPost_ret (v := .tuple #[.agg #[.int .i64 A.ma, .int .i64 A.mi, .int .i64 0, .slice none 0 0, .slice none 0 0], .int .i64 0]) (by simp [results, Tryz.results35, go_sem, g0, g1, g2, g3, g4, f0, f1, f2, f3, f4]) rfl ⟨rfl, ?_⟩
      have hlt := HZ.out.1
      exact ((((B3.out.setCell (by simp; omega) _).setCell (by simp; omega) _).setCell (by simp; omega) _).setCell (by simp; omega) _).setCell (by simp; omega) _
set_option maxHeartbeats 16000000 in
set_option maxRecDepth 100000 in
theorem next_1bm (A : Vr) (ao bo : Option Addr) (ac bc : Nat) (w : World) (hA : VerC w ao bo A) (hE : Errs w) (r1 : rightB A = true) (hp : preN A = true)  (hz : A.pa ≠ 0) (hm : A.mi = bigM) :
    Calls Tryz.prog 35 #[verV A ao ac bo bc, .int .i64 1] w fun e w' => e = .returned (nextRes (nextV A 1)) ∧ Below w.heap.size w w' := by
  have hres := (show nextV A 1 = none by unfold nextV; rw [if_neg (by decide), if_pos (.inl rfl)]; rw [if_neg (fun h => hz h.2)]; rw [if_pos hm])
  rw [hres]
  clear hres
  unfold nextRes
  have hz1 : (A.pa == 0) = false := by rw [beq_eq_false_iff_ne]; exact hz
  clear hz
  have hm1 : (A.mi == 9223372036854775807) = true := by rw [beq_iff_eq]; exact hm
  clear hm
  have hpl := hA.pl
  have hnums := hA.nums
  have hp1 : 0 < A.pre.length := by unfold preN at hp; exact of_decide_eq_true hp
  have hp2 : decide (0 < A.pre.length) = true := decide_eq_true hp1
  clear hp
  obtain ⟨wa, ha⟩ : ∃ wa, w.alloc (.cells #[.int .i64 A.ma, .int .i64 A.mi, .int .i64 A.pa, .slice ao A.pre.length ac, .slice bo A.build.length bc] 24) = wa := ⟨_, rfl⟩
  obtain ⟨wb, hb⟩ : ∃ wb, wa.alloc (.cells #[.int .i64 0, .int .i64 0, .int .i64 0, .slice none 0 0, .slice none 0 0] 24) = wb := ⟨_, rfl⟩
  obtain ⟨k1, q1, z1⟩ := box_new ha
  obtain ⟨k2, q2, z2⟩ := box_new hb
  have BW := Lib.hid (q1.trans (q2.mono q1.size))
  have HZ := Lib.hid (And.intro z1 z2)
  have K1 := Lib.hid (k1.below q2)
  have K2 := Lib.hid k2
  have HR := Lib.hid (right_any A ao bo ac bc wb (hA.below BW.out) (hE.below BW.out))
  obtain ⟨c0, c1, c2, c3, c4⟩ := cell5 K1.out
  rw [r1] at HR
  unfold verV at *
  clear hA hE k1 k2 q1 q2 r1 z1 z2
  go_enter Tryz.func35, Tryz.ntmps35
  go_wp2_with fail
  refine HR.out.mono ?_
  rintro e w1 ⟨rfl, b1⟩
  have B1 := Lib.hid (BW.out.trans (b1.mono BW.out.size))
  have HZ1 := Lib.hid (show wa.heap.size < w1.heap.size by have := HZ.out; have := b1.size; omega)
  have K3 := Lib.hid (K1.out.below b1)
  have K4 := Lib.hid (K2.out.below b1)
  clear b1 c0 c1 c2 c3 c4 ha hb K1 K2 BW HR
  obtain ⟨w2, hw2⟩ : ∃ w2, w1.alloc (.cells #[.int .i64 A.ma, .int .i64 A.mi, .int .i64 A.pa] 72) = w2 := ⟨_, rfl⟩
  obtain ⟨k5, q5, -⟩ := box_new hw2
  have B2 := Lib.hid (B1.out.trans (q5.mono B1.out.size))
  have K5 := Lib.hid k5
  have K6 := Lib.hid (K3.out.below q5)
  have K7 := Lib.hid (K4.out.below q5)
  clear k5 q5
  obtain ⟨c0, c1, c2, c3, c4⟩ := cell5 K3.out
  obtain ⟨d0, d1, d2, d3, d4⟩ := cell5 K6.out
  have n0 := K5.out.cell 0
  have n1 := K5.out.cell 1
  have n2 := K5.out.cell 2
  simp at n0 n1 n2
  go_wp2_with fail
  clear hw2 c0 c1 c2 c3 c4
  go_loop [51, 8] (fun i ah => (i = .int .i64 0 ∧ ah = .bool true) ∨ (i = .int .i64 1 ∧ ah = .bool false)) (fun i _ => 1 - (intOf i).toNat)
  case atStart => exact .inl ⟨rfl, rfl⟩
  case round =>
    rcases hrel with ⟨rfl, rfl⟩ | ⟨rfl, rfl⟩
    · go_wp2_with fail
      go_round
      case rel => exact .inr ⟨by first | rfl | go_num, by first | rfl | go_num⟩
      case measure => simp [intOf]
    · have HC := clear_one w1.heap.size 2 1 (.int .i64 A.pa) w2 n2 (K5.out.free 2)
      have K8 := Lib.hid (K5.out.set 2 (.int .i64 0))
      have K9 := Lib.hid (K7.out.other (c := w1.heap.size) (by have := HZ1.out; omega) 2 (.int .i64 0))
      have B3 := Lib.hid (show Below w.heap.size w (w2.setCell ⟨w1.heap.size, 2, none⟩ (.int .i64 0)) from B2.out.setCell (by have := B1.out.size; simpa using this) _)
      generalize w2.setCell ⟨w1.heap.size, 2, none⟩ (.int .i64 0) = w3 at *
      clear n0 n1 n2 d0 d1 d2 d3 d4
      have e8 := K8.out
      simp only [List.setIfInBounds_toArray, List.set_cons_zero, List.set_cons_succ] at e8
      have K8 := Lib.hid e8
      clear e8
      have m0 := K8.out.cell 0
      have m1 := K8.out.cell 1
      have m2 := K8.out.cell 2
      simp at m0 m1 m2
      have f0 := K9.out.free 0
      have f1 := K9.out.free 1
      have f2 := K9.out.free 2
      have f3 := K9.out.free 3
      have f4 := K9.out.free 4
      obtain ⟨g0, g1, g2, g3, g4⟩ := cell5 K9.out
      go_wp2_with fail
      refine bodyPost_ret (v := .tuple #[.agg #[.int .i64 0, .int .i64 0, .int .i64 0, .slice none 0 0, .slice none 0 0], .int .i64 2]) (by simp [results, Tryz.results35, go_sem, g0, g1, g2, g3, g4, f0, f1, f2, f3, f4]) rfl ⟨rfl, ?_⟩
      have hlt := HZ.out.1
      exact ((((B3.out.setCell (by simp; omega) _).setCell (by simp; omega) _).setCell (by simp; omega) _).setCell (by simp; omega) _).setCell (by simp; omega) _
set_option maxHeartbeats 16000000 in
set_option maxRecDepth 100000 in
theorem next_1bi (A : Vr) (ao bo : Option Addr) (ac bc : Nat) (w : World) (hA : VerC w ao bo A) (hE : Errs w) (r1 : rightB A = true) (hp : preN A = true)  (hz : A.pa ≠ 0) (hm : A.mi ≠ bigM) :
    Calls Tryz.prog 35 #[verV A ao ac bo bc, .int .i64 1] w fun e w' => e = .returned (nextRes (nextV A 1)) ∧ Below w.heap.size w w' := by
  have hres := (show nextV A 1 = some ⟨A.ma, A.mi + 1, 0, [], []⟩ by unfold nextV; rw [if_neg (by decide), if_pos (.inl rfl)]; rw [if_neg (fun h => hz h.2)]; rw [if_neg hm])
  rw [hres]
  clear hres
  unfold nextRes
  have hz1 : (A.pa == 0) = false := by rw [beq_eq_false_iff_ne]; exact hz
  clear hz
  have hm0 : A.mi ≠ 9223372036854775807 := hm
  have hm1 : (A.mi == 9223372036854775807) = false := by rw [beq_eq_false_iff_ne]; exact hm0
  have hm2 : A.mi + 1 ≤ 9223372036854775807 := by have := hA.nums; omega
  clear hm hm0
  have hpl := hA.pl
  have hnums := hA.nums
  have hp1 : 0 < A.pre.length := by unfold preN at hp; exact of_decide_eq_true hp
  have hp2 : decide (0 < A.pre.length) = true := decide_eq_true hp1
  clear hp
  obtain ⟨wa, ha⟩ : ∃ wa, w.alloc (.cells #[.int .i64 A.ma, .int .i64 A.mi, .int .i64 A.pa, .slice ao A.pre.length ac, .slice bo A.build.length bc] 24) = wa := ⟨_, rfl⟩
  obtain ⟨wb, hb⟩ : ∃ wb, wa.alloc (.cells #[.int .i64 0, .int .i64 0, .int .i64 0, .slice none 0 0, .slice none 0 0] 24) = wb := ⟨_, rfl⟩
  obtain ⟨k1, q1, z1⟩ := box_new ha
  obtain ⟨k2, q2, z2⟩ := box_new hb
  have BW := Lib.hid (q1.trans (q2.mono q1.size))
  have HZ := Lib.hid (And.intro z1 z2)
  have K1 := Lib.hid (k1.below q2)
  have K2 := Lib.hid k2
  have HR := Lib.hid (right_any A ao bo ac bc wb (hA.below BW.out) (hE.below BW.out))
  obtain ⟨c0, c1, c2, c3, c4⟩ := cell5 K1.out
  rw [r1] at HR
  unfold verV at *
  clear hA hE k1 k2 q1 q2 r1 z1 z2
  go_enter Tryz.func35, Tryz.ntmps35
  go_wp2_with fail
  refine HR.out.mono ?_
  rintro e w1 ⟨rfl, b1⟩
  have B1 := Lib.hid (BW.out.trans (b1.mono BW.out.size))
  have HZ1 := Lib.hid (show wa.heap.size < w1.heap.size by have := HZ.out; have := b1.size; omega)
  have K3 := Lib.hid (K1.out.below b1)
  have K4 := Lib.hid (K2.out.below b1)
  clear b1 c0 c1 c2 c3 c4 ha hb K1 K2 BW HR
  obtain ⟨w2, hw2⟩ : ∃ w2, w1.alloc (.cells #[.int .i64 A.ma, .int .i64 A.mi, .int .i64 A.pa] 72) = w2 := ⟨_, rfl⟩
  obtain ⟨k5, q5, -⟩ := box_new hw2
  have B2 := Lib.hid (B1.out.trans (q5.mono B1.out.size))
  have K5 := Lib.hid k5
  have K6 := Lib.hid (K3.out.below q5)
  have K7 := Lib.hid (K4.out.below q5)
  clear k5 q5
  obtain ⟨c0, c1, c2, c3, c4⟩ := cell5 K3.out
  obtain ⟨d0, d1, d2, d3, d4⟩ := cell5 K6.out
  have n0 := K5.out.cell 0
  have n1 := K5.out.cell 1
  have n2 := K5.out.cell 2
  simp at n0 n1 n2
  go_wp2_with fail
  clear hw2 c0 c1 c2 c3 c4
  go_loop [51, 8] (fun i ah => (i = .int .i64 0 ∧ ah = .bool true) ∨ (i = .int .i64 1 ∧ ah = .bool false)) (fun i _ => 1 - (intOf i).toNat)
  case atStart => exact .inl ⟨rfl, rfl⟩
  case round =>
    rcases hrel with ⟨rfl, rfl⟩ | ⟨rfl, rfl⟩
    · go_wp2_with fail
      go_round
      case rel => exact .inr ⟨by first | rfl | go_num, by first | rfl | go_num⟩
      case measure => simp [intOf]
    · have HC := clear_one w1.heap.size 2 1 (.int .i64 A.pa) w2 n2 (K5.out.free 2)
      have K8 := Lib.hid (K5.out.set 2 (.int .i64 0))
      have K9 := Lib.hid (K7.out.other (c := w1.heap.size) (by have := HZ1.out; omega) 2 (.int .i64 0))
      have B3 := Lib.hid (show Below w.heap.size w (w2.setCell ⟨w1.heap.size, 2, none⟩ (.int .i64 0)) from B2.out.setCell (by have := B1.out.size; simpa using this) _)
      generalize w2.setCell ⟨w1.heap.size, 2, none⟩ (.int .i64 0) = w3 at *
      clear n0 n1 n2 d0 d1 d2 d3 d4
      have e8 := K8.out
      simp only [List.setIfInBounds_toArray, List.set_cons_zero, List.set_cons_succ] at e8
      have K8 := Lib.hid e8
      clear e8
      have m0 := K8.out.cell 0
      have m1 := K8.out.cell 1
      have m2 := K8.out.cell 2
      simp at m0 m1 m2
      have f0 := K9.out.free 0
      have f1 := K9.out.free 1
      have f2 := K9.out.free 2
      have f3 := K9.out.free 3
      have f4 := K9.out.free 4
      obtain ⟨g0, g1, g2, g3, g4⟩ := cell5 K9.out
      have fr := K8.out.free 1
      have K10 := Lib.hid (K8.out.set 1 (.int .i64 (A.mi + 1)))
      have K11 := Lib.hid (K9.out.other (c := w1.heap.size) (by have := HZ1.out; omega) 1 (.int .i64 (A.mi + 1)))
      have B4 := Lib.hid (show Below w.heap.size w (w3.setCell ⟨w1.heap.size, 1, none⟩ (.int .i64 (A.mi + 1))) from B3.out.setCell (by have := B1.out.size; simpa using this) _)
      obtain ⟨w4, hw4⟩ : ∃ w4, w3.setCell ⟨w1.heap.size, 1, none⟩ (.int .i64 (A.mi + 1)) = w4 := ⟨_, rfl⟩
      rw [hw4] at K10 K11 B4
      have e10 := K10.out
      simp only [List.setIfInBounds_toArray, List.set_cons_zero, List.set_cons_succ] at e10
      have p0 := e10.cell 0
      have p1 := e10.cell 1
      have p2 := e10.cell 2
      simp at p0 p1 p2
      clear e10 g0 g1 g2 g3 g4 f0 f1 f2 f3 f4
      have f0 := K11.out.free 0
      have f1 := K11.out.free 1
      have f2 := K11.out.free 2
      have f3 := K11.out.free 3
      have f4 := K11.out.free 4
      obtain ⟨g0, g1, g2, g3, g4⟩ := cell5 K11.out
      go_wp2_with fail
      refine bodyPost_ret (v := .tuple #[.agg #[.int .i64 (A.ma), .int .i64 (A.mi + 1), .int .i64 (0), .slice none 0 0, .slice none 0 0], .int .i64 0]) (by simp [results, Tryz.results35, go_sem, g0, g1, g2, g3, g4, f0, f1, f2, f3, f4]) rfl ⟨rfl, ?_⟩
      have hlt := HZ.out.1
      exact ((((B4.out.setCell (by simp; omega) _).setCell (by simp; omega) _).setCell (by simp; omega) _).setCell (by simp; omega) _).setCell (by simp; omega) _
set_option maxHeartbeats 16000000 in
set_option maxRecDepth 100000 in
theorem next_1nm (A : Vr) (ao bo : Option Addr) (ac bc : Nat) (w : World) (hA : VerC w ao bo A) (hE : Errs w) (r1 : rightB A = true) (hp : preN A = false)  (hm : A.mi = bigM) :
    Calls Tryz.prog 35 #[verV A ao ac bo bc, .int .i64 1] w fun e w' => e = .returned (nextRes (nextV A 1)) ∧ Below w.heap.size w w' := by
  have hres := (show nextV A 1 = none by unfold nextV; rw [if_neg (by decide), if_pos (.inl rfl)]; rw [if_neg (fun h => by rw [hp] at h; exact absurd h.1 (by decide))]; rw [if_pos hm])
  rw [hres]
  clear hres
  unfold nextRes
  have hm1 : (A.mi == 9223372036854775807) = true := by rw [beq_iff_eq]; exact hm
  clear hm
  have hpl := hA.pl
  have hnums := hA.nums
  have hp1 : ¬ 0 < A.pre.length := by unfold preN at hp; exact of_decide_eq_false hp
  have hp2 : decide (0 < A.pre.length) = false := decide_eq_false hp1
  clear hp
  obtain ⟨wa, ha⟩ : ∃ wa, w.alloc (.cells #[.int .i64 A.ma, .int .i64 A.mi, .int .i64 A.pa, .slice ao A.pre.length ac, .slice bo A.build.length bc] 24) = wa := ⟨_, rfl⟩
  obtain ⟨wb, hb⟩ : ∃ wb, wa.alloc (.cells #[.int .i64 0, .int .i64 0, .int .i64 0, .slice none 0 0, .slice none 0 0] 24) = wb := ⟨_, rfl⟩
  obtain ⟨k1, q1, z1⟩ := box_new ha
  obtain ⟨k2, q2, z2⟩ := box_new hb
  have BW := Lib.hid (q1.trans (q2.mono q1.size))
  have HZ := Lib.hid (And.intro z1 z2)
  have K1 := Lib.hid (k1.below q2)
  have K2 := Lib.hid k2
  have HR := Lib.hid (right_any A ao bo ac bc wb (hA.below BW.out) (hE.below BW.out))
  obtain ⟨c0, c1, c2, c3, c4⟩ := cell5 K1.out
  rw [r1] at HR
  unfold verV at *
  clear hA hE k1 k2 q1 q2 r1 z1 z2
  go_enter Tryz.func35, Tryz.ntmps35
  go_wp2_with fail
  refine HR.out.mono ?_
  rintro e w1 ⟨rfl, b1⟩
  have B1 := Lib.hid (BW.out.trans (b1.mono BW.out.size))
  have HZ1 := Lib.hid (show wa.heap.size < w1.heap.size by have := HZ.out; have := b1.size; omega)
  have K3 := Lib.hid (K1.out.below b1)
  have K4 := Lib.hid (K2.out.below b1)
  clear b1 c0 c1 c2 c3 c4 ha hb K1 K2 BW HR
  obtain ⟨w2, hw2⟩ : ∃ w2, w1.alloc (.cells #[.int .i64 A.ma, .int .i64 A.mi, .int .i64 A.pa] 72) = w2 := ⟨_, rfl⟩
  obtain ⟨k5, q5, -⟩ := box_new hw2
  have B2 := Lib.hid (B1.out.trans (q5.mono B1.out.size))
  have K5 := Lib.hid k5
  have K6 := Lib.hid (K3.out.below q5)
  have K7 := Lib.hid (K4.out.below q5)
  clear k5 q5
  obtain ⟨c0, c1, c2, c3, c4⟩ := cell5 K3.out
  obtain ⟨d0, d1, d2, d3, d4⟩ := cell5 K6.out
  have n0 := K5.out.cell 0
  have n1 := K5.out.cell 1
  have n2 := K5.out.cell 2
  simp at n0 n1 n2
  go_wp2_with fail
  clear hw2 c0 c1 c2 c3 c4
  go_loop [51, 8] (fun i ah => (i = .int .i64 0 ∧ ah = .bool false) ∨ (i = .int .i64 1 ∧ ah = .bool false)) (fun i _ => 1 - (intOf i).toNat)
  case atStart => exact .inl ⟨rfl, rfl⟩
  case round =>
    rcases hrel with ⟨rfl, rfl⟩ | ⟨rfl, rfl⟩
    · go_wp2_with fail
      go_round
      case rel => exact .inr ⟨by first | rfl | go_num, by first | rfl | go_num⟩
      case measure => simp [intOf]
    · have HC := clear_one w1.heap.size 2 1 (.int .i64 A.pa) w2 n2 (K5.out.free 2)
      have K8 := Lib.hid (K5.out.set 2 (.int .i64 0))
      have K9 := Lib.hid (K7.out.other (c := w1.heap.size) (by have := HZ1.out; omega) 2 (.int .i64 0))
      have B3 := Lib.hid (show Below w.heap.size w (w2.setCell ⟨w1.heap.size, 2, none⟩ (.int .i64 0)) from B2.out.setCell (by have := B1.out.size; simpa using this) _)
      generalize w2.setCell ⟨w1.heap.size, 2, none⟩ (.int .i64 0) = w3 at *
      clear n0 n1 n2 d0 d1 d2 d3 d4
      have e8 := K8.out
      simp only [List.setIfInBounds_toArray, List.set_cons_zero, List.set_cons_succ] at e8
      have K8 := Lib.hid e8
      clear e8
      have m0 := K8.out.cell 0
      have m1 := K8.out.cell 1
      have m2 := K8.out.cell 2
      simp at m0 m1 m2
      have f0 := K9.out.free 0
      have f1 := K9.out.free 1
      have f2 := K9.out.free 2
      have f3 := K9.out.free 3
      have f4 := K9.out.free 4
      obtain ⟨g0, g1, g2, g3, g4⟩ := cell5 K9.out
      go_wp2_with fail
      refine bodyPost_ret (v := .tuple #[.agg #[.int .i64 0, .int .i64 0, .int .i64 0, .slice none 0 0, .slice none 0 0], .int .i64 2]) (by simp [results, Tryz.results35, go_sem, g0, g1, g2, g3, g4, f0, f1, f2, f3, f4]) rfl ⟨rfl, ?_⟩
      have hlt := HZ.out.1
      exact ((((B3.out.setCell (by simp; omega) _).setCell (by simp; omega) _).setCell (by simp; omega) _).setCell (by simp; omega) _).setCell (by simp; omega) _
set_option maxHeartbeats 16000000 in
set_option maxRecDepth 100000 in
theorem next_1ni (A : Vr) (ao bo : Option Addr) (ac bc : Nat) (w : World) (hA : VerC w ao bo A) (hE : Errs w) (r1 : rightB A = true) (hp : preN A = false)  (hm : A.mi ≠ bigM) :
    Calls Tryz.prog 35 #[verV A ao ac bo bc, .int .i64 1] w fun e w' => e = .returned (nextRes (nextV A 1)) ∧ Below w.heap.size w w' := by
  have hres := (show nextV A 1 = some ⟨A.ma, A.mi + 1, 0, [], []⟩ by unfold nextV; rw [if_neg (by decide), if_pos (.inl rfl)]; rw [if_neg (fun h => by rw [hp] at h; exact absurd h.1 (by decide))]; rw [if_neg hm])
  rw [hres]
  clear hres
  unfold nextRes
  have hm0 : A.mi ≠ 9223372036854775807 := hm
  have hm1 : (A.mi == 9223372036854775807) = false := by rw [beq_eq_false_iff_ne]; exact hm0
  have hm2 : A.mi + 1 ≤ 9223372036854775807 := by have := hA.nums; omega
  clear hm hm0
  have hpl := hA.pl
  have hnums := hA.nums
  have hp1 : ¬ 0 < A.pre.length := by unfold preN at hp; exact of_decide_eq_false hp
  have hp2 : decide (0 < A.pre.length) = false := decide_eq_false hp1
  clear hp
  obtain ⟨wa, ha⟩ : ∃ wa, w.alloc (.cells #[.int .i64 A.ma, .int .i64 A.mi, .int .i64 A.pa, .slice ao A.pre.length ac, .slice bo A.build.length bc] 24) = wa := ⟨_, rfl⟩
  obtain ⟨wb, hb⟩ : ∃ wb, wa.alloc (.cells #[.int .i64 0, .int .i64 0, .int .i64 0, .slice none 0 0, .slice none 0 0] 24) = wb := ⟨_, rfl⟩
  obtain ⟨k1, q1, z1⟩ := box_new ha
  obtain ⟨k2, q2, z2⟩ := box_new hb
  have BW := Lib.hid (q1.trans (q2.mono q1.size))
  have HZ := Lib.hid (And.intro z1 z2)
  have K1 := Lib.hid (k1.below q2)
  have K2 := Lib.hid k2
  have HR := Lib.hid (right_any A ao bo ac bc wb (hA.below BW.out) (hE.below BW.out))
  obtain ⟨c0, c1, c2, c3, c4⟩ := cell5 K1.out
  rw [r1] at HR
  unfold verV at *
  clear hA hE k1 k2 q1 q2 r1 z1 z2
  go_enter Tryz.func35, Tryz.ntmps35
  go_wp2_with fail
  refine HR.out.mono ?_
  rintro e w1 ⟨rfl, b1⟩
  have B1 := Lib.hid (BW.out.trans (b1.mono BW.out.size))
  have HZ1 := Lib.hid (show wa.heap.size < w1.heap.size by have := HZ.out; have := b1.size; omega)
  have K3 := Lib.hid (K1.out.below b1)
  have K4 := Lib.hid (K2.out.below b1)
  clear b1 c0 c1 c2 c3 c4 ha hb K1 K2 BW HR
  obtain ⟨w2, hw2⟩ : ∃ w2, w1.alloc (.cells #[.int .i64 A.ma, .int .i64 A.mi, .int .i64 A.pa] 72) = w2 := ⟨_, rfl⟩
  obtain ⟨k5, q5, -⟩ := box_new hw2
  have B2 := Lib.hid (B1.out.trans (q5.mono B1.out.size))
  have K5 := Lib.hid k5
  have K6 := Lib.hid (K3.out.below q5)
  have K7 := Lib.hid (K4.out.below q5)
  clear k5 q5
  obtain ⟨c0, c1, c2, c3, c4⟩ := cell5 K3.out
  obtain ⟨d0, d1, d2, d3, d4⟩ := cell5 K6.out
  have n0 := K5.out.cell 0
  have n1 := K5.out.cell 1
  have n2 := K5.out.cell 2
  simp at n0 n1 n2
  go_wp2_with fail
  clear hw2 c0 c1 c2 c3 c4
  go_loop [51, 8] (fun i ah => (i = .int .i64 0 ∧ ah = .bool false) ∨ (i = .int .i64 1 ∧ ah = .bool false)) (fun i _ => 1 - (intOf i).toNat)
  case atStart => exact .inl ⟨rfl, rfl⟩
  case round =>
    rcases hrel with ⟨rfl, rfl⟩ | ⟨rfl, rfl⟩
    · go_wp2_with fail
      go_round
      case rel => exact .inr ⟨by first | rfl | go_num, by first | rfl | go_num⟩
      case measure => simp [intOf]
    · have HC := clear_one w1.heap.size 2 1 (.int .i64 A.pa) w2 n2 (K5.out.free 2)
      have K8 := Lib.hid (K5.out.set 2 (.int .i64 0))
      have K9 := Lib.hid (K7.out.other (c := w1.heap.size) (by have := HZ1.out; omega) 2 (.int .i64 0))
      have B3 := Lib.hid (show Below w.heap.size w (w2.setCell ⟨w1.heap.size, 2, none⟩ (.int .i64 0)) from B2.out.setCell (by have := B1.out.size; simpa using this) _)
      generalize w2.setCell ⟨w1.heap.size, 2, none⟩ (.int .i64 0) = w3 at *
      clear n0 n1 n2 d0 d1 d2 d3 d4
      have e8 := K8.out
      simp only [List.setIfInBounds_toArray, List.set_cons_zero, List.set_cons_succ] at e8
      have K8 := Lib.hid e8
      clear e8
      have m0 := K8.out.cell 0
      have m1 := K8.out.cell 1
      have m2 := K8.out.cell 2
      simp at m0 m1 m2
      have f0 := K9.out.free 0
      have f1 := K9.out.free 1
      have f2 := K9.out.free 2
      have f3 := K9.out.free 3
      have f4 := K9.out.free 4
      obtain ⟨g0, g1, g2, g3, g4⟩ := cell5 K9.out
      have fr := K8.out.free 1
      have K10 := Lib.hid (K8.out.set 1 (.int .i64 (A.mi + 1)))
      have K11 := Lib.hid (K9.out.other (c := w1.heap.size) (by have := HZ1.out; omega) 1 (.int .i64 (A.mi + 1)))
      have B4 := Lib.hid (show Below w.heap.size w (w3.setCell ⟨w1.heap.size, 1, none⟩ (.int .i64 (A.mi + 1))) from B3.out.setCell (by have := B1.out.size; simpa using this) _)
      obtain ⟨w4, hw4⟩ : ∃ w4, w3.setCell ⟨w1.heap.size, 1, none⟩ (.int .i64 (A.mi + 1)) = w4 := ⟨_, rfl⟩
      rw [hw4] at K10 K11 B4
      have e10 := K10.out
      simp only [List.setIfInBounds_toArray, List.set_cons_zero, List.set_cons_succ] at e10
      have p0 := e10.cell 0
      have p1 := e10.cell 1
      have p2 := e10.cell 2
      simp at p0 p1 p2
      clear e10 g0 g1 g2 g3 g4 f0 f1 f2 f3 f4
      have f0 := K11.out.free 0
      have f1 := K11.out.free 1
      have f2 := K11.out.free 2
      have f3 := K11.out.free 3
      have f4 := K11.out.free 4
      obtain ⟨g0, g1, g2, g3, g4⟩ := cell5 K11.out
      go_wp2_with fail
      refine bodyPost_ret (v := .tuple #[.agg #[.int .i64 (A.ma), .int .i64 (A.mi + 1), .int .i64 (0), .slice none 0 0, .slice none 0 0], .int .i64 0]) (by simp [results, Tryz.results35, go_sem, g0, g1, g2, g3, g4, f0, f1, f2, f3, f4]) rfl ⟨rfl, ?_⟩
      have hlt := HZ.out.1
      exact ((((B4.out.setCell (by simp; omega) _).setCell (by simp; omega) _).setCell (by simp; omega) _).setCell (by simp; omega) _).setCell (by simp; omega) _
set_option maxHeartbeats 16000000 in
set_option maxRecDepth 100000 in
theorem next_ca (A : Vr) (c : Int) (ao bo : Option Addr) (ac bc : Nat) (w : World) (hA : VerC w ao bo A) (hE : Errs w) (r1 : rightB A = true) (hp : preN A = true) (hc2 : 2 ≤ c) (hc3 : c ≤ 3) (hma : A.ma = 0) (hz : A.pa = 0) :
    Calls Tryz.prog 35 #[verV A ao ac bo bc, .int .i64 c] w fun e w' => e = .returned (nextRes (nextV A c)) ∧ Below w.heap.size w w' := by
  have hres := (show nextV A c = some ⟨A.ma, A.mi, 0, [], []⟩ by unfold nextV; rw [if_neg (by omega), if_pos (.inr hma)]; rw [if_pos ⟨hp, hz⟩])
  rw [hres]
  clear hres
  unfold nextRes
  have hk1 : (c == 1) = false := by rw [beq_eq_false_iff_ne]; omega
  have hk0 : (c != 0) = true := by rw [bne_iff_ne]; omega
  have hk2 : (c == 0) = false := by rw [beq_eq_false_iff_ne]; omega
  have hma1 : (A.ma == 0) = true := by rw [beq_iff_eq]; exact hma
  clear hma
  have hz1 : (A.pa == 0) = true := by rw [beq_iff_eq]; exact hz
  clear hz
  have hpl := hA.pl
  have hnums := hA.nums
  have hp1 : 0 < A.pre.length := by unfold preN at hp; exact of_decide_eq_true hp
  have hp2 : decide (0 < A.pre.length) = true := decide_eq_true hp1
  clear hp
  obtain ⟨wa, ha⟩ : ∃ wa, w.alloc (.cells #[.int .i64 A.ma, .int .i64 A.mi, .int .i64 A.pa, .slice ao A.pre.length ac, .slice bo A.build.length bc] 24) = wa := ⟨_, rfl⟩
  obtain ⟨wb, hb⟩ : ∃ wb, wa.alloc (.cells #[.int .i64 0, .int .i64 0, .int .i64 0, .slice none 0 0, .slice none 0 0] 24) = wb := ⟨_, rfl⟩
  obtain ⟨k1, q1, z1⟩ := box_new ha
  obtain ⟨k2, q2, z2⟩ := box_new hb
  have BW := Lib.hid (q1.trans (q2.mono q1.size))
  have HZ := Lib.hid (And.intro z1 z2)
  have K1 := Lib.hid (k1.below q2)
  have K2 := Lib.hid k2
  have HR := Lib.hid (right_any A ao bo ac bc wb (hA.below BW.out) (hE.below BW.out))
  obtain ⟨c0, c1, c2, c3, c4⟩ := cell5 K1.out
  rw [r1] at HR
  unfold verV at *
  clear hA hE k1 k2 q1 q2 r1 z1 z2
  go_enter Tryz.func35, Tryz.ntmps35
  go_wp2_with fail
  refine HR.out.mono ?_
  rintro e w1 ⟨rfl, b1⟩
  have B1 := Lib.hid (BW.out.trans (b1.mono BW.out.size))
  have HZ1 := Lib.hid (show wa.heap.size < w1.heap.size by have := HZ.out; have := b1.size; omega)
  have K3 := Lib.hid (K1.out.below b1)
  have K4 := Lib.hid (K2.out.below b1)
  clear b1 c0 c1 c2 c3 c4 ha hb K1 K2 BW HR
  obtain ⟨w2, hw2⟩ : ∃ w2, w1.alloc (.cells #[.int .i64 A.ma, .int .i64 A.mi, .int .i64 A.pa] 72) = w2 := ⟨_, rfl⟩
  obtain ⟨k5, q5, -⟩ := box_new hw2
  have B2 := Lib.hid (B1.out.trans (q5.mono B1.out.size))
  have K5 := Lib.hid k5
  have K6 := Lib.hid (K3.out.below q5)
  have K7 := Lib.hid (K4.out.below q5)
  clear k5 q5
  obtain ⟨c0, c1, c2, c3, c4⟩ := cell5 K3.out
  obtain ⟨d0, d1, d2, d3, d4⟩ := cell5 K6.out
  have n0 := K5.out.cell 0
  have n1 := K5.out.cell 1
  have n2 := K5.out.cell 2
  simp at n0 n1 n2
  go_wp2_with fail
  clear hw2 c0 c1 c2 c3 c4
  go_loop [51, 8] (fun i ah => (i = .int .i64 0 ∧ ah = .bool true) ∨ (i = .int .i64 1 ∧ ah = .bool true)) (fun i _ => 1 - (intOf i).toNat)
  case atStart => exact .inl ⟨rfl, rfl⟩
  case round =>
    rcases hrel with ⟨rfl, rfl⟩ | ⟨rfl, rfl⟩
    · go_wp2_with fail
      go_round
      case rel => exact .inr ⟨by first | rfl | go_num, by first | rfl | go_num⟩
      case measure => simp [intOf]
    · have HC := clear_one w1.heap.size 2 1 (.int .i64 A.pa) w2 n2 (K5.out.free 2)
      have K8 := Lib.hid (K5.out.set 2 (.int .i64 0))
      have K9 := Lib.hid (K7.out.other (c := w1.heap.size) (by have := HZ1.out; omega) 2 (.int .i64 0))
      have B3 := Lib.hid (show Below w.heap.size w (w2.setCell ⟨w1.heap.size, 2, none⟩ (.int .i64 0)) from B2.out.setCell (by have := B1.out.size; simpa using this) _)
      generalize w2.setCell ⟨w1.heap.size, 2, none⟩ (.int .i64 0) = w3 at *
      clear n0 n1 n2 d0 d1 d2 d3 d4
      have e8 := K8.out
      simp only [List.setIfInBounds_toArray, List.set_cons_zero, List.set_cons_succ] at e8
      have K8 := Lib.hid e8
      clear e8
      have m0 := K8.out.cell 0
      have m1 := K8.out.cell 1
      have m2 := K8.out.cell 2
      simp at m0 m1 m2
      have f0 := K9.out.free 0
      have f1 := K9.out.free 1
      have f2 := K9.out.free 2
      have f3 := K9.out.free 3
      have f4 := K9.out.free 4
      obtain ⟨g0, g1, g2, g3, g4⟩ := cell5 K9.out
      go_wp2_with fail
      refine bodyPost_ret (v := .tuple #[.agg #[.int .i64 A.ma, .int .i64 A.mi, .int .i64 0, .slice none 0 0, .slice none 0 0], .int .i64 0]) (by simp [results, Tryz.results35, go_sem, g0, g1, g2, g3, g4, f0, f1, f2, f3, f4]) rfl ⟨rfl, ?_⟩
      have hlt := HZ.out.1
      exact ((((B3.out.setCell (by simp; omega) _).setCell (by simp; omega) _).setCell (by simp; omega) _).setCell (by simp; omega) _).setCell (by simp; omega) _
set_option maxHeartbeats 16000000 in
set_option maxRecDepth 100000 in
theorem next_cbm (A : Vr) (c : Int) (ao bo : Option Addr) (ac bc : Nat) (w : World) (hA : VerC w ao bo A) (hE : Errs w) (r1 : rightB A = true) (hp : preN A = true) (hc2 : 2 ≤ c) (hc3 : c ≤ 3) (hma : A.ma = 0) (hz : A.pa ≠ 0) (hm : A.mi = bigM) :
    Calls Tryz.prog 35 #[verV A ao ac bo bc, .int .i64 c] w fun e w' => e = .returned (nextRes (nextV A c)) ∧ Below w.heap.size w w' := by
  have hres := (show nextV A c = none by unfold nextV; rw [if_neg (by omega), if_pos (.inr hma)]; rw [if_neg (fun h => hz h.2)]; rw [if_pos hm])
  rw [hres]
  clear hres
  unfold nextRes
  have hk1 : (c == 1) = false := by rw [beq_eq_false_iff_ne]; omega
  have hk0 : (c != 0) = true := by rw [bne_iff_ne]; omega
  have hk2 : (c == 0) = false := by rw [beq_eq_false_iff_ne]; omega
  have hma1 : (A.ma == 0) = true := by rw [beq_iff_eq]; exact hma
  clear hma
  have hz1 : (A.pa == 0) = false := by rw [beq_eq_false_iff_ne]; exact hz
  clear hz
  have hm1 : (A.mi == 9223372036854775807) = true := by rw [beq_iff_eq]; exact hm
  clear hm
  have hpl := hA.pl
  have hnums := hA.nums
  have hp1 : 0 < A.pre.length := by unfold preN at hp; exact of_decide_eq_true hp
  have hp2 : decide (0 < A.pre.length) = true := decide_eq_true hp1
  clear hp
  obtain ⟨wa, ha⟩ : ∃ wa, w.alloc (.cells #[.int .i64 A.ma, .int .i64 A.mi, .int .i64 A.pa, .slice ao A.pre.length ac, .slice bo A.build.length bc] 24) = wa := ⟨_, rfl⟩
  obtain ⟨wb, hb⟩ : ∃ wb, wa.alloc (.cells #[.int .i64 0, .int .i64 0, .int .i64 0, .slice none 0 0, .slice none 0 0] 24) = wb := ⟨_, rfl⟩
  obtain ⟨k1, q1, z1⟩ := box_new ha
  obtain ⟨k2, q2, z2⟩ := box_new hb
  have BW := Lib.hid (q1.trans (q2.mono q1.size))
  have HZ := Lib.hid (And.intro z1 z2)
  have K1 := Lib.hid (k1.below q2)
  have K2 := Lib.hid k2
  have HR := Lib.hid (right_any A ao bo ac bc wb (hA.below BW.out) (hE.below BW.out))
  obtain ⟨c0, c1, c2, c3, c4⟩ := cell5 K1.out
  rw [r1] at HR
  unfold verV at *
  clear hA hE k1 k2 q1 q2 r1 z1 z2
  go_enter Tryz.func35, Tryz.ntmps35
  go_wp2_with fail
  refine HR.out.mono ?_
  rintro e w1 ⟨rfl, b1⟩
  have B1 := Lib.hid (BW.out.trans (b1.mono BW.out.size))
  have HZ1 := Lib.hid (show wa.heap.size < w1.heap.size by have := HZ.out; have := b1.size; omega)
  have K3 := Lib.hid (K1.out.below b1)
  have K4 := Lib.hid (K2.out.below b1)
  clear b1 c0 c1 c2 c3 c4 ha hb K1 K2 BW HR
  obtain ⟨w2, hw2⟩ : ∃ w2, w1.alloc (.cells #[.int .i64 A.ma, .int .i64 A.mi, .int .i64 A.pa] 72) = w2 := ⟨_, rfl⟩
  obtain ⟨k5, q5, -⟩ := box_new hw2
  have B2 := Lib.hid (B1.out.trans (q5.mono B1.out.size))
  have K5 := Lib.hid k5
  have K6 := Lib.hid (K3.out.below q5)
  have K7 := Lib.hid (K4.out.below q5)
  clear k5 q5
  obtain ⟨c0, c1, c2, c3, c4⟩ := cell5 K3.out
  obtain ⟨d0, d1, d2, d3, d4⟩ := cell5 K6.out
  have n0 := K5.out.cell 0
  have n1 := K5.out.cell 1
  have n2 := K5.out.cell 2
  simp at n0 n1 n2
  go_wp2_with fail
  clear hw2 c0 c1 c2 c3 c4
  go_loop [51, 8] (fun i ah => (i = .int .i64 0 ∧ ah = .bool true) ∨ (i = .int .i64 1 ∧ ah = .bool false)) (fun i _ => 1 - (intOf i).toNat)
  case atStart => exact .inl ⟨rfl, rfl⟩
  case round =>
    rcases hrel with ⟨rfl, rfl⟩ | ⟨rfl, rfl⟩
    · go_wp2_with fail
      go_round
      case rel => exact .inr ⟨by first | rfl | go_num, by first | rfl | go_num⟩
      case measure => simp [intOf]
    · have HC := clear_one w1.heap.size 2 1 (.int .i64 A.pa) w2 n2 (K5.out.free 2)
      have K8 := Lib.hid (K5.out.set 2 (.int .i64 0))
      have K9 := Lib.hid (K7.out.other (c := w1.heap.size) (by have := HZ1.out; omega) 2 (.int .i64 0))
      have B3 := Lib.hid (show Below w.heap.size w (w2.setCell ⟨w1.heap.size, 2, none⟩ (.int .i64 0)) from B2.out.setCell (by have := B1.out.size; simpa using this) _)
      generalize w2.setCell ⟨w1.heap.size, 2, none⟩ (.int .i64 0) = w3 at *
      clear n0 n1 n2 d0 d1 d2 d3 d4
      have e8 := K8.out
      simp only [List.setIfInBounds_toArray, List.set_cons_zero, List.set_cons_succ] at e8
      have K8 := Lib.hid e8
      clear e8
      have m0 := K8.out.cell 0
      have m1 := K8.out.cell 1
      have m2 := K8.out.cell 2
      simp at m0 m1 m2
      have f0 := K9.out.free 0
      have f1 := K9.out.free 1
      have f2 := K9.out.free 2
      have f3 := K9.out.free 3
      have f4 := K9.out.free 4
      obtain ⟨g0, g1, g2, g3, g4⟩ := cell5 K9.out
      go_wp2_with fail
      refine bodyPost_ret (v := .tuple #[.agg #[.int .i64 0, .int .i64 0, .int .i64 0, .slice none 0 0, .slice none 0 0], .int .i64 2]) (by simp [results, Tryz.results35, go_sem, g0, g1, g2, g3, g4, f0, f1, f2, f3, f4]) rfl ⟨rfl, ?_⟩
      have hlt := HZ.out.1
      exact ((((B3.out.setCell (by simp; omega) _).setCell (by simp; omega) _).setCell (by simp; omega) _).setCell (by simp; omega) _).setCell (by simp; omega) _
set_option maxHeartbeats 16000000 in
set_option maxRecDepth 100000 in
theorem next_cbi (A : Vr) (c : Int) (ao bo : Option Addr) (ac bc : Nat) (w : World) (hA : VerC w ao bo A) (hE : Errs w) (r1 : rightB A = true) (hp : preN A = true) (hc2 : 2 ≤ c) (hc3 : c ≤ 3) (hma : A.ma = 0) (hz : A.pa ≠ 0) (hm : A.mi ≠ bigM) :
    Calls Tryz.prog 35 #[verV A ao ac bo bc, .int .i64 c] w fun e w' => e = .returned (nextRes (nextV A c)) ∧ Below w.heap.size w w' := by
  have hres := (show nextV A c = some ⟨A.ma, A.mi + 1, 0, [], []⟩ by unfold nextV; rw [if_neg (by omega), if_pos (.inr hma)]; rw [if_neg (fun h => hz h.2)]; rw [if_neg hm])
  rw [hres]
  clear hres
  unfold nextRes
  have hk1 : (c == 1) = false := by rw [beq_eq_false_iff_ne]; omega
  have hk0 : (c != 0) = true := by rw [bne_iff_ne]; omega
  have hk2 : (c == 0) = false := by rw [beq_eq_false_iff_ne]; omega
  have hma1 : (A.ma == 0) = true := by rw [beq_iff_eq]; exact hma
  clear hma
  have hz1 : (A.pa == 0) = false := by rw [beq_eq_false_iff_ne]; exact hz
  clear hz
  have hm0 : A.mi ≠ 9223372036854775807 := hm
  have hm1 : (A.mi == 9223372036854775807) = false := by rw [beq_eq_false_iff_ne]; exact hm0
  have hm2 : A.mi + 1 ≤ 9223372036854775807 := by have := hA.nums; omega
  clear hm hm0
  have hpl := hA.pl
  have hnums := hA.nums
  have hp1 : 0 < A.pre.length := by unfold preN at hp; exact of_decide_eq_true hp
  have hp2 : decide (0 < A.pre.length) = true := decide_eq_true hp1
  clear hp
  obtain ⟨wa, ha⟩ : ∃ wa, w.alloc (.cells #[.int .i64 A.ma, .int .i64 A.mi, .int .i64 A.pa, .slice ao A.pre.length ac, .slice bo A.build.length bc] 24) = wa := ⟨_, rfl⟩
  obtain ⟨wb, hb⟩ : ∃ wb, wa.alloc (.cells #[.int .i64 0, .int .i64 0, .int .i64 0, .slice none 0 0, .slice none 0 0] 24) = wb := ⟨_, rfl⟩
  obtain ⟨k1, q1, z1⟩ := box_new ha
  obtain ⟨k2, q2, z2⟩ := box_new hb
  have BW := Lib.hid (q1.trans (q2.mono q1.size))
  have HZ := Lib.hid (And.intro z1 z2)
  have K1 := Lib.hid (k1.below q2)
  have K2 := Lib.hid k2
  have HR := Lib.hid (right_any A ao bo ac bc wb (hA.below BW.out) (hE.below BW.out))
  obtain ⟨c0, c1, c2, c3, c4⟩ := cell5 K1.out
  rw [r1] at HR
  unfold verV at *
  clear hA hE k1 k2 q1 q2 r1 z1 z2
  go_enter Tryz.func35, Tryz.ntmps35
  go_wp2_with fail
  refine HR.out.mono ?_
  rintro e w1 ⟨rfl, b1⟩
  have B1 := Lib.hid (BW.out.trans (b1.mono BW.out.size))
  have HZ1 := Lib.hid (show wa.heap.size < w1.heap.size by have := HZ.out; have := b1.size; omega)
  have K3 := Lib.hid (K1.out.below b1)
  have K4 := Lib.hid (K2.out.below b1)
  clear b1 c0 c1 c2 c3 c4 ha hb K1 K2 BW HR
  obtain ⟨w2, hw2⟩ : ∃ w2, w1.alloc (.cells #[.int .i64 A.ma, .int .i64 A.mi, .int .i64 A.pa] 72) = w2 := ⟨_, rfl⟩
  obtain ⟨k5, q5, -⟩ := box_new hw2
  have B2 := Lib.hid (B1.out.trans (q5.mono B1.out.size))
  have K5 := Lib.hid k5
  have K6 := Lib.hid (K3.out.below q5)
  have K7 := Lib.hid (K4.out.below q5)
  clear k5 q5
  obtain ⟨c0, c1, c2, c3, c4⟩ := cell5 K3.out
  obtain ⟨d0, d1, d2, d3, d4⟩ := cell5 K6.out
  have n0 := K5.out.cell 0
  have n1 := K5.out.cell 1
  have n2 := K5.out.cell 2
  simp at n0 n1 n2
  go_wp2_with fail
  clear hw2 c0 c1 c2 c3 c4
  go_loop [51, 8] (fun i ah => (i = .int .i64 0 ∧ ah = .bool true) ∨ (i = .int .i64 1 ∧ ah = .bool false)) (fun i _ => 1 - (intOf i).toNat)
  case atStart => exact .inl ⟨rfl, rfl⟩
  case round =>
    rcases hrel with ⟨rfl, rfl⟩ | ⟨rfl, rfl⟩
    · go_wp2_with fail
      go_round
      case rel => exact .inr ⟨by first | rfl | go_num, by first | rfl | go_num⟩
      case measure => simp [intOf]
    · have HC := clear_one w1.heap.size 2 1 (.int .i64 A.pa) w2 n2 (K5.out.free 2)
      have K8 := Lib.hid (K5.out.set 2 (.int .i64 0))
      have K9 := Lib.hid (K7.out.other (c := w1.heap.size) (by have := HZ1.out; omega) 2 (.int .i64 0))
      have B3 := Lib.hid (show Below w.heap.size w (w2.setCell ⟨w1.heap.size, 2, none⟩ (.int .i64 0)) from B2.out.setCell (by have := B1.out.size; simpa using this) _)
      generalize w2.setCell ⟨w1.heap.size, 2, none⟩ (.int .i64 0) = w3 at *
      clear n0 n1 n2 d0 d1 d2 d3 d4
      have e8 := K8.out
      simp only [List.setIfInBounds_toArray, List.set_cons_zero, List.set_cons_succ] at e8
      have K8 := Lib.hid e8
      clear e8
      have m0 := K8.out.cell 0
      have m1 := K8.out.cell 1
      have m2 := K8.out.cell 2
      simp at m0 m1 m2
      have f0 := K9.out.free 0
      have f1 := K9.out.free 1
      have f2 := K9.out.free 2
      have f3 := K9.out.free 3
      have f4 := K9.out.free 4
      obtain ⟨g0, g1, g2, g3, g4⟩ := cell5 K9.out
      have fr := K8.out.free 1
      have K10 := Lib.hid (K8.out.set 1 (.int .i64 (A.mi + 1)))
      have K11 := Lib.hid (K9.out.other (c := w1.heap.size) (by have := HZ1.out; omega) 1 (.int .i64 (A.mi + 1)))
      have B4 := Lib.hid (show Below w.heap.size w (w3.setCell ⟨w1.heap.size, 1, none⟩ (.int .i64 (A.mi + 1))) from B3.out.setCell (by have := B1.out.size; simpa using this) _)
      obtain ⟨w4, hw4⟩ : ∃ w4, w3.setCell ⟨w1.heap.size, 1, none⟩ (.int .i64 (A.mi + 1)) = w4 := ⟨_, rfl⟩
      rw [hw4] at K10 K11 B4
      have e10 := K10.out
      simp only [List.setIfInBounds_toArray, List.set_cons_zero, List.set_cons_succ] at e10
      have p0 := e10.cell 0
      have p1 := e10.cell 1
      have p2 := e10.cell 2
      simp at p0 p1 p2
      clear e10 g0 g1 g2 g3 g4 f0 f1 f2 f3 f4
      have f0 := K11.out.free 0
      have f1 := K11.out.free 1
      have f2 := K11.out.free 2
      have f3 := K11.out.free 3
      have f4 := K11.out.free 4
      obtain ⟨g0, g1, g2, g3, g4⟩ := cell5 K11.out
      go_wp2_with fail
      refine bodyPost_ret (v := .tuple #[.agg #[.int .i64 (A.ma), .int .i64 (A.mi + 1), .int .i64 (0), .slice none 0 0, .slice none 0 0], .int .i64 0]) (by simp [results, Tryz.results35, go_sem, g0, g1, g2, g3, g4, f0, f1, f2, f3, f4]) rfl ⟨rfl, ?_⟩
      have hlt := HZ.out.1
      exact ((((B4.out.setCell (by simp; omega) _).setCell (by simp; omega) _).setCell (by simp; omega) _).setCell (by simp; omega) _).setCell (by simp; omega) _
set_option maxHeartbeats 16000000 in
set_option maxRecDepth 100000 in
theorem next_cnm (A : Vr) (c : Int) (ao bo : Option Addr) (ac bc : Nat) (w : World) (hA : VerC w ao bo A) (hE : Errs w) (r1 : rightB A = true) (hp : preN A = false) (hc2 : 2 ≤ c) (hc3 : c ≤ 3) (hma : A.ma = 0) (hm : A.mi = bigM) :
    Calls Tryz.prog 35 #[verV A ao ac bo bc, .int .i64 c] w fun e w' => e = .returned (nextRes (nextV A c)) ∧ Below w.heap.size w w' := by
  have hres := (show nextV A c = none by unfold nextV; rw [if_neg (by omega), if_pos (.inr hma)]; rw [if_neg (fun h => by rw [hp] at h; exact absurd h.1 (by decide))]; rw [if_pos hm])
  rw [hres]
  clear hres
  unfold nextRes
  have hk1 : (c == 1) = false := by rw [beq_eq_false_iff_ne]; omega
  have hk0 : (c != 0) = true := by rw [bne_iff_ne]; omega
  have hk2 : (c == 0) = false := by rw [beq_eq_false_iff_ne]; omega
  have hma1 : (A.ma == 0) = true := by rw [beq_iff_eq]; exact hma
  clear hma
  have hm1 : (A.mi == 9223372036854775807) = true := by rw [beq_iff_eq]; exact hm
  clear hm
  have hpl := hA.pl
  have hnums := hA.nums
  have hp1 : ¬ 0 < A.pre.length := by unfold preN at hp; exact of_decide_eq_false hp
  have hp2 : decide (0 < A.pre.length) = false := decide_eq_false hp1
  clear hp
  obtain ⟨wa, ha⟩ : ∃ wa, w.alloc (.cells #[.int .i64 A.ma, .int .i64 A.mi, .int .i64 A.pa, .slice ao A.pre.length ac, .slice bo A.build.length bc] 24) = wa := ⟨_, rfl⟩
  obtain ⟨wb, hb⟩ : ∃ wb, wa.alloc (.cells #[.int .i64 0, .int .i64 0, .int .i64 0, .slice none 0 0, .slice none 0 0] 24) = wb := ⟨_, rfl⟩
  obtain ⟨k1, q1, z1⟩ := box_new ha
  obtain ⟨k2, q2, z2⟩ := box_new hb
  have BW := Lib.hid (q1.trans (q2.mono q1.size))
  have HZ := Lib.hid (And.intro z1 z2)
  have K1 := Lib.hid (k1.below q2)
  have K2 := Lib.hid k2
  have HR := Lib.hid (right_any A ao bo ac bc wb (hA.below BW.out) (hE.below BW.out))
  obtain ⟨c0, c1, c2, c3, c4⟩ := cell5 K1.out
  rw [r1] at HR
  unfold verV at *
  clear hA hE k1 k2 q1 q2 r1 z1 z2
  go_enter Tryz.func35, Tryz.ntmps35
  go_wp2_with fail
  refine HR.out.mono ?_
  rintro e w1 ⟨rfl, b1⟩
  have B1 := Lib.hid (BW.out.trans (b1.mono BW.out.size))
  have HZ1 := Lib.hid (show wa.heap.size < w1.heap.size by have := HZ.out; have := b1.size; omega)
  have K3 := Lib.hid (K1.out.below b1)
  have K4 := Lib.hid (K2.out.below b1)
  clear b1 c0 c1 c2 c3 c4 ha hb K1 K2 BW HR
  obtain ⟨w2, hw2⟩ : ∃ w2, w1.alloc (.cells #[.int .i64 A.ma, .int .i64 A.mi, .int .i64 A.pa] 72) = w2 := ⟨_, rfl⟩
  obtain ⟨k5, q5, -⟩ := box_new hw2
  have B2 := Lib.hid (B1.out.trans (q5.mono B1.out.size))
  have K5 := Lib.hid k5
  have K6 := Lib.hid (K3.out.below q5)
  have K7 := Lib.hid (K4.out.below q5)
  clear k5 q5
  obtain ⟨c0, c1, c2, c3, c4⟩ := cell5 K3.out
  obtain ⟨d0, d1, d2, d3, d4⟩ := cell5 K6.out
  have n0 := K5.out.cell 0
  have n1 := K5.out.cell 1
  have n2 := K5.out.cell 2
  simp at n0 n1 n2
  go_wp2_with fail
  clear hw2 c0 c1 c2 c3 c4
  go_loop [51, 8] (fun i ah => (i = .int .i64 0 ∧ ah = .bool false) ∨ (i = .int .i64 1 ∧ ah = .bool false)) (fun i _ => 1 - (intOf i).toNat)
  case atStart => exact .inl ⟨rfl, rfl⟩
  case round =>
    rcases hrel with ⟨rfl, rfl⟩ | ⟨rfl, rfl⟩
    · go_wp2_with fail
      go_round
      case rel => exact .inr ⟨by first | rfl | go_num, by first | rfl | go_num⟩
      case measure => simp [intOf]
    · have HC := clear_one w1.heap.size 2 1 (.int .i64 A.pa) w2 n2 (K5.out.free 2)
      have K8 := Lib.hid (K5.out.set 2 (.int .i64 0))
      have K9 := Lib.hid (K7.out.other (c := w1.heap.size) (by have := HZ1.out; omega) 2 (.int .i64 0))
      have B3 := Lib.hid (show Below w.heap.size w (w2.setCell ⟨w1.heap.size, 2, none⟩ (.int .i64 0)) from B2.out.setCell (by have := B1.out.size; simpa using this) _)
      generalize w2.setCell ⟨w1.heap.size, 2, none⟩ (.int .i64 0) = w3 at *
      clear n0 n1 n2 d0 d1 d2 d3 d4
      have e8 := K8.out
      simp only [List.setIfInBounds_toArray, List.set_cons_zero, List.set_cons_succ] at e8
      have K8 := Lib.hid e8
      clear e8
      have m0 := K8.out.cell 0
      have m1 := K8.out.cell 1
      have m2 := K8.out.cell 2
      simp at m0 m1 m2
      have f0 := K9.out.free 0
      have f1 := K9.out.free 1
      have f2 := K9.out.free 2
      have f3 := K9.out.free 3
      have f4 := K9.out.free 4
      obtain ⟨g0, g1, g2, g3, g4⟩ := cell5 K9.out
      go_wp2_with fail
      refine bodyPost_ret (v := .tuple #[.agg #[.int .i64 0, .int .i64 0, .int .i64 0, .slice none 0 0, .slice none 0 0], .int .i64 2]) (by simp [results, Tryz.results35, go_sem, g0, g1, g2, g3, g4, f0, f1, f2, f3, f4]) rfl ⟨rfl, ?_⟩
      have hlt := HZ.out.1
      exact ((((B3.out.setCell (by simp; omega) _).setCell (by simp; omega) _).setCell (by simp; omega) _).setCell (by simp; omega) _).setCell (by simp; omega) _
set_option maxHeartbeats 16000000 in
set_option maxRecDepth 100000 in
theorem next_cni (A : Vr) (c : Int) (ao bo : Option Addr) (ac bc : Nat) (w : World) (hA : VerC w ao bo A) (hE : Errs w) (r1 : rightB A = true) (hp : preN A = false) (hc2 : 2 ≤ c) (hc3 : c ≤ 3) (hma : A.ma = 0) (hm : A.mi ≠ bigM) :
    Calls Tryz.prog 35 #[verV A ao ac bo bc, .int .i64 c] w fun e w' => e = .returned (nextRes (nextV A c)) ∧ Below w.heap.size w w' := by
  have hres := (show nextV A c = some ⟨A.ma, A.mi + 1, 0, [], []⟩ by unfold nextV; rw [if_neg (by omega), if_pos (.inr hma)]; rw [if_neg (fun h => by rw [hp] at h; exact absurd h.1 (by decide))]; rw [if_neg hm])
  rw [hres]
  clear hres
  unfold nextRes
  have hk1 : (c == 1) = false := by rw [beq_eq_false_iff_ne]; omega
  have hk0 : (c != 0) = true := by rw [bne_iff_ne]; omega
  have hk2 : (c == 0) = false := by rw [beq_eq_false_iff_ne]; omega
  have hma1 : (A.ma == 0) = true := by rw [beq_iff_eq]; exact hma
  clear hma
  have hm0 : A.mi ≠ 9223372036854775807 := hm
  have hm1 : (A.mi == 9223372036854775807) = false := by rw [beq_eq_false_iff_ne]; exact hm0
  have hm2 : A.mi + 1 ≤ 9223372036854775807 := by have := hA.nums; omega
  clear hm hm0
  have hpl := hA.pl
  have hnums := hA.nums
  have hp1 : ¬ 0 < A.pre.length := by unfold preN at hp; exact of_decide_eq_false hp
  have hp2 : decide (0 < A.pre.length) = false := decide_eq_false hp1
  clear hp
  obtain ⟨wa, ha⟩ : ∃ wa, w.alloc (.cells #[.int .i64 A.ma, .int .i64 A.mi, .int .i64 A.pa, .slice ao A.pre.length ac, .slice bo A.build.length bc] 24) = wa := ⟨_, rfl⟩
  obtain ⟨wb, hb⟩ : ∃ wb, wa.alloc (.cells #[.int .i64 0, .int .i64 0, .int .i64 0, .slice none 0 0, .slice none 0 0] 24) = wb := ⟨_, rfl⟩
  obtain ⟨k1, q1, z1⟩ := box_new ha
  obtain ⟨k2, q2, z2⟩ := box_new hb
  have BW := Lib.hid (q1.trans (q2.mono q1.size))
  have HZ := Lib.hid (And.intro z1 z2)
  have K1 := Lib.hid (k1.below q2)
  have K2 := Lib.hid k2
  have HR := Lib.hid (right_any A ao bo ac bc wb (hA.below BW.out) (hE.below BW.out))
  obtain ⟨c0, c1, c2, c3, c4⟩ := cell5 K1.out
  rw [r1] at HR
  unfold verV at *
  clear hA hE k1 k2 q1 q2 r1 z1 z2
  go_enter Tryz.func35, Tryz.ntmps35
  go_wp2_with fail
  refine HR.out.mono ?_
  rintro e w1 ⟨rfl, b1⟩
  have B1 := Lib.hid (BW.out.trans (b1.mono BW.out.size))
  have HZ1 := Lib.hid (show wa.heap.size < w1.heap.size by have := HZ.out; have := b1.size; omega)
  have K3 := Lib.hid (K1.out.below b1)
  have K4 := Lib.hid (K2.out.below b1)
  clear b1 c0 c1 c2 c3 c4 ha hb K1 K2 BW HR
  obtain ⟨w2, hw2⟩ : ∃ w2, w1.alloc (.cells #[.int .i64 A.ma, .int .i64 A.mi, .int .i64 A.pa] 72) = w2 := ⟨_, rfl⟩
  obtain ⟨k5, q5, -⟩ := box_new hw2
  have B2 := Lib.hid (B1.out.trans (q5.mono B1.out.size))
  have K5 := Lib.hid k5
  have K6 := Lib.hid (K3.out.below q5)
  have K7 := Lib.hid (K4.out.below q5)
  clear k5 q5
  obtain ⟨c0, c1, c2, c3, c4⟩ := cell5 K3.out
  obtain ⟨d0, d1, d2, d3, d4⟩ := cell5 K6.out
  have n0 := K5.out.cell 0
  have n1 := K5.out.cell 1
  have n2 := K5.out.cell 2
  simp at n0 n1 n2
  go_wp2_with fail
  clear hw2 c0 c1 c2 c3 c4
  go_loop [51, 8] (fun i ah => (i = .int .i64 0 ∧ ah = .bool false) ∨ (i = .int .i64 1 ∧ ah = .bool false)) (fun i _ => 1 - (intOf i).toNat)
  case atStart => exact .inl ⟨rfl, rfl⟩
  case round =>
    rcases hrel with ⟨rfl, rfl⟩ | ⟨rfl, rfl⟩
    · go_wp2_with fail
      go_round
      case rel => exact .inr ⟨by first | rfl | go_num, by first | rfl | go_num⟩
      case measure => simp [intOf]
    · have HC := clear_one w1.heap.size 2 1 (.int .i64 A.pa) w2 n2 (K5.out.free 2)
      have K8 := Lib.hid (K5.out.set 2 (.int .i64 0))
      have K9 := Lib.hid (K7.out.other (c := w1.heap.size) (by have := HZ1.out; omega) 2 (.int .i64 0))
      have B3 := Lib.hid (show Below w.heap.size w (w2.setCell ⟨w1.heap.size, 2, none⟩ (.int .i64 0)) from B2.out.setCell (by have := B1.out.size; simpa using this) _)
      generalize w2.setCell ⟨w1.heap.size, 2, none⟩ (.int .i64 0) = w3 at *
      clear n0 n1 n2 d0 d1 d2 d3 d4
      have e8 := K8.out
      simp only [List.setIfInBounds_toArray, List.set_cons_zero, List.set_cons_succ] at e8
      have K8 := Lib.hid e8
      clear e8
      have m0 := K8.out.cell 0
      have m1 := K8.out.cell 1
      have m2 := K8.out.cell 2
      simp at m0 m1 m2
      have f0 := K9.out.free 0
      have f1 := K9.out.free 1
      have f2 := K9.out.free 2
      have f3 := K9.out.free 3
      have f4 := K9.out.free 4
      obtain ⟨g0, g1, g2, g3, g4⟩ := cell5 K9.out
      have fr := K8.out.free 1
      have K10 := Lib.hid (K8.out.set 1 (.int .i64 (A.mi + 1)))
      have K11 := Lib.hid (K9.out.other (c := w1.heap.size) (by have := HZ1.out; omega) 1 (.int .i64 (A.mi + 1)))
      have B4 := Lib.hid (show Below w.heap.size w (w3.setCell ⟨w1.heap.size, 1, none⟩ (.int .i64 (A.mi + 1))) from B3.out.setCell (by have := B1.out.size; simpa using this) _)
      obtain ⟨w4, hw4⟩ : ∃ w4, w3.setCell ⟨w1.heap.size, 1, none⟩ (.int .i64 (A.mi + 1)) = w4 := ⟨_, rfl⟩
      rw [hw4] at K10 K11 B4
      have e10 := K10.out
      simp only [List.setIfInBounds_toArray, List.set_cons_zero, List.set_cons_succ] at e10
      have p0 := e10.cell 0
      have p1 := e10.cell 1
      have p2 := e10.cell 2
      simp at p0 p1 p2
      clear e10 g0 g1 g2 g3 g4 f0 f1 f2 f3 f4
      have f0 := K11.out.free 0
      have f1 := K11.out.free 1
      have f2 := K11.out.free 2
      have f3 := K11.out.free 3
      have f4 := K11.out.free 4
      obtain ⟨g0, g1, g2, g3, g4⟩ := cell5 K11.out
      go_wp2_with fail
      refine bodyPost_ret (v := .tuple #[.agg #[.int .i64 (A.ma), .int .i64 (A.mi + 1), .int .i64 (0), .slice none 0 0, .slice none 0 0], .int .i64 0]) (by simp [results, Tryz.results35, go_sem, g0, g1, g2, g3, g4, f0, f1, f2, f3, f4]) rfl ⟨rfl, ?_⟩
      have hlt := HZ.out.1
      exact ((((B4.out.setCell (by simp; omega) _).setCell (by simp; omega) _).setCell (by simp; omega) _).setCell (by simp; omega) _).setCell (by simp; omega) _
set_option maxHeartbeats 16000000 in
set_option maxRecDepth 100000 in
theorem next_ma (A : Vr) (c : Int) (ao bo : Option Addr) (ac bc : Nat) (w : World) (hA : VerC w ao bo A) (hE : Errs w) (r1 : rightB A = true) (hp : preN A = true) (hc2 : 2 ≤ c) (hc3 : c ≤ 3) (hma : A.ma ≠ 0) (hi : A.mi = 0) (hz : A.pa = 0) :
    Calls Tryz.prog 35 #[verV A ao ac bo bc, .int .i64 c] w fun e w' => e = .returned (nextRes (nextV A c)) ∧ Below w.heap.size w w' := by
  have hres := (show nextV A c = some ⟨A.ma, 0, 0, [], []⟩ by unfold nextV; rw [if_neg (by omega), if_neg (by omega)]; rw [if_pos ⟨hp, hi, hz⟩])
  rw [hres]
  clear hres
  unfold nextRes
  have hk1 : (c == 1) = false := by rw [beq_eq_false_iff_ne]; omega
  have hk0 : (c != 0) = true := by rw [bne_iff_ne]; omega
  have hk2 : (c == 0) = false := by rw [beq_eq_false_iff_ne]; omega
  have hma1 : (A.ma == 0) = false := by rw [beq_eq_false_iff_ne]; exact hma
  clear hma
  have hi1 : (A.mi == 0) = true := by rw [beq_iff_eq]; exact hi
  clear hi
  have hz1 : (A.pa == 0) = true := by rw [beq_iff_eq]; exact hz
  clear hz
  have hpl := hA.pl
  have hnums := hA.nums
  have hp1 : 0 < A.pre.length := by unfold preN at hp; exact of_decide_eq_true hp
  have hp2 : decide (0 < A.pre.length) = true := decide_eq_true hp1
  clear hp
  obtain ⟨wa, ha⟩ : ∃ wa, w.alloc (.cells #[.int .i64 A.ma, .int .i64 A.mi, .int .i64 A.pa, .slice ao A.pre.length ac, .slice bo A.build.length bc] 24) = wa := ⟨_, rfl⟩
  obtain ⟨wb, hb⟩ : ∃ wb, wa.alloc (.cells #[.int .i64 0, .int .i64 0, .int .i64 0, .slice none 0 0, .slice none 0 0] 24) = wb := ⟨_, rfl⟩
  obtain ⟨k1, q1, z1⟩ := box_new ha
  obtain ⟨k2, q2, z2⟩ := box_new hb
  have BW := Lib.hid (q1.trans (q2.mono q1.size))
  have HZ := Lib.hid (And.intro z1 z2)
  have K1 := Lib.hid (k1.below q2)
  have K2 := Lib.hid k2
  have HR := Lib.hid (right_any A ao bo ac bc wb (hA.below BW.out) (hE.below BW.out))
  obtain ⟨c0, c1, c2, c3, c4⟩ := cell5 K1.out
  rw [r1] at HR
  unfold verV at *
  clear hA hE k1 k2 q1 q2 r1 z1 z2
  go_enter Tryz.func35, Tryz.ntmps35
  go_wp2_with fail
  refine HR.out.mono ?_
  rintro e w1 ⟨rfl, b1⟩
  have B1 := Lib.hid (BW.out.trans (b1.mono BW.out.size))
  have HZ1 := Lib.hid (show wa.heap.size < w1.heap.size by have := HZ.out; have := b1.size; omega)
  have K3 := Lib.hid (K1.out.below b1)
  have K4 := Lib.hid (K2.out.below b1)
  clear b1 c0 c1 c2 c3 c4 ha hb K1 K2 BW HR
  obtain ⟨w2, hw2⟩ : ∃ w2, w1.alloc (.cells #[.int .i64 A.ma, .int .i64 A.mi, .int .i64 A.pa] 72) = w2 := ⟨_, rfl⟩
  obtain ⟨k5, q5, -⟩ := box_new hw2
  have B2 := Lib.hid (B1.out.trans (q5.mono B1.out.size))
  have K5 := Lib.hid k5
  have K6 := Lib.hid (K3.out.below q5)
  have K7 := Lib.hid (K4.out.below q5)
  clear k5 q5
  obtain ⟨c0, c1, c2, c3, c4⟩ := cell5 K3.out
  obtain ⟨d0, d1, d2, d3, d4⟩ := cell5 K6.out
  have n0 := K5.out.cell 0
  have n1 := K5.out.cell 1
  have n2 := K5.out.cell 2
  simp at n0 n1 n2
  go_wp2_with fail
  clear hw2 c0 c1 c2 c3 c4
  go_loop [51, 8] (fun i ah => (i = .int .i64 0 ∧ ah = .bool true) ∨ (i = .int .i64 1 ∧ ah = .bool true) ∨ (i = .int .i64 2 ∧ ah = .bool true)) (fun i _ => 2 - (intOf i).toNat)
  case atStart => exact .inl ⟨rfl, rfl⟩
  case round =>
    rcases hrel with ⟨rfl, rfl⟩ | ⟨rfl, rfl⟩ | ⟨rfl, rfl⟩
    · go_wp2_with fail
      go_round
      case rel => exact .inr (.inl ⟨by first | rfl | go_num, by first | rfl | go_num⟩)
      case measure => simp [intOf]
    · go_wp2_with fail
      go_round
      case rel => exact .inr (.inr ⟨by first | rfl | go_num, by first | rfl | go_num⟩)
      case measure => simp [intOf]
    · have HC := clear_two w1.heap.size 1 2 (.int .i64 A.mi) (.int .i64 A.pa) w2 n1 n2 (K5.out.free 1) (K5.out.free 2)
      simp only [show 1 + 1 = 2 from rfl] at HC
      have K8 := Lib.hid ((K5.out.set 1 (.int .i64 0)).set 2 (.int .i64 0))
      have K9 := Lib.hid ((K7.out.other (c := w1.heap.size) (by have := HZ1.out; omega) 1 (.int .i64 0)).other (c := w1.heap.size) (by have := HZ1.out; omega) 2 (.int .i64 0))
      have B3 := Lib.hid (show Below w.heap.size w ((w2.setCell ⟨w1.heap.size, 1, none⟩ (.int .i64 0)).setCell ⟨w1.heap.size, 2, none⟩ (.int .i64 0)) from (B2.out.setCell (by have := B1.out.size; simpa using this) _).setCell (by have := B1.out.size; simpa using this) _)
      generalize (w2.setCell ⟨w1.heap.size, 1, none⟩ (.int .i64 0)).setCell ⟨w1.heap.size, 2, none⟩ (.int .i64 0) = w3 at *
      clear n0 n1 n2 d0 d1 d2 d3 d4
      have e8 := K8.out
      simp only [List.setIfInBounds_toArray, List.set_cons_zero, List.set_cons_succ] at e8
      have K8 := Lib.hid e8
      clear e8
      have m0 := K8.out.cell 0
      have m1 := K8.out.cell 1
      have m2 := K8.out.cell 2
      simp at m0 m1 m2
      have f0 := K9.out.free 0
      have f1 := K9.out.free 1
      have f2 := K9.out.free 2
      have f3 := K9.out.free 3
      have f4 := K9.out.free 4
      obtain ⟨g0, g1, g2, g3, g4⟩ := cell5 K9.out
      go_wp2_with fail
      refine bodyPost_ret (v := .tuple #[.agg #[.int .i64 A.ma, .int .i64 0, .int .i64 0, .slice none 0 0, .slice none 0 0], .int .i64 0]) (by simp [results, Tryz.results35, go_sem, g0, g1, g2, g3, g4, f0, f1, f2, f3, f4]) rfl ⟨rfl, ?_⟩
      have hlt := HZ.out.1
      exact ((((B3.out.setCell (by simp; omega) _).setCell (by simp; omega) _).setCell (by simp; omega) _).setCell (by simp; omega) _).setCell (by simp; omega) _
set_option maxHeartbeats 16000000 in
set_option maxRecDepth 100000 in
theorem next_mbm (A : Vr) (c : Int) (ao bo : Option Addr) (ac bc : Nat) (w : World) (hA : VerC w ao bo A) (hE : Errs w) (r1 : rightB A = true) (hp : preN A = true) (hc2 : 2 ≤ c) (hc3 : c ≤ 3) (hma : A.ma ≠ 0) (hi : A.mi = 0) (hz : A.pa ≠ 0) (hm : A.ma = bigM) :
    Calls Tryz.prog 35 #[verV A ao ac bo bc, .int .i64 c] w fun e w' => e = .returned (nextRes (nextV A c)) ∧ Below w.heap.size w w' := by
  have hres := (show nextV A c = none by unfold nextV; rw [if_neg (by omega), if_neg (by omega)]; rw [if_neg (fun h => hz h.2.2)]; rw [if_pos hm])
  rw [hres]
  clear hres
  unfold nextRes
  have hk1 : (c == 1) = false := by rw [beq_eq_false_iff_ne]; omega
  have hk0 : (c != 0) = true := by rw [bne_iff_ne]; omega
  have hk2 : (c == 0) = false := by rw [beq_eq_false_iff_ne]; omega
  have hma1 : (A.ma == 0) = false := by rw [beq_eq_false_iff_ne]; exact hma
  clear hma
  have hi1 : (A.mi == 0) = true := by rw [beq_iff_eq]; exact hi
  clear hi
  have hz1 : (A.pa == 0) = false := by rw [beq_eq_false_iff_ne]; exact hz
  clear hz
  have hm1 : (A.ma == 9223372036854775807) = true := by rw [beq_iff_eq]; exact hm
  clear hm
  have hpl := hA.pl
  have hnums := hA.nums
  have hp1 : 0 < A.pre.length := by unfold preN at hp; exact of_decide_eq_true hp
  have hp2 : decide (0 < A.pre.length) = true := decide_eq_true hp1
  clear hp
  obtain ⟨wa, ha⟩ : ∃ wa, w.alloc (.cells #[.int .i64 A.ma, .int .i64 A.mi, .int .i64 A.pa, .slice ao A.pre.length ac, .slice bo A.build.length bc] 24) = wa := ⟨_, rfl⟩
  obtain ⟨wb, hb⟩ : ∃ wb, wa.alloc (.cells #[.int .i64 0, .int .i64 0, .int .i64 0, .slice none 0 0, .slice none 0 0] 24) = wb := ⟨_, rfl⟩
  obtain ⟨k1, q1, z1⟩ := box_new ha
  obtain ⟨k2, q2, z2⟩ := box_new hb
  have BW := Lib.hid (q1.trans (q2.mono q1.size))
  have HZ := Lib.hid (And.intro z1 z2)
  have K1 := Lib.hid (k1.below q2)
  have K2 := Lib.hid k2
  have HR := Lib.hid (right_any A ao bo ac bc wb (hA.below BW.out) (hE.below BW.out))
  obtain ⟨c0, c1, c2, c3, c4⟩ := cell5 K1.out
  rw [r1] at HR
  unfold verV at *
  clear hA hE k1 k2 q1 q2 r1 z1 z2
  go_enter Tryz.func35, Tryz.ntmps35
  go_wp2_with fail
  refine HR.out.mono ?_
  rintro e w1 ⟨rfl, b1⟩
  have B1 := Lib.hid (BW.out.trans (b1.mono BW.out.size))
  have HZ1 := Lib.hid (show wa.heap.size < w1.heap.size by have := HZ.out; have := b1.size; omega)
  have K3 := Lib.hid (K1.out.below b1)
  have K4 := Lib.hid (K2.out.below b1)
  clear b1 c0 c1 c2 c3 c4 ha hb K1 K2 BW HR
  obtain ⟨w2, hw2⟩ : ∃ w2, w1.alloc (.cells #[.int .i64 A.ma, .int .i64 A.mi, .int .i64 A.pa] 72) = w2 := ⟨_, rfl⟩
  obtain ⟨k5, q5, -⟩ := box_new hw2
  have B2 := Lib.hid (B1.out.trans (q5.mono B1.out.size))
  have K5 := Lib.hid k5
  have K6 := Lib.hid (K3.out.below q5)
  have K7 := Lib.hid (K4.out.below q5)
  clear k5 q5
  obtain ⟨c0, c1, c2, c3, c4⟩ := cell5 K3.out
  obtain ⟨d0, d1, d2, d3, d4⟩ := cell5 K6.out
  have n0 := K5.out.cell 0
  have n1 := K5.out.cell 1
  have n2 := K5.out.cell 2
  simp at n0 n1 n2
  go_wp2_with fail
  clear hw2 c0 c1 c2 c3 c4
  go_loop [51, 8] (fun i ah => (i = .int .i64 0 ∧ ah = .bool true) ∨ (i = .int .i64 1 ∧ ah = .bool true) ∨ (i = .int .i64 2 ∧ ah = .bool false)) (fun i _ => 2 - (intOf i).toNat)
  case atStart => exact .inl ⟨rfl, rfl⟩
  case round =>
    rcases hrel with ⟨rfl, rfl⟩ | ⟨rfl, rfl⟩ | ⟨rfl, rfl⟩
    · go_wp2_with fail
      go_round
      case rel => exact .inr (.inl ⟨by first | rfl | go_num, by first | rfl | go_num⟩)
      case measure => simp [intOf]
    · go_wp2_with fail
      go_round
      case rel => exact .inr (.inr ⟨by first | rfl | go_num, by first | rfl | go_num⟩)
      case measure => simp [intOf]
    · have HC := clear_two w1.heap.size 1 2 (.int .i64 A.mi) (.int .i64 A.pa) w2 n1 n2 (K5.out.free 1) (K5.out.free 2)
      simp only [show 1 + 1 = 2 from rfl] at HC
      have K8 := Lib.hid ((K5.out.set 1 (.int .i64 0)).set 2 (.int .i64 0))
      have K9 := Lib.hid ((K7.out.other (c := w1.heap.size) (by have := HZ1.out; omega) 1 (.int .i64 0)).other (c := w1.heap.size) (by have := HZ1.out; omega) 2 (.int .i64 0))
      have B3 := Lib.hid (show Below w.heap.size w ((w2.setCell ⟨w1.heap.size, 1, none⟩ (.int .i64 0)).setCell ⟨w1.heap.size, 2, none⟩ (.int .i64 0)) from (B2.out.setCell (by have := B1.out.size; simpa using this) _).setCell (by have := B1.out.size; simpa using this) _)
      generalize (w2.setCell ⟨w1.heap.size, 1, none⟩ (.int .i64 0)).setCell ⟨w1.heap.size, 2, none⟩ (.int .i64 0) = w3 at *
      clear n0 n1 n2 d0 d1 d2 d3 d4
      have e8 := K8.out
      simp only [List.setIfInBounds_toArray, List.set_cons_zero, List.set_cons_succ] at e8
      have K8 := Lib.hid e8
      clear e8
      have m0 := K8.out.cell 0
      have m1 := K8.out.cell 1
      have m2 := K8.out.cell 2
      simp at m0 m1 m2
      have f0 := K9.out.free 0
      have f1 := K9.out.free 1
      have f2 := K9.out.free 2
      have f3 := K9.out.free 3
      have f4 := K9.out.free 4
      obtain ⟨g0, g1, g2, g3, g4⟩ := cell5 K9.out
      go_wp2_with fail
      refine bodyPost_ret (v := .tuple #[.agg #[.int .i64 0, .int .i64 0, .int .i64 0, .slice none 0 0, .slice none 0 0], .int .i64 2]) (by simp [results, Tryz.results35, go_sem, g0, g1, g2, g3, g4, f0, f1, f2, f3, f4]) rfl ⟨rfl, ?_⟩
      have hlt := HZ.out.1
      exact ((((B3.out.setCell (by simp; omega) _).setCell (by simp; omega) _).setCell (by simp; omega) _).setCell (by simp; omega) _).setCell (by simp; omega) _
set_option maxHeartbeats 16000000 in
set_option maxRecDepth 100000 in
theorem next_mbi (A : Vr) (c : Int) (ao bo : Option Addr) (ac bc : Nat) (w : World) (hA : VerC w ao bo A) (hE : Errs w) (r1 : rightB A = true) (hp : preN A = true) (hc2 : 2 ≤ c) (hc3 : c ≤ 3) (hma : A.ma ≠ 0) (hi : A.mi = 0) (hz : A.pa ≠ 0) (hm : A.ma ≠ bigM) :
    Calls Tryz.prog 35 #[verV A ao ac bo bc, .int .i64 c] w fun e w' => e = .returned (nextRes (nextV A c)) ∧ Below w.heap.size w w' := by
  have hres := (show nextV A c = some ⟨A.ma + 1, 0, 0, [], []⟩ by unfold nextV; rw [if_neg (by omega), if_neg (by omega)]; rw [if_neg (fun h => hz h.2.2)]; rw [if_neg hm])
  rw [hres]
  clear hres
  unfold nextRes
  have hk1 : (c == 1) = false := by rw [beq_eq_false_iff_ne]; omega
  have hk0 : (c != 0) = true := by rw [bne_iff_ne]; omega
  have hk2 : (c == 0) = false := by rw [beq_eq_false_iff_ne]; omega
  have hma1 : (A.ma == 0) = false := by rw [beq_eq_false_iff_ne]; exact hma
  clear hma
  have hi1 : (A.mi == 0) = true := by rw [beq_iff_eq]; exact hi
  clear hi
  have hz1 : (A.pa == 0) = false := by rw [beq_eq_false_iff_ne]; exact hz
  clear hz
  have hm0 : A.ma ≠ 9223372036854775807 := hm
  have hm1 : (A.ma == 9223372036854775807) = false := by rw [beq_eq_false_iff_ne]; exact hm0
  have hm2 : A.ma + 1 ≤ 9223372036854775807 := by have := hA.nums; omega
  clear hm hm0
  have hpl := hA.pl
  have hnums := hA.nums
  have hp1 : 0 < A.pre.length := by unfold preN at hp; exact of_decide_eq_true hp
  have hp2 : decide (0 < A.pre.length) = true := decide_eq_true hp1
  clear hp
  obtain ⟨wa, ha⟩ : ∃ wa, w.alloc (.cells #[.int .i64 A.ma, .int .i64 A.mi, .int .i64 A.pa, .slice ao A.pre.length ac, .slice bo A.build.length bc] 24) = wa := ⟨_, rfl⟩
  obtain ⟨wb, hb⟩ : ∃ wb, wa.alloc (.cells #[.int .i64 0, .int .i64 0, .int .i64 0, .slice none 0 0, .slice none 0 0] 24) = wb := ⟨_, rfl⟩
  obtain ⟨k1, q1, z1⟩ := box_new ha
  obtain ⟨k2, q2, z2⟩ := box_new hb
  have BW := Lib.hid (q1.trans (q2.mono q1.size))
  have HZ := Lib.hid (And.intro z1 z2)
  have K1 := Lib.hid (k1.below q2)
  have K2 := Lib.hid k2
  have HR := Lib.hid (right_any A ao bo ac bc wb (hA.below BW.out) (hE.below BW.out))
  obtain ⟨c0, c1, c2, c3, c4⟩ := cell5 K1.out
  rw [r1] at HR
  unfold verV at *
  clear hA hE k1 k2 q1 q2 r1 z1 z2
  go_enter Tryz.func35, Tryz.ntmps35
  go_wp2_with fail
  refine HR.out.mono ?_
  rintro e w1 ⟨rfl, b1⟩
  have B1 := Lib.hid (BW.out.trans (b1.mono BW.out.size))
  have HZ1 := Lib.hid (show wa.heap.size < w1.heap.size by have := HZ.out; have := b1.size; omega)
  have K3 := Lib.hid (K1.out.below b1)
  have K4 := Lib.hid (K2.out.below b1)
  clear b1 c0 c1 c2 c3 c4 ha hb K1 K2 BW HR
  obtain ⟨w2, hw2⟩ : ∃ w2, w1.alloc (.cells #[.int .i64 A.ma, .int .i64 A.mi, .int .i64 A.pa] 72) = w2 := ⟨_, rfl⟩
  obtain ⟨k5, q5, -⟩ := box_new hw2
  have B2 := Lib.hid (B1.out.trans (q5.mono B1.out.size))
  have K5 := Lib.hid k5
  have K6 := Lib.hid (K3.out.below q5)
  have K7 := Lib.hid (K4.out.below q5)
  clear k5 q5
  obtain ⟨c0, c1, c2, c3, c4⟩ := cell5 K3.out
  obtain ⟨d0, d1, d2, d3, d4⟩ := cell5 K6.out
  have n0 := K5.out.cell 0
  have n1 := K5.out.cell 1
  have n2 := K5.out.cell 2
  simp at n0 n1 n2
  go_wp2_with fail
  clear hw2 c0 c1 c2 c3 c4
  go_loop [51, 8] (fun i ah => (i = .int .i64 0 ∧ ah = .bool true) ∨ (i = .int .i64 1 ∧ ah = .bool true) ∨ (i = .int .i64 2 ∧ ah = .bool false)) (fun i _ => 2 - (intOf i).toNat)
  case atStart => exact .inl ⟨rfl, rfl⟩
  case round =>
    rcases hrel with ⟨rfl, rfl⟩ | ⟨rfl, rfl⟩ | ⟨rfl, rfl⟩
    · go_wp2_with fail
      go_round
      case rel => exact .inr (.inl ⟨by first | rfl | go_num, by first | rfl | go_num⟩)
      case measure => simp [intOf]
    · go_wp2_with fail
      go_round
      case rel => exact .inr (.inr ⟨by first | rfl | go_num, by first | rfl | go_num⟩)
      case measure => simp [intOf]
    · have HC := clear_two w1.heap.size 1 2 (.int .i64 A.mi) (.int .i64 A.pa) w2 n1 n2 (K5.out.free 1) (K5.out.free 2)
      simp only [show 1 + 1 = 2 from rfl] at HC
      have K8 := Lib.hid ((K5.out.set 1 (.int .i64 0)).set 2 (.int .i64 0))
      have K9 := Lib.hid ((K7.out.other (c := w1.heap.size) (by have := HZ1.out; omega) 1 (.int .i64 0)).other (c := w1.heap.size) (by have := HZ1.out; omega) 2 (.int .i64 0))
      have B3 := Lib.hid (show Below w.heap.size w ((w2.setCell ⟨w1.heap.size, 1, none⟩ (.int .i64 0)).setCell ⟨w1.heap.size, 2, none⟩ (.int .i64 0)) from (B2.out.setCell (by have := B1.out.size; simpa using this) _).setCell (by have := B1.out.size; simpa using this) _)
      generalize (w2.setCell ⟨w1.heap.size, 1, none⟩ (.int .i64 0)).setCell ⟨w1.heap.size, 2, none⟩ (.int .i64 0) = w3 at *
      clear n0 n1 n2 d0 d1 d2 d3 d4
      have e8 := K8.out
      simp only [List.setIfInBounds_toArray, List.set_cons_zero, List.set_cons_succ] at e8
      have K8 := Lib.hid e8
      clear e8
      have m0 := K8.out.cell 0
      have m1 := K8.out.cell 1
      have m2 := K8.out.cell 2
      simp at m0 m1 m2
      have f0 := K9.out.free 0
      have f1 := K9.out.free 1
      have f2 := K9.out.free 2
      have f3 := K9.out.free 3
      have f4 := K9.out.free 4
      obtain ⟨g0, g1, g2, g3, g4⟩ := cell5 K9.out
      have fr := K8.out.free 0
      have K10 := Lib.hid (K8.out.set 0 (.int .i64 (A.ma + 1)))
      have K11 := Lib.hid (K9.out.other (c := w1.heap.size) (by have := HZ1.out; omega) 0 (.int .i64 (A.ma + 1)))
      have B4 := Lib.hid (show Below w.heap.size w (w3.setCell ⟨w1.heap.size, 0, none⟩ (.int .i64 (A.ma + 1))) from B3.out.setCell (by have := B1.out.size; simpa using this) _)
      obtain ⟨w4, hw4⟩ : ∃ w4, w3.setCell ⟨w1.heap.size, 0, none⟩ (.int .i64 (A.ma + 1)) = w4 := ⟨_, rfl⟩
      rw [hw4] at K10 K11 B4
      have e10 := K10.out
      simp only [List.setIfInBounds_toArray, List.set_cons_zero, List.set_cons_succ] at e10
      have p0 := e10.cell 0
      have p1 := e10.cell 1
      have p2 := e10.cell 2
      simp at p0 p1 p2
      clear e10 g0 g1 g2 g3 g4 f0 f1 f2 f3 f4
      have f0 := K11.out.free 0
      have f1 := K11.out.free 1
      have f2 := K11.out.free 2
      have f3 := K11.out.free 3
      have f4 := K11.out.free 4
      obtain ⟨g0, g1, g2, g3, g4⟩ := cell5 K11.out
      go_wp2_with fail
      refine bodyPost_ret (v := .tuple #[.agg #[.int .i64 (A.ma + 1), .int .i64 (0), .int .i64 (0), .slice none 0 0, .slice none 0 0], .int .i64 0]) (by simp [results, Tryz.results35, go_sem, g0, g1, g2, g3, g4, f0, f1, f2, f3, f4]) rfl ⟨rfl, ?_⟩
      have hlt := HZ.out.1
      exact ((((B4.out.setCell (by simp; omega) _).setCell (by simp; omega) _).setCell (by simp; omega) _).setCell (by simp; omega) _).setCell (by simp; omega) _
set_option maxHeartbeats 16000000 in
set_option maxRecDepth 100000 in
theorem next_mcm (A : Vr) (c : Int) (ao bo : Option Addr) (ac bc : Nat) (w : World) (hA : VerC w ao bo A) (hE : Errs w) (r1 : rightB A = true) (hp : preN A = true) (hc2 : 2 ≤ c) (hc3 : c ≤ 3) (hma : A.ma ≠ 0) (hi : A.mi ≠ 0) (hm : A.ma = bigM) :
    Calls Tryz.prog 35 #[verV A ao ac bo bc, .int .i64 c] w fun e w' => e = .returned (nextRes (nextV A c)) ∧ Below w.heap.size w w' := by
  have hres := (show nextV A c = none by unfold nextV; rw [if_neg (by omega), if_neg (by omega)]; rw [if_neg (fun h => hi h.2.1)]; rw [if_pos hm])
  rw [hres]
  clear hres
  unfold nextRes
  have hk1 : (c == 1) = false := by rw [beq_eq_false_iff_ne]; omega
  have hk0 : (c != 0) = true := by rw [bne_iff_ne]; omega
  have hk2 : (c == 0) = false := by rw [beq_eq_false_iff_ne]; omega
  have hma1 : (A.ma == 0) = false := by rw [beq_eq_false_iff_ne]; exact hma
  clear hma
  have hi1 : (A.mi == 0) = false := by rw [beq_eq_false_iff_ne]; exact hi
  clear hi
  have hm1 : (A.ma == 9223372036854775807) = true := by rw [beq_iff_eq]; exact hm
  clear hm
  have hpl := hA.pl
  have hnums := hA.nums
  have hp1 : 0 < A.pre.length := by unfold preN at hp; exact of_decide_eq_true hp
  have hp2 : decide (0 < A.pre.length) = true := decide_eq_true hp1
  clear hp
  obtain ⟨wa, ha⟩ : ∃ wa, w.alloc (.cells #[.int .i64 A.ma, .int .i64 A.mi, .int .i64 A.pa, .slice ao A.pre.length ac, .slice bo A.build.length bc] 24) = wa := ⟨_, rfl⟩
  obtain ⟨wb, hb⟩ : ∃ wb, wa.alloc (.cells #[.int .i64 0, .int .i64 0, .int .i64 0, .slice none 0 0, .slice none 0 0] 24) = wb := ⟨_, rfl⟩
  obtain ⟨k1, q1, z1⟩ := box_new ha
  obtain ⟨k2, q2, z2⟩ := box_new hb
  have BW := Lib.hid (q1.trans (q2.mono q1.size))
  have HZ := Lib.hid (And.intro z1 z2)
  have K1 := Lib.hid (k1.below q2)
  have K2 := Lib.hid k2
  have HR := Lib.hid (right_any A ao bo ac bc wb (hA.below BW.out) (hE.below BW.out))
  obtain ⟨c0, c1, c2, c3, c4⟩ := cell5 K1.out
  rw [r1] at HR
  unfold verV at *
  clear hA hE k1 k2 q1 q2 r1 z1 z2
  go_enter Tryz.func35, Tryz.ntmps35
  go_wp2_with fail
  refine HR.out.mono ?_
  rintro e w1 ⟨rfl, b1⟩
  have B1 := Lib.hid (BW.out.trans (b1.mono BW.out.size))
  have HZ1 := Lib.hid (show wa.heap.size < w1.heap.size by have := HZ.out; have := b1.size; omega)
  have K3 := Lib.hid (K1.out.below b1)
  have K4 := Lib.hid (K2.out.below b1)
  clear b1 c0 c1 c2 c3 c4 ha hb K1 K2 BW HR
  obtain ⟨w2, hw2⟩ : ∃ w2, w1.alloc (.cells #[.int .i64 A.ma, .int .i64 A.mi, .int .i64 A.pa] 72) = w2 := ⟨_, rfl⟩
  obtain ⟨k5, q5, -⟩ := box_new hw2
  have B2 := Lib.hid (B1.out.trans (q5.mono B1.out.size))
  have K5 := Lib.hid k5
  have K6 := Lib.hid (K3.out.below q5)
  have K7 := Lib.hid (K4.out.below q5)
  clear k5 q5
  obtain ⟨c0, c1, c2, c3, c4⟩ := cell5 K3.out
  obtain ⟨d0, d1, d2, d3, d4⟩ := cell5 K6.out
  have n0 := K5.out.cell 0
  have n1 := K5.out.cell 1
  have n2 := K5.out.cell 2
  simp at n0 n1 n2
  go_wp2_with fail
  clear hw2 c0 c1 c2 c3 c4
  go_loop [51, 8] (fun i ah => (i = .int .i64 0 ∧ ah = .bool true) ∨ (i = .int .i64 1 ∧ ah = .bool false) ∨ (i = .int .i64 2 ∧ ah = .bool false)) (fun i _ => 2 - (intOf i).toNat)
  case atStart => exact .inl ⟨rfl, rfl⟩
  case round =>
    rcases hrel with ⟨rfl, rfl⟩ | ⟨rfl, rfl⟩ | ⟨rfl, rfl⟩
    · go_wp2_with fail
      go_round
      case rel => exact .inr (.inl ⟨by first | rfl | go_num, by first | rfl | go_num⟩)
      case measure => simp [intOf]
    · go_wp2_with fail
      go_round
      case rel => exact .inr (.inr ⟨by first | rfl | go_num, by first | rfl | go_num⟩)
      case measure => simp [intOf]
    · have HC := clear_two w1.heap.size 1 2 (.int .i64 A.mi) (.int .i64 A.pa) w2 n1 n2 (K5.out.free 1) (K5.out.free 2)
      simp only [show 1 + 1 = 2 from rfl] at HC
      have K8 := Lib.hid ((K5.out.set 1 (.int .i64 0)).set 2 (.int .i64 0))
      have K9 := Lib.hid ((K7.out.other (c := w1.heap.size) (by have := HZ1.out; omega) 1 (.int .i64 0)).other (c := w1.heap.size) (by have := HZ1.out; omega) 2 (.int .i64 0))
      have B3 := Lib.hid (show Below w.heap.size w ((w2.setCell ⟨w1.heap.size, 1, none⟩ (.int .i64 0)).setCell ⟨w1.heap.size, 2, none⟩ (.int .i64 0)) from (B2.out.setCell (by have := B1.out.size; simpa using this) _).setCell (by have := B1.out.size; simpa using this) _)
      generalize (w2.setCell ⟨w1.heap.size, 1, none⟩ (.int .i64 0)).setCell ⟨w1.heap.size, 2, none⟩ (.int .i64 0) = w3 at *
      clear n0 n1 n2 d0 d1 d2 d3 d4
      have e8 := K8.out
      simp only [List.setIfInBounds_toArray, List.set_cons_zero, List.set_cons_succ] at e8
      have K8 := Lib.hid e8
      clear e8
      have m0 := K8.out.cell 0
      have m1 := K8.out.cell 1
      have m2 := K8.out.cell 2
      simp at m0 m1 m2
      have f0 := K9.out.free 0
      have f1 := K9.out.free 1
      have f2 := K9.out.free 2
      have f3 := K9.out.free 3
      have f4 := K9.out.free 4
      obtain ⟨g0, g1, g2, g3, g4⟩ := cell5 K9.out
      go_wp2_with fail
      refine bodyPost_ret (v := .tuple #[.agg #[.int .i64 0, .int .i64 0, .int .i64 0, .slice none 0 0, .slice none 0 0], .int .i64 2]) (by simp [results, Tryz.results35, go_sem, g0, g1, g2, g3, g4, f0, f1, f2, f3, f4]) rfl ⟨rfl, ?_⟩
      have hlt := HZ.out.1
      exact ((((B3.out.setCell (by simp; omega) _).setCell (by simp; omega) _).setCell (by simp; omega) _).setCell (by simp; omega) _).setCell (by simp; omega) _
set_option maxHeartbeats 16000000 in
set_option maxRecDepth 100000 in
theorem next_mci (A : Vr) (c : Int) (ao bo : Option Addr) (ac bc : Nat) (w : World) (hA : VerC w ao bo A) (hE : Errs w) (r1 : rightB A = true) (hp : preN A = true) (hc2 : 2 ≤ c) (hc3 : c ≤ 3) (hma : A.ma ≠ 0) (hi : A.mi ≠ 0) (hm : A.ma ≠ bigM) :
    Calls Tryz.prog 35 #[verV A ao ac bo bc, .int .i64 c] w fun e w' => e = .returned (nextRes (nextV A c)) ∧ Below w.heap.size w w' := by
  have hres := (show nextV A c = some ⟨A.ma + 1, 0, 0, [], []⟩ by unfold nextV; rw [if_neg (by omega), if_neg (by omega)]; rw [if_neg (fun h => hi h.2.1)]; rw [if_neg hm])
  rw [hres]
  clear hres
  unfold nextRes
  have hk1 : (c == 1) = false := by rw [beq_eq_false_iff_ne]; omega
  have hk0 : (c != 0) = true := by rw [bne_iff_ne]; omega
  have hk2 : (c == 0) = false := by rw [beq_eq_false_iff_ne]; omega
  have hma1 : (A.ma == 0) = false := by rw [beq_eq_false_iff_ne]; exact hma
  clear hma
  have hi1 : (A.mi == 0) = false := by rw [beq_eq_false_iff_ne]; exact hi
  clear hi
  have hm0 : A.ma ≠ 9223372036854775807 := hm
  have hm1 : (A.ma == 9223372036854775807) = false := by rw [beq_eq_false_iff_ne]; exact hm0
  have hm2 : A.ma + 1 ≤ 9223372036854775807 := by have := hA.nums; omega
  clear hm hm0
  have hpl := hA.pl
  have hnums := hA.nums
  have hp1 : 0 < A.pre.length := by unfold preN at hp; exact of_decide_eq_true hp
  have hp2 : decide (0 < A.pre.length) = true := decide_eq_true hp1
  clear hp
  obtain ⟨wa, ha⟩ : ∃ wa, w.alloc (.cells #[.int .i64 A.ma, .int .i64 A.mi, .int .i64 A.pa, .slice ao A.pre.length ac, .slice bo A.build.length bc] 24) = wa := ⟨_, rfl⟩
  obtain ⟨wb, hb⟩ : ∃ wb, wa.alloc (.cells #[.int .i64 0, .int .i64 0, .int .i64 0, .slice none 0 0, .slice none 0 0] 24) = wb := ⟨_, rfl⟩
  obtain ⟨k1, q1, z1⟩ := box_new ha
  obtain ⟨k2, q2, z2⟩ := box_new hb
  have BW := Lib.hid (q1.trans (q2.mono q1.size))
  have HZ := Lib.hid (And.intro z1 z2)
  have K1 := Lib.hid (k1.below q2)
  have K2 := Lib.hid k2
  have HR := Lib.hid (right_any A ao bo ac bc wb (hA.below BW.out) (hE.below BW.out))
  obtain ⟨c0, c1, c2, c3, c4⟩ := cell5 K1.out
  rw [r1] at HR
  unfold verV at *
  clear hA hE k1 k2 q1 q2 r1 z1 z2
  go_enter Tryz.func35, Tryz.ntmps35
  go_wp2_with fail
  refine HR.out.mono ?_
  rintro e w1 ⟨rfl, b1⟩
  have B1 := Lib.hid (BW.out.trans (b1.mono BW.out.size))
  have HZ1 := Lib.hid (show wa.heap.size < w1.heap.size by have := HZ.out; have := b1.size; omega)
  have K3 := Lib.hid (K1.out.below b1)
  have K4 := Lib.hid (K2.out.below b1)
  clear b1 c0 c1 c2 c3 c4 ha hb K1 K2 BW HR
  obtain ⟨w2, hw2⟩ : ∃ w2, w1.alloc (.cells #[.int .i64 A.ma, .int .i64 A.mi, .int .i64 A.pa] 72) = w2 := ⟨_, rfl⟩
  obtain ⟨k5, q5, -⟩ := box_new hw2
  have B2 := Lib.hid (B1.out.trans (q5.mono B1.out.size))
  have K5 := Lib.hid k5
  have K6 := Lib.hid (K3.out.below q5)
  have K7 := Lib.hid (K4.out.below q5)
  clear k5 q5
  obtain ⟨c0, c1, c2, c3, c4⟩ := cell5 K3.out
  obtain ⟨d0, d1, d2, d3, d4⟩ := cell5 K6.out
  have n0 := K5.out.cell 0
  have n1 := K5.out.cell 1
  have n2 := K5.out.cell 2
  simp at n0 n1 n2
  go_wp2_with fail
  clear hw2 c0 c1 c2 c3 c4
  go_loop [51, 8] (fun i ah => (i = .int .i64 0 ∧ ah = .bool true) ∨ (i = .int .i64 1 ∧ ah = .bool false) ∨ (i = .int .i64 2 ∧ ah = .bool false)) (fun i _ => 2 - (intOf i).toNat)
  case atStart => exact .inl ⟨rfl, rfl⟩
  case round =>
    rcases hrel with ⟨rfl, rfl⟩ | ⟨rfl, rfl⟩ | ⟨rfl, rfl⟩
    · go_wp2_with fail
      go_round
      case rel => exact .inr (.inl ⟨by first | rfl | go_num, by first | rfl | go_num⟩)
      case measure => simp [intOf]
    · go_wp2_with fail
      go_round
      case rel => exact .inr (.inr ⟨by first | rfl | go_num, by first | rfl | go_num⟩)
      case measure => simp [intOf]
    · have HC := clear_two w1.heap.size 1 2 (.int .i64 A.mi) (.int .i64 A.pa) w2 n1 n2 (K5.out.free 1) (K5.out.free 2)
      simp only [show 1 + 1 = 2 from rfl] at HC
      have K8 := Lib.hid ((K5.out.set 1 (.int .i64 0)).set 2 (.int .i64 0))
      have K9 := Lib.hid ((K7.out.other (c := w1.heap.size) (by have := HZ1.out; omega) 1 (.int .i64 0)).other (c := w1.heap.size) (by have := HZ1.out; omega) 2 (.int .i64 0))
      have B3 := Lib.hid (show Below w.heap.size w ((w2.setCell ⟨w1.heap.size, 1, none⟩ (.int .i64 0)).setCell ⟨w1.heap.size, 2, none⟩ (.int .i64 0)) from (B2.out.setCell (by have := B1.out.size; simpa using this) _).setCell (by have := B1.out.size; simpa using this) _)
      generalize (w2.setCell ⟨w1.heap.size, 1, none⟩ (.int .i64 0)).setCell ⟨w1.heap.size, 2, none⟩ (.int .i64 0) = w3 at *
      clear n0 n1 n2 d0 d1 d2 d3 d4
      have e8 := K8.out
      simp only [List.setIfInBounds_toArray, List.set_cons_zero, List.set_cons_succ] at e8
      have K8 := Lib.hid e8
      clear e8
      have m0 := K8.out.cell 0
      have m1 := K8.out.cell 1
      have m2 := K8.out.cell 2
      simp at m0 m1 m2
      have f0 := K9.out.free 0
      have f1 := K9.out.free 1
      have f2 := K9.out.free 2
      have f3 := K9.out.free 3
      have f4 := K9.out.free 4
      obtain ⟨g0, g1, g2, g3, g4⟩ := cell5 K9.out
      have fr := K8.out.free 0
      have K10 := Lib.hid (K8.out.set 0 (.int .i64 (A.ma + 1)))
      have K11 := Lib.hid (K9.out.other (c := w1.heap.size) (by have := HZ1.out; omega) 0 (.int .i64 (A.ma + 1)))
      have B4 := Lib.hid (show Below w.heap.size w (w3.setCell ⟨w1.heap.size, 0, none⟩ (.int .i64 (A.ma + 1))) from B3.out.setCell (by have := B1.out.size; simpa using this) _)
      obtain ⟨w4, hw4⟩ : ∃ w4, w3.setCell ⟨w1.heap.size, 0, none⟩ (.int .i64 (A.ma + 1)) = w4 := ⟨_, rfl⟩
      rw [hw4] at K10 K11 B4
      have e10 := K10.out
      simp only [List.setIfInBounds_toArray, List.set_cons_zero, List.set_cons_succ] at e10
      have p0 := e10.cell 0
      have p1 := e10.cell 1
      have p2 := e10.cell 2
      simp at p0 p1 p2
      clear e10 g0 g1 g2 g3 g4 f0 f1 f2 f3 f4
      have f0 := K11.out.free 0
      have f1 := K11.out.free 1
      have f2 := K11.out.free 2
      have f3 := K11.out.free 3
      have f4 := K11.out.free 4
      obtain ⟨g0, g1, g2, g3, g4⟩ := cell5 K11.out
      go_wp2_with fail
      refine bodyPost_ret (v := .tuple #[.agg #[.int .i64 (A.ma + 1), .int .i64 (0), .int .i64 (0), .slice none 0 0, .slice none 0 0], .int .i64 0]) (by simp [results, Tryz.results35, go_sem, g0, g1, g2, g3, g4, f0, f1, f2, f3, f4]) rfl ⟨rfl, ?_⟩
      have hlt := HZ.out.1
      exact ((((B4.out.setCell (by simp; omega) _).setCell (by simp; omega) _).setCell (by simp; omega) _).setCell (by simp; omega) _).setCell (by simp; omega) _
set_option maxHeartbeats 16000000 in
set_option maxRecDepth 100000 in
theorem next_mnm (A : Vr) (c : Int) (ao bo : Option Addr) (ac bc : Nat) (w : World) (hA : VerC w ao bo A) (hE : Errs w) (r1 : rightB A = true) (hp : preN A = false) (hc2 : 2 ≤ c) (hc3 : c ≤ 3) (hma : A.ma ≠ 0) (hm : A.ma = bigM) :
    Calls Tryz.prog 35 #[verV A ao ac bo bc, .int .i64 c] w fun e w' => e = .returned (nextRes (nextV A c)) ∧ Below w.heap.size w w' := by
  have hres := (show nextV A c = none by unfold nextV; rw [if_neg (by omega), if_neg (by omega)]; rw [if_neg (fun h => by rw [hp] at h; exact absurd h.1 (by decide))]; rw [if_pos hm])
  rw [hres]
  clear hres
  unfold nextRes
  have hk1 : (c == 1) = false := by rw [beq_eq_false_iff_ne]; omega
  have hk0 : (c != 0) = true := by rw [bne_iff_ne]; omega
  have hk2 : (c == 0) = false := by rw [beq_eq_false_iff_ne]; omega
  have hma1 : (A.ma == 0) = false := by rw [beq_eq_false_iff_ne]; exact hma
  clear hma
  have hm1 : (A.ma == 9223372036854775807) = true := by rw [beq_iff_eq]; exact hm
  clear hm
  have hpl := hA.pl
  have hnums := hA.nums
  have hp1 : ¬ 0 < A.pre.length := by unfold preN at hp; exact of_decide_eq_false hp
  have hp2 : decide (0 < A.pre.length) = false := decide_eq_false hp1
  clear hp
  obtain ⟨wa, ha⟩ : ∃ wa, w.alloc (.cells #[.int .i64 A.ma, .int .i64 A.mi, .int .i64 A.pa, .slice ao A.pre.length ac, .slice bo A.build.length bc] 24) = wa := ⟨_, rfl⟩
  obtain ⟨wb, hb⟩ : ∃ wb, wa.alloc (.cells #[.int .i64 0, .int .i64 0, .int .i64 0, .slice none 0 0, .slice none 0 0] 24) = wb := ⟨_, rfl⟩
  obtain ⟨k1, q1, z1⟩ := box_new ha
  obtain ⟨k2, q2, z2⟩ := box_new hb
  have BW := Lib.hid (q1.trans (q2.mono q1.size))
  have HZ := Lib.hid (And.intro z1 z2)
  have K1 := Lib.hid (k1.below q2)
  have K2 := Lib.hid k2
  have HR := Lib.hid (right_any A ao bo ac bc wb (hA.below BW.out) (hE.below BW.out))
  obtain ⟨c0, c1, c2, c3, c4⟩ := cell5 K1.out
  rw [r1] at HR
  unfold verV at *
  clear hA hE k1 k2 q1 q2 r1 z1 z2
  go_enter Tryz.func35, Tryz.ntmps35
  go_wp2_with fail
  refine HR.out.mono ?_
  rintro e w1 ⟨rfl, b1⟩
  have B1 := Lib.hid (BW.out.trans (b1.mono BW.out.size))
  have HZ1 := Lib.hid (show wa.heap.size < w1.heap.size by have := HZ.out; have := b1.size; omega)
  have K3 := Lib.hid (K1.out.below b1)
  have K4 := Lib.hid (K2.out.below b1)
  clear b1 c0 c1 c2 c3 c4 ha hb K1 K2 BW HR
  obtain ⟨w2, hw2⟩ : ∃ w2, w1.alloc (.cells #[.int .i64 A.ma, .int .i64 A.mi, .int .i64 A.pa] 72) = w2 := ⟨_, rfl⟩
  obtain ⟨k5, q5, -⟩ := box_new hw2
  have B2 := Lib.hid (B1.out.trans (q5.mono B1.out.size))
  have K5 := Lib.hid k5
  have K6 := Lib.hid (K3.out.below q5)
  have K7 := Lib.hid (K4.out.below q5)
  clear k5 q5
  obtain ⟨c0, c1, c2, c3, c4⟩ := cell5 K3.out
  obtain ⟨d0, d1, d2, d3, d4⟩ := cell5 K6.out
  have n0 := K5.out.cell 0
  have n1 := K5.out.cell 1
  have n2 := K5.out.cell 2
  simp at n0 n1 n2
  go_wp2_with fail
  clear hw2 c0 c1 c2 c3 c4
  go_loop [51, 8] (fun i ah => (i = .int .i64 0 ∧ ah = .bool false) ∨ (i = .int .i64 1 ∧ ah = .bool false) ∨ (i = .int .i64 2 ∧ ah = .bool false)) (fun i _ => 2 - (intOf i).toNat)
  case atStart => exact .inl ⟨rfl, rfl⟩
  case round =>
    rcases hrel with ⟨rfl, rfl⟩ | ⟨rfl, rfl⟩ | ⟨rfl, rfl⟩
    · go_wp2_with fail
      go_round
      case rel => exact .inr (.inl ⟨by first | rfl | go_num, by first | rfl | go_num⟩)
      case measure => simp [intOf]
    · go_wp2_with fail
      go_round
      case rel => exact .inr (.inr ⟨by first | rfl | go_num, by first | rfl | go_num⟩)
      case measure => simp [intOf]
    · have HC := clear_two w1.heap.size 1 2 (.int .i64 A.mi) (.int .i64 A.pa) w2 n1 n2 (K5.out.free 1) (K5.out.free 2)
      simp only [show 1 + 1 = 2 from rfl] at HC
      have K8 := Lib.hid ((K5.out.set 1 (.int .i64 0)).set 2 (.int .i64 0))
      have K9 := Lib.hid ((K7.out.other (c := w1.heap.size) (by have := HZ1.out; omega) 1 (.int .i64 0)).other (c := w1.heap.size) (by have := HZ1.out; omega) 2 (.int .i64 0))
      have B3 := Lib.hid (show Below w.heap.size w ((w2.setCell ⟨w1.heap.size, 1, none⟩ (.int .i64 0)).setCell ⟨w1.heap.size, 2, none⟩ (.int .i64 0)) from (B2.out.setCell (by have := B1.out.size; simpa using this) _).setCell (by have := B1.out.size; simpa using this) _)
      generalize (w2.setCell ⟨w1.heap.size, 1, none⟩ (.int .i64 0)).setCell ⟨w1.heap.size, 2, none⟩ (.int .i64 0) = w3 at *
      clear n0 n1 n2 d0 d1 d2 d3 d4
      have e8 := K8.out
      simp only [List.setIfInBounds_toArray, List.set_cons_zero, List.set_cons_succ] at e8
      have K8 := Lib.hid e8
      clear e8
      have m0 := K8.out.cell 0
      have m1 := K8.out.cell 1
      have m2 := K8.out.cell 2
      simp at m0 m1 m2
      have f0 := K9.out.free 0
      have f1 := K9.out.free 1
      have f2 := K9.out.free 2
      have f3 := K9.out.free 3
      have f4 := K9.out.free 4
      obtain ⟨g0, g1, g2, g3, g4⟩ := cell5 K9.out
      go_wp2_with fail
      refine bodyPost_ret (v := .tuple #[.agg #[.int .i64 0, .int .i64 0, .int .i64 0, .slice none 0 0, .slice none 0 0], .int .i64 2]) (by simp [results, Tryz.results35, go_sem, g0, g1, g2, g3, g4, f0, f1, f2, f3, f4]) rfl ⟨rfl, ?_⟩
      have hlt := HZ.out.1
      exact ((((B3.out.setCell (by simp; omega) _).setCell (by simp; omega) _).setCell (by simp; omega) _).setCell (by simp; omega) _).setCell (by simp; omega) _
set_option maxHeartbeats 16000000 in
set_option maxRecDepth 100000 in
theorem next_mni (A : Vr) (c : Int) (ao bo : Option Addr) (ac bc : Nat) (w : World) (hA : VerC w ao bo A) (hE : Errs w) (r1 : rightB A = true) (hp : preN A = false) (hc2 : 2 ≤ c) (hc3 : c ≤ 3) (hma : A.ma ≠ 0) (hm : A.ma ≠ bigM) :
    Calls Tryz.prog 35 #[verV A ao ac bo bc, .int .i64 c] w fun e w' => e = .returned (nextRes (nextV A c)) ∧ Below w.heap.size w w' := by
  have hres := (show nextV A c = some ⟨A.ma + 1, 0, 0, [], []⟩ by unfold nextV; rw [if_neg (by omega), if_neg (by omega)]; rw [if_neg (fun h => by rw [hp] at h; exact absurd h.1 (by decide))]; rw [if_neg hm])
  rw [hres]
  clear hres
  unfold nextRes
  have hk1 : (c == 1) = false := by rw [beq_eq_false_iff_ne]; omega
  have hk0 : (c != 0) = true := by rw [bne_iff_ne]; omega
  have hk2 : (c == 0) = false := by rw [beq_eq_false_iff_ne]; omega
  have hma1 : (A.ma == 0) = false := by rw [beq_eq_false_iff_ne]; exact hma
  clear hma
  have hm0 : A.ma ≠ 9223372036854775807 := hm
  have hm1 : (A.ma == 9223372036854775807) = false := by rw [beq_eq_false_iff_ne]; exact hm0
  have hm2 : A.ma + 1 ≤ 9223372036854775807 := by have := hA.nums; omega
  clear hm hm0
  have hpl := hA.pl
  have hnums := hA.nums
  have hp1 : ¬ 0 < A.pre.length := by unfold preN at hp; exact of_decide_eq_false hp
  have hp2 : decide (0 < A.pre.length) = false := decide_eq_false hp1
  clear hp
  obtain ⟨wa, ha⟩ : ∃ wa, w.alloc (.cells #[.int .i64 A.ma, .int .i64 A.mi, .int .i64 A.pa, .slice ao A.pre.length ac, .slice bo A.build.length bc] 24) = wa := ⟨_, rfl⟩
  obtain ⟨wb, hb⟩ : ∃ wb, wa.alloc (.cells #[.int .i64 0, .int .i64 0, .int .i64 0, .slice none 0 0, .slice none 0 0] 24) = wb := ⟨_, rfl⟩
  obtain ⟨k1, q1, z1⟩ := box_new ha
  obtain ⟨k2, q2, z2⟩ := box_new hb
  have BW := Lib.hid (q1.trans (q2.mono q1.size))
  have HZ := Lib.hid (And.intro z1 z2)
  have K1 := Lib.hid (k1.below q2)
  have K2 := Lib.hid k2
  have HR := Lib.hid (right_any A ao bo ac bc wb (hA.below BW.out) (hE.below BW.out))
  obtain ⟨c0, c1, c2, c3, c4⟩ := cell5 K1.out
  rw [r1] at HR
  unfold verV at *
  clear hA hE k1 k2 q1 q2 r1 z1 z2
  go_enter Tryz.func35, Tryz.ntmps35
  go_wp2_with fail
  refine HR.out.mono ?_
  rintro e w1 ⟨rfl, b1⟩
  have B1 := Lib.hid (BW.out.trans (b1.mono BW.out.size))
  have HZ1 := Lib.hid (show wa.heap.size < w1.heap.size by have := HZ.out; have := b1.size; omega)
  have K3 := Lib.hid (K1.out.below b1)
  have K4 := Lib.hid (K2.out.below b1)
  clear b1 c0 c1 c2 c3 c4 ha hb K1 K2 BW HR
  obtain ⟨w2, hw2⟩ : ∃ w2, w1.alloc (.cells #[.int .i64 A.ma, .int .i64 A.mi, .int .i64 A.pa] 72) = w2 := ⟨_, rfl⟩
  obtain ⟨k5, q5, -⟩ := box_new hw2
  have B2 := Lib.hid (B1.out.trans (q5.mono B1.out.size))
  have K5 := Lib.hid k5
  have K6 := Lib.hid (K3.out.below q5)
  have K7 := Lib.hid (K4.out.below q5)
  clear k5 q5
  obtain ⟨c0, c1, c2, c3, c4⟩ := cell5 K3.out
  obtain ⟨d0, d1, d2, d3, d4⟩ := cell5 K6.out
  have n0 := K5.out.cell 0
  have n1 := K5.out.cell 1
  have n2 := K5.out.cell 2
  simp at n0 n1 n2
  go_wp2_with fail
  clear hw2 c0 c1 c2 c3 c4
  go_loop [51, 8] (fun i ah => (i = .int .i64 0 ∧ ah = .bool false) ∨ (i = .int .i64 1 ∧ ah = .bool false) ∨ (i = .int .i64 2 ∧ ah = .bool false)) (fun i _ => 2 - (intOf i).toNat)
  case atStart => exact .inl ⟨rfl, rfl⟩
  case round =>
    rcases hrel with ⟨rfl, rfl⟩ | ⟨rfl, rfl⟩ | ⟨rfl, rfl⟩
    · go_wp2_with fail
      go_round
      case rel => exact .inr (.inl ⟨by first | rfl | go_num, by first | rfl | go_num⟩)
      case measure => simp [intOf]
    · go_wp2_with fail
      go_round
      case rel => exact .inr (.inr ⟨by first | rfl | go_num, by first | rfl | go_num⟩)
      case measure => simp [intOf]
    · have HC := clear_two w1.heap.size 1 2 (.int .i64 A.mi) (.int .i64 A.pa) w2 n1 n2 (K5.out.free 1) (K5.out.free 2)
      simp only [show 1 + 1 = 2 from rfl] at HC
      have K8 := Lib.hid ((K5.out.set 1 (.int .i64 0)).set 2 (.int .i64 0))
      have K9 := Lib.hid ((K7.out.other (c := w1.heap.size) (by have := HZ1.out; omega) 1 (.int .i64 0)).other (c := w1.heap.size) (by have := HZ1.out; omega) 2 (.int .i64 0))
      have B3 := Lib.hid (show Below w.heap.size w ((w2.setCell ⟨w1.heap.size, 1, none⟩ (.int .i64 0)).setCell ⟨w1.heap.size, 2, none⟩ (.int .i64 0)) from (B2.out.setCell (by have := B1.out.size; simpa using this) _).setCell (by have := B1.out.size; simpa using this) _)
      generalize (w2.setCell ⟨w1.heap.size, 1, none⟩ (.int .i64 0)).setCell ⟨w1.heap.size, 2, none⟩ (.int .i64 0) = w3 at *
      clear n0 n1 n2 d0 d1 d2 d3 d4
      have e8 := K8.out
      simp only [List.setIfInBounds_toArray, List.set_cons_zero, List.set_cons_succ] at e8
      have K8 := Lib.hid e8
      clear e8
      have m0 := K8.out.cell 0
      have m1 := K8.out.cell 1
      have m2 := K8.out.cell 2
      simp at m0 m1 m2
      have f0 := K9.out.free 0
      have f1 := K9.out.free 1
      have f2 := K9.out.free 2
      have f3 := K9.out.free 3
      have f4 := K9.out.free 4
      obtain ⟨g0, g1, g2, g3, g4⟩ := cell5 K9.out
      have fr := K8.out.free 0
      have K10 := Lib.hid (K8.out.set 0 (.int .i64 (A.ma + 1)))
      have K11 := Lib.hid (K9.out.other (c := w1.heap.size) (by have := HZ1.out; omega) 0 (.int .i64 (A.ma + 1)))
      have B4 := Lib.hid (show Below w.heap.size w (w3.setCell ⟨w1.heap.size, 0, none⟩ (.int .i64 (A.ma + 1))) from B3.out.setCell (by have := B1.out.size; simpa using this) _)
      obtain ⟨w4, hw4⟩ : ∃ w4, w3.setCell ⟨w1.heap.size, 0, none⟩ (.int .i64 (A.ma + 1)) = w4 := ⟨_, rfl⟩
      rw [hw4] at K10 K11 B4
      have e10 := K10.out
      simp only [List.setIfInBounds_toArray, List.set_cons_zero, List.set_cons_succ] at e10
      have p0 := e10.cell 0
      have p1 := e10.cell 1
      have p2 := e10.cell 2
      simp at p0 p1 p2
      clear e10 g0 g1 g2 g3 g4 f0 f1 f2 f3 f4
      have f0 := K11.out.free 0
      have f1 := K11.out.free 1
      have f2 := K11.out.free 2
      have f3 := K11.out.free 3
      have f4 := K11.out.free 4
      obtain ⟨g0, g1, g2, g3, g4⟩ := cell5 K11.out
      go_wp2_with fail
      refine bodyPost_ret (v := .tuple #[.agg #[.int .i64 (A.ma + 1), .int .i64 (0), .int .i64 (0), .slice none 0 0, .slice none 0 0], .int .i64 0]) (by simp [results, Tryz.results35, go_sem, g0, g1, g2, g3, g4, f0, f1, f2, f3, f4]) rfl ⟨rfl, ?_⟩
      have hlt := HZ.out.1
      exact ((((B4.out.setCell (by simp; omega) _).setCell (by simp; omega) _).setCell (by simp; omega) _).setCell (by simp; omega) _).setCell (by simp; omega) _
end Go.Proofs.YtbdhmelebedpiaaGreatDoor
