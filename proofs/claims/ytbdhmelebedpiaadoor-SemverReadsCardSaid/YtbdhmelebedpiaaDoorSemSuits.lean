/- The reference's suits. -/
import Derived.Test.YtbdhmelebedpiaaDoorSemLike
import Derived.Test.YtbdhmelebedpiaaDoorSemNextAny
namespace Go.Proofs.YtbdhmelebedpiaaDoor
open Go.RowKit
set_option linter.unusedSimpArgs false
set_option linter.unusedVariables false

theorem right_ok {V : Vr} (h : rightB V = true) : ∀ s ∈ V.pre, okPre s = true := by
  unfold rightB at h
  simp only [Bool.and_eq_true] at h
  exact List.all_eq_true.1 h.1.2
set_option maxHeartbeats 8000000 in
set_option maxRecDepth 100000 in
theorem suits_le (A V : Vr) (c : Int) (po bo : Option Addr) (pc bc : Nat) (w : World) (hA : VerC w none none A) (hp : A.pre = []) (hq : A.build = []) (hV : VerC w po bo V) (hr : rightB V = true) (h1 : cmpV A V ≤ 0) :
    Calls Tryd.prog 34 #[verV A none 0 none 0, verV V po pc bo bc, .int .i64 c] w fun e w' => e = .returned (.bool false) ∧ Below w.heap.size w w' := by
  have HC := fun w' (h : Below w.heap.size w w') => Lib.hid (refcmp_any A V none none po bo 0 0 pc bc w' (hA.below h) (hV.below h) (by rw [hp]; simp) (right_ok hr))
  obtain ⟨am, ai, ap, aq, ab⟩ := A
  simp only at hp hq
  subst hp
  subst hq
  obtain ⟨wa, ha⟩ : ∃ wa, w.alloc (.cells #[.int .i64 am, .int .i64 ai, .int .i64 ap, .slice none 0 0, .slice none 0 0] 24) = wa := ⟨_, rfl⟩
  obtain ⟨wb, hb⟩ : ∃ wb, wa.alloc (.cells #[.int .i64 V.ma, .int .i64 V.mi, .int .i64 V.pa, .slice po V.pre.length pc, .slice bo V.build.length bc] 24) = wb := ⟨_, rfl⟩
  obtain ⟨k1, q1, -⟩ := box_new ha
  obtain ⟨k2, q2, -⟩ := box_new hb
  have BW := Lib.hid (q1.trans (q2.mono q1.size))
  have K1 := Lib.hid (k1.below q2)
  have K2 := Lib.hid k2
  have M0 := (HC wb BW.out).out
  obtain ⟨x, hx⟩ : ∃ x, cmpV ⟨am, ai, ap, [], []⟩ V = x := ⟨_, rfl⟩
  rw [hx] at M0 h1
  unfold verV at *
  simp only [List.length_nil] at *
  have M := Lib.hid M0
  obtain ⟨c0, c1, c2, c3, c4⟩ := cell5 K1.out
  obtain ⟨d0, d1, d2, d3, d4⟩ := cell5 K2.out
  have gx : decide (x ≤ 0) = true := decide_eq_true h1
  clear h1
  clear hA hV k1 k2 q1 q2 HC M0 hr hx
  go_enter Tryd.func34, Tryd.ntmps34
  go_wp2_with fail
  refine M.out.mono ?_
  rintro e w1 ⟨rfl, bb⟩
  have B1 := Lib.hid (BW.out.trans (bb.mono BW.out.size))
  have K3 := Lib.hid (K1.out.below bb)
  have K4 := Lib.hid (K2.out.below bb)
  clear bb ha hb c0 c1 c2 c3 c4 d0 d1 d2 d3 d4
  obtain ⟨c0, c1, c2, c3, c4⟩ := cell5 K3.out
  obtain ⟨d0, d1, d2, d3, d4⟩ := cell5 K4.out
  go_wp2_with fail
  go_ret
  exact ⟨rfl, B1.out⟩
set_option maxHeartbeats 8000000 in
set_option maxRecDepth 100000 in
theorem suits_pa (A V : Vr) (c : Int) (po bo : Option Addr) (pc bc : Nat) (w : World) (hA : VerC w none none A) (hp : A.pre = []) (hq : A.build = []) (hV : VerC w po bo V) (hr : rightB V = true) (h1 : ¬ cmpV A V ≤ 0) (h2 : 0 < c) (h3 : A.pa ≠ 0) :
    Calls Tryd.prog 34 #[verV A none 0 none 0, verV V po pc bo bc, .int .i64 c] w fun e w' => e = .returned (.bool false) ∧ Below w.heap.size w w' := by
  have HC := fun w' (h : Below w.heap.size w w') => Lib.hid (refcmp_any A V none none po bo 0 0 pc bc w' (hA.below h) (hV.below h) (by rw [hp]; simp) (right_ok hr))
  obtain ⟨am, ai, ap, aq, ab⟩ := A
  simp only at hp hq
  subst hp
  subst hq
  obtain ⟨wa, ha⟩ : ∃ wa, w.alloc (.cells #[.int .i64 am, .int .i64 ai, .int .i64 ap, .slice none 0 0, .slice none 0 0] 24) = wa := ⟨_, rfl⟩
  obtain ⟨wb, hb⟩ : ∃ wb, wa.alloc (.cells #[.int .i64 V.ma, .int .i64 V.mi, .int .i64 V.pa, .slice po V.pre.length pc, .slice bo V.build.length bc] 24) = wb := ⟨_, rfl⟩
  obtain ⟨k1, q1, -⟩ := box_new ha
  obtain ⟨k2, q2, -⟩ := box_new hb
  have BW := Lib.hid (q1.trans (q2.mono q1.size))
  have K1 := Lib.hid (k1.below q2)
  have K2 := Lib.hid k2
  have M0 := (HC wb BW.out).out
  obtain ⟨x, hx⟩ : ∃ x, cmpV ⟨am, ai, ap, [], []⟩ V = x := ⟨_, rfl⟩
  rw [hx] at M0 h1
  unfold verV at *
  simp only [List.length_nil] at *
  have M := Lib.hid M0
  obtain ⟨c0, c1, c2, c3, c4⟩ := cell5 K1.out
  obtain ⟨d0, d1, d2, d3, d4⟩ := cell5 K2.out
  have gx : decide (x ≤ 0) = false := decide_eq_false h1
  clear h1
  have g3 : (ap != 0) = true := by rw [bne_iff_ne]; exact h3
  clear h3
  clear hA hV k1 k2 q1 q2 HC M0 hr hx
  go_enter Tryd.func34, Tryd.ntmps34
  go_wp2_with fail
  refine M.out.mono ?_
  rintro e w1 ⟨rfl, bb⟩
  have B1 := Lib.hid (BW.out.trans (bb.mono BW.out.size))
  have K3 := Lib.hid (K1.out.below bb)
  have K4 := Lib.hid (K2.out.below bb)
  clear bb ha hb c0 c1 c2 c3 c4 d0 d1 d2 d3 d4
  obtain ⟨c0, c1, c2, c3, c4⟩ := cell5 K3.out
  obtain ⟨d0, d1, d2, d3, d4⟩ := cell5 K4.out
  go_wp2_with fail
  go_ret
  exact ⟨rfl, B1.out⟩
set_option maxHeartbeats 8000000 in
set_option maxRecDepth 100000 in
theorem suits_zero (A V : Vr) (c : Int) (po bo : Option Addr) (pc bc : Nat) (w : World) (hA : VerC w none none A) (hp : A.pre = []) (hq : A.build = []) (hV : VerC w po bo V) (hr : rightB V = true) (h1 : ¬ cmpV A V ≤ 0) (h2 : c = 0) :
    Calls Tryd.prog 34 #[verV A none 0 none 0, verV V po pc bo bc, .int .i64 c] w fun e w' => e = .returned (.bool true) ∧ Below w.heap.size w w' := by
  have HC := fun w' (h : Below w.heap.size w w') => Lib.hid (refcmp_any A V none none po bo 0 0 pc bc w' (hA.below h) (hV.below h) (by rw [hp]; simp) (right_ok hr))
  obtain ⟨am, ai, ap, aq, ab⟩ := A
  simp only at hp hq
  subst hp
  subst hq
  obtain ⟨wa, ha⟩ : ∃ wa, w.alloc (.cells #[.int .i64 am, .int .i64 ai, .int .i64 ap, .slice none 0 0, .slice none 0 0] 24) = wa := ⟨_, rfl⟩
  obtain ⟨wb, hb⟩ : ∃ wb, wa.alloc (.cells #[.int .i64 V.ma, .int .i64 V.mi, .int .i64 V.pa, .slice po V.pre.length pc, .slice bo V.build.length bc] 24) = wb := ⟨_, rfl⟩
  obtain ⟨k1, q1, -⟩ := box_new ha
  obtain ⟨k2, q2, -⟩ := box_new hb
  have BW := Lib.hid (q1.trans (q2.mono q1.size))
  have K1 := Lib.hid (k1.below q2)
  have K2 := Lib.hid k2
  have M0 := (HC wb BW.out).out
  obtain ⟨x, hx⟩ : ∃ x, cmpV ⟨am, ai, ap, [], []⟩ V = x := ⟨_, rfl⟩
  rw [hx] at M0 h1
  unfold verV at *
  simp only [List.length_nil] at *
  have M := Lib.hid M0
  obtain ⟨c0, c1, c2, c3, c4⟩ := cell5 K1.out
  obtain ⟨d0, d1, d2, d3, d4⟩ := cell5 K2.out
  have gx : decide (x ≤ 0) = false := decide_eq_false h1
  clear h1
  subst h2
  clear hA hV k1 k2 q1 q2 HC M0 hr hx
  go_enter Tryd.func34, Tryd.ntmps34
  go_wp2_with fail
  refine M.out.mono ?_
  rintro e w1 ⟨rfl, bb⟩
  have B1 := Lib.hid (BW.out.trans (bb.mono BW.out.size))
  have K3 := Lib.hid (K1.out.below bb)
  have K4 := Lib.hid (K2.out.below bb)
  clear bb ha hb c0 c1 c2 c3 c4 d0 d1 d2 d3 d4
  obtain ⟨c0, c1, c2, c3, c4⟩ := cell5 K3.out
  obtain ⟨d0, d1, d2, d3, d4⟩ := cell5 K4.out
  go_wp2_with fail
  go_ret
  exact ⟨rfl, B1.out⟩
set_option maxHeartbeats 8000000 in
set_option maxRecDepth 100000 in
theorem suits_one (A V : Vr) (c : Int) (po bo : Option Addr) (pc bc : Nat) (w : World) (hA : VerC w none none A) (hp : A.pre = []) (hq : A.build = []) (hV : VerC w po bo V) (hr : rightB V = true) (h1 : ¬ cmpV A V ≤ 0) (h2 : c = 1) (h3 : A.pa = 0) :
    Calls Tryd.prog 34 #[verV A none 0 none 0, verV V po pc bo bc, .int .i64 c] w fun e w' => e = .returned (.bool true) ∧ Below w.heap.size w w' := by
  have HC := fun w' (h : Below w.heap.size w w') => Lib.hid (refcmp_any A V none none po bo 0 0 pc bc w' (hA.below h) (hV.below h) (by rw [hp]; simp) (right_ok hr))
  obtain ⟨am, ai, ap, aq, ab⟩ := A
  simp only at hp hq
  subst hp
  subst hq
  obtain ⟨wa, ha⟩ : ∃ wa, w.alloc (.cells #[.int .i64 am, .int .i64 ai, .int .i64 ap, .slice none 0 0, .slice none 0 0] 24) = wa := ⟨_, rfl⟩
  obtain ⟨wb, hb⟩ : ∃ wb, wa.alloc (.cells #[.int .i64 V.ma, .int .i64 V.mi, .int .i64 V.pa, .slice po V.pre.length pc, .slice bo V.build.length bc] 24) = wb := ⟨_, rfl⟩
  obtain ⟨k1, q1, -⟩ := box_new ha
  obtain ⟨k2, q2, -⟩ := box_new hb
  have BW := Lib.hid (q1.trans (q2.mono q1.size))
  have K1 := Lib.hid (k1.below q2)
  have K2 := Lib.hid k2
  have M0 := (HC wb BW.out).out
  obtain ⟨x, hx⟩ : ∃ x, cmpV ⟨am, ai, ap, [], []⟩ V = x := ⟨_, rfl⟩
  rw [hx] at M0 h1
  unfold verV at *
  simp only [List.length_nil] at *
  have M := Lib.hid M0
  obtain ⟨c0, c1, c2, c3, c4⟩ := cell5 K1.out
  obtain ⟨d0, d1, d2, d3, d4⟩ := cell5 K2.out
  have gx : decide (x ≤ 0) = false := decide_eq_false h1
  clear h1
  subst h2
  try simp only at h3
  subst h3
  clear hA hV k1 k2 q1 q2 HC M0 hr hx
  go_enter Tryd.func34, Tryd.ntmps34
  go_wp2_with fail
  refine M.out.mono ?_
  rintro e w1 ⟨rfl, bb⟩
  have B1 := Lib.hid (BW.out.trans (bb.mono BW.out.size))
  have K3 := Lib.hid (K1.out.below bb)
  have K4 := Lib.hid (K2.out.below bb)
  clear bb ha hb c0 c1 c2 c3 c4 d0 d1 d2 d3 d4
  obtain ⟨c0, c1, c2, c3, c4⟩ := cell5 K3.out
  obtain ⟨d0, d1, d2, d3, d4⟩ := cell5 K4.out
  go_wp2_with fail
  go_ret
  exact ⟨rfl, B1.out⟩
set_option maxHeartbeats 8000000 in
set_option maxRecDepth 100000 in
theorem suits_maz (A V : Vr) (c : Int) (po bo : Option Addr) (pc bc : Nat) (w : World) (hA : VerC w none none A) (hp : A.pre = []) (hq : A.build = []) (hV : VerC w po bo V) (hr : rightB V = true) (h1 : ¬ cmpV A V ≤ 0) (h2 : 2 ≤ c) (h3 : A.pa = 0) (h4 : V.ma = 0) :
    Calls Tryd.prog 34 #[verV A none 0 none 0, verV V po pc bo bc, .int .i64 c] w fun e w' => e = .returned (.bool true) ∧ Below w.heap.size w w' := by
  have HC := fun w' (h : Below w.heap.size w w') => Lib.hid (refcmp_any A V none none po bo 0 0 pc bc w' (hA.below h) (hV.below h) (by rw [hp]; simp) (right_ok hr))
  obtain ⟨am, ai, ap, aq, ab⟩ := A
  simp only at hp hq
  subst hp
  subst hq
  obtain ⟨wa, ha⟩ : ∃ wa, w.alloc (.cells #[.int .i64 am, .int .i64 ai, .int .i64 ap, .slice none 0 0, .slice none 0 0] 24) = wa := ⟨_, rfl⟩
  obtain ⟨wb, hb⟩ : ∃ wb, wa.alloc (.cells #[.int .i64 V.ma, .int .i64 V.mi, .int .i64 V.pa, .slice po V.pre.length pc, .slice bo V.build.length bc] 24) = wb := ⟨_, rfl⟩
  obtain ⟨k1, q1, -⟩ := box_new ha
  obtain ⟨k2, q2, -⟩ := box_new hb
  have BW := Lib.hid (q1.trans (q2.mono q1.size))
  have K1 := Lib.hid (k1.below q2)
  have K2 := Lib.hid k2
  have M0 := (HC wb BW.out).out
  obtain ⟨x, hx⟩ : ∃ x, cmpV ⟨am, ai, ap, [], []⟩ V = x := ⟨_, rfl⟩
  rw [hx] at M0 h1
  unfold verV at *
  simp only [List.length_nil] at *
  have M := Lib.hid M0
  obtain ⟨c0, c1, c2, c3, c4⟩ := cell5 K1.out
  obtain ⟨d0, d1, d2, d3, d4⟩ := cell5 K2.out
  have gx : decide (x ≤ 0) = false := decide_eq_false h1
  clear h1
  try simp only at h3
  subst h3
  have g2 : ¬ c < 2 := by omega
  have g20 : decide (c < 2) = false := decide_eq_false g2
  have g21 : 0 < c := by omega
  have g4 : (V.ma == 0) = true := by rw [beq_iff_eq]; exact h4
  clear h4
  clear hA hV k1 k2 q1 q2 HC M0 hr hx
  go_enter Tryd.func34, Tryd.ntmps34
  go_wp2_with fail
  refine M.out.mono ?_
  rintro e w1 ⟨rfl, bb⟩
  have B1 := Lib.hid (BW.out.trans (bb.mono BW.out.size))
  have K3 := Lib.hid (K1.out.below bb)
  have K4 := Lib.hid (K2.out.below bb)
  clear bb ha hb c0 c1 c2 c3 c4 d0 d1 d2 d3 d4
  obtain ⟨c0, c1, c2, c3, c4⟩ := cell5 K3.out
  obtain ⟨d0, d1, d2, d3, d4⟩ := cell5 K4.out
  go_wp2_with fail
  go_ret
  exact ⟨rfl, B1.out⟩
set_option maxHeartbeats 8000000 in
set_option maxRecDepth 100000 in
theorem suits_miz (A V : Vr) (c : Int) (po bo : Option Addr) (pc bc : Nat) (w : World) (hA : VerC w none none A) (hp : A.pre = []) (hq : A.build = []) (hV : VerC w po bo V) (hr : rightB V = true) (h1 : ¬ cmpV A V ≤ 0) (h2 : 2 ≤ c) (h3 : A.pa = 0) (h4 : V.ma ≠ 0) (h5 : A.mi = 0) :
    Calls Tryd.prog 34 #[verV A none 0 none 0, verV V po pc bo bc, .int .i64 c] w fun e w' => e = .returned (.bool true) ∧ Below w.heap.size w w' := by
  have HC := fun w' (h : Below w.heap.size w w') => Lib.hid (refcmp_any A V none none po bo 0 0 pc bc w' (hA.below h) (hV.below h) (by rw [hp]; simp) (right_ok hr))
  obtain ⟨am, ai, ap, aq, ab⟩ := A
  simp only at hp hq
  subst hp
  subst hq
  obtain ⟨wa, ha⟩ : ∃ wa, w.alloc (.cells #[.int .i64 am, .int .i64 ai, .int .i64 ap, .slice none 0 0, .slice none 0 0] 24) = wa := ⟨_, rfl⟩
  obtain ⟨wb, hb⟩ : ∃ wb, wa.alloc (.cells #[.int .i64 V.ma, .int .i64 V.mi, .int .i64 V.pa, .slice po V.pre.length pc, .slice bo V.build.length bc] 24) = wb := ⟨_, rfl⟩
  obtain ⟨k1, q1, -⟩ := box_new ha
  obtain ⟨k2, q2, -⟩ := box_new hb
  have BW := Lib.hid (q1.trans (q2.mono q1.size))
  have K1 := Lib.hid (k1.below q2)
  have K2 := Lib.hid k2
  have M0 := (HC wb BW.out).out
  obtain ⟨x, hx⟩ : ∃ x, cmpV ⟨am, ai, ap, [], []⟩ V = x := ⟨_, rfl⟩
  rw [hx] at M0 h1
  unfold verV at *
  simp only [List.length_nil] at *
  have M := Lib.hid M0
  obtain ⟨c0, c1, c2, c3, c4⟩ := cell5 K1.out
  obtain ⟨d0, d1, d2, d3, d4⟩ := cell5 K2.out
  have gx : decide (x ≤ 0) = false := decide_eq_false h1
  clear h1
  try simp only at h3 h5
  subst h3
  subst h5
  have g2 : ¬ c < 2 := by omega
  have g20 : decide (c < 2) = false := decide_eq_false g2
  have g21 : 0 < c := by omega
  have g4 : (V.ma == 0) = false := by rw [beq_eq_false_iff_ne]; exact h4
  clear h4
  clear hA hV k1 k2 q1 q2 HC M0 hr hx
  go_enter Tryd.func34, Tryd.ntmps34
  go_wp2_with fail
  refine M.out.mono ?_
  rintro e w1 ⟨rfl, bb⟩
  have B1 := Lib.hid (BW.out.trans (bb.mono BW.out.size))
  have K3 := Lib.hid (K1.out.below bb)
  have K4 := Lib.hid (K2.out.below bb)
  clear bb ha hb c0 c1 c2 c3 c4 d0 d1 d2 d3 d4
  obtain ⟨c0, c1, c2, c3, c4⟩ := cell5 K3.out
  obtain ⟨d0, d1, d2, d3, d4⟩ := cell5 K4.out
  go_wp2_with fail
  go_ret
  exact ⟨rfl, B1.out⟩
set_option maxHeartbeats 8000000 in
set_option maxRecDepth 100000 in
theorem suits_min (A V : Vr) (c : Int) (po bo : Option Addr) (pc bc : Nat) (w : World) (hA : VerC w none none A) (hp : A.pre = []) (hq : A.build = []) (hV : VerC w po bo V) (hr : rightB V = true) (h1 : ¬ cmpV A V ≤ 0) (h2 : 2 ≤ c) (h3 : A.pa = 0) (h4 : V.ma ≠ 0) (h5 : A.mi ≠ 0) :
    Calls Tryd.prog 34 #[verV A none 0 none 0, verV V po pc bo bc, .int .i64 c] w fun e w' => e = .returned (.bool false) ∧ Below w.heap.size w w' := by
  have HC := fun w' (h : Below w.heap.size w w') => Lib.hid (refcmp_any A V none none po bo 0 0 pc bc w' (hA.below h) (hV.below h) (by rw [hp]; simp) (right_ok hr))
  obtain ⟨am, ai, ap, aq, ab⟩ := A
  simp only at hp hq
  subst hp
  subst hq
  obtain ⟨wa, ha⟩ : ∃ wa, w.alloc (.cells #[.int .i64 am, .int .i64 ai, .int .i64 ap, .slice none 0 0, .slice none 0 0] 24) = wa := ⟨_, rfl⟩
  obtain ⟨wb, hb⟩ : ∃ wb, wa.alloc (.cells #[.int .i64 V.ma, .int .i64 V.mi, .int .i64 V.pa, .slice po V.pre.length pc, .slice bo V.build.length bc] 24) = wb := ⟨_, rfl⟩
  obtain ⟨k1, q1, -⟩ := box_new ha
  obtain ⟨k2, q2, -⟩ := box_new hb
  have BW := Lib.hid (q1.trans (q2.mono q1.size))
  have K1 := Lib.hid (k1.below q2)
  have K2 := Lib.hid k2
  have M0 := (HC wb BW.out).out
  obtain ⟨x, hx⟩ : ∃ x, cmpV ⟨am, ai, ap, [], []⟩ V = x := ⟨_, rfl⟩
  rw [hx] at M0 h1
  unfold verV at *
  simp only [List.length_nil] at *
  have M := Lib.hid M0
  obtain ⟨c0, c1, c2, c3, c4⟩ := cell5 K1.out
  obtain ⟨d0, d1, d2, d3, d4⟩ := cell5 K2.out
  have gx : decide (x ≤ 0) = false := decide_eq_false h1
  clear h1
  try simp only at h3 h5
  subst h3
  have g2 : ¬ c < 2 := by omega
  have g20 : decide (c < 2) = false := decide_eq_false g2
  have g21 : 0 < c := by omega
  have g4 : (V.ma == 0) = false := by rw [beq_eq_false_iff_ne]; exact h4
  have g5 : (ai == 0) = false := by rw [beq_eq_false_iff_ne]; exact h5
  clear h4 h5
  clear hA hV k1 k2 q1 q2 HC M0 hr hx
  go_enter Tryd.func34, Tryd.ntmps34
  go_wp2_with fail
  refine M.out.mono ?_
  rintro e w1 ⟨rfl, bb⟩
  have B1 := Lib.hid (BW.out.trans (bb.mono BW.out.size))
  have K3 := Lib.hid (K1.out.below bb)
  have K4 := Lib.hid (K2.out.below bb)
  clear bb ha hb c0 c1 c2 c3 c4 d0 d1 d2 d3 d4
  obtain ⟨c0, c1, c2, c3, c4⟩ := cell5 K3.out
  obtain ⟨d0, d1, d2, d3, d4⟩ := cell5 K4.out
  go_wp2_with fail
  go_ret
  exact ⟨rfl, B1.out⟩
end Go.Proofs.YtbdhmelebedpiaaDoor
