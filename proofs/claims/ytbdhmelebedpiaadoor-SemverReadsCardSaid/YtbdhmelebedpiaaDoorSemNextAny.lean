/- Next, whatever the class. -/
import Derived.Test.YtbdhmelebedpiaaDoorSemNext
namespace Go.Proofs.YtbdhmelebedpiaaDoor
open Go.RowKit
set_option linter.unusedSimpArgs false
set_option linter.unusedVariables false

set_option maxHeartbeats 8000000 in
set_option maxRecDepth 100000 in
theorem next_bad_r (A : Vr) (c : Int) (ao bo : Option Addr) (ac bc : Nat) (w : World) (hA : VerC w ao bo A) (hE : Errs w) (r1 : rightB A = false)  :
    Calls Tryd.prog 13 #[verV A ao ac bo bc, .int .i64 c] w fun e w' => e = .returned (.tuple #[relV 0 0 0, .int .i64 1]) ∧ Below w.heap.size w w' := by
  obtain ⟨wa, ha⟩ : ∃ wa, w.alloc (.cells #[.int .i64 A.ma, .int .i64 A.mi, .int .i64 A.pa, .slice ao A.pre.length ac, .slice bo A.build.length bc] 24) = wa := ⟨_, rfl⟩
  obtain ⟨wb, hb⟩ : ∃ wb, wa.alloc (.cells #[.int .i64 0, .int .i64 0, .int .i64 0, .slice none 0 0, .slice none 0 0] 24) = wb := ⟨_, rfl⟩
  obtain ⟨k1, q1, z1⟩ := box_new ha
  obtain ⟨k2, q2, z2⟩ := box_new hb
  have BW := Lib.hid (q1.trans (q2.mono q1.size))
  have HZ := Lib.hid (And.intro z1 z2)
  have K2 := Lib.hid k2
  have HR := Lib.hid (right_any A ao bo ac bc wb (hA.below BW.out) (hE.below BW.out))
  obtain ⟨c0, c1, c2, c3, c4⟩ := cell5 (k1.below q2)
  rw [r1] at HR
  unfold verV at *
  clear hA hE k1 k2 q1 q2 r1 z1 z2
  go_enter Tryd.func13, Tryd.ntmps13
  go_wp2_with fail
  refine HR.out.mono ?_
  rintro e w1 ⟨rfl, b1⟩
  have B1 := Lib.hid (BW.out.trans (b1.mono BW.out.size))
  have K4 := Lib.hid (K2.out.below b1)
  clear b1 c0 c1 c2 c3 c4 ha hb K2 BW HR
  have f0 := K4.out.free 0
  have f1 := K4.out.free 1
  have f2 := K4.out.free 2
  have f3 := K4.out.free 3
  have f4 := K4.out.free 4
  obtain ⟨g0, g1, g2, g3, g4⟩ := cell5 K4.out
  go_wp2_with fail
  refine bodyPost_ret (v := .tuple #[.agg #[.int .i64 0, .int .i64 0, .int .i64 0, .slice none 0 0, .slice none 0 0], .int .i64 1]) (by simp [results, Tryd.results13, go_sem, g0, g1, g2, g3, g4, f0, f1, f2, f3, f4]) rfl ⟨rfl, ?_⟩
  have hlt := HZ.out.1
  exact ((((B1.out.setCell (by simp; omega) _).setCell (by simp; omega) _).setCell (by simp; omega) _).setCell (by simp; omega) _).setCell (by simp; omega) _
set_option maxHeartbeats 8000000 in
set_option maxRecDepth 100000 in
theorem next_bad_lo (A : Vr) (c : Int) (ao bo : Option Addr) (ac bc : Nat) (w : World) (hA : VerC w ao bo A) (hE : Errs w) (r1 : rightB A = true) (hc : c < 0) :
    Calls Tryd.prog 13 #[verV A ao ac bo bc, .int .i64 c] w fun e w' => e = .returned (.tuple #[relV 0 0 0, .int .i64 1]) ∧ Below w.heap.size w w' := by
  obtain ⟨wa, ha⟩ : ∃ wa, w.alloc (.cells #[.int .i64 A.ma, .int .i64 A.mi, .int .i64 A.pa, .slice ao A.pre.length ac, .slice bo A.build.length bc] 24) = wa := ⟨_, rfl⟩
  obtain ⟨wb, hb⟩ : ∃ wb, wa.alloc (.cells #[.int .i64 0, .int .i64 0, .int .i64 0, .slice none 0 0, .slice none 0 0] 24) = wb := ⟨_, rfl⟩
  obtain ⟨k1, q1, z1⟩ := box_new ha
  obtain ⟨k2, q2, z2⟩ := box_new hb
  have BW := Lib.hid (q1.trans (q2.mono q1.size))
  have HZ := Lib.hid (And.intro z1 z2)
  have K2 := Lib.hid k2
  have HR := Lib.hid (right_any A ao bo ac bc wb (hA.below BW.out) (hE.below BW.out))
  obtain ⟨c0, c1, c2, c3, c4⟩ := cell5 (k1.below q2)
  rw [r1] at HR
  unfold verV at *
  clear hA hE k1 k2 q1 q2 r1 z1 z2
  go_enter Tryd.func13, Tryd.ntmps13
  go_wp2_with fail
  refine HR.out.mono ?_
  rintro e w1 ⟨rfl, b1⟩
  have B1 := Lib.hid (BW.out.trans (b1.mono BW.out.size))
  have K4 := Lib.hid (K2.out.below b1)
  clear b1 c0 c1 c2 c3 c4 ha hb K2 BW HR
  have f0 := K4.out.free 0
  have f1 := K4.out.free 1
  have f2 := K4.out.free 2
  have f3 := K4.out.free 3
  have f4 := K4.out.free 4
  obtain ⟨g0, g1, g2, g3, g4⟩ := cell5 K4.out
  go_wp2_with fail
  refine bodyPost_ret (v := .tuple #[.agg #[.int .i64 0, .int .i64 0, .int .i64 0, .slice none 0 0, .slice none 0 0], .int .i64 1]) (by simp [results, Tryd.results13, go_sem, g0, g1, g2, g3, g4, f0, f1, f2, f3, f4]) rfl ⟨rfl, ?_⟩
  have hlt := HZ.out.1
  exact ((((B1.out.setCell (by simp; omega) _).setCell (by simp; omega) _).setCell (by simp; omega) _).setCell (by simp; omega) _).setCell (by simp; omega) _
set_option maxHeartbeats 8000000 in
set_option maxRecDepth 100000 in
theorem next_bad_hi (A : Vr) (c : Int) (ao bo : Option Addr) (ac bc : Nat) (w : World) (hA : VerC w ao bo A) (hE : Errs w) (r1 : rightB A = true) (hc : 3 < c) :
    Calls Tryd.prog 13 #[verV A ao ac bo bc, .int .i64 c] w fun e w' => e = .returned (.tuple #[relV 0 0 0, .int .i64 1]) ∧ Below w.heap.size w w' := by
  have hc0 : ¬ c < 0 := by omega
  have hc1 : decide (c < 0) = false := decide_eq_false hc0
  obtain ⟨wa, ha⟩ : ∃ wa, w.alloc (.cells #[.int .i64 A.ma, .int .i64 A.mi, .int .i64 A.pa, .slice ao A.pre.length ac, .slice bo A.build.length bc] 24) = wa := ⟨_, rfl⟩
  obtain ⟨wb, hb⟩ : ∃ wb, wa.alloc (.cells #[.int .i64 0, .int .i64 0, .int .i64 0, .slice none 0 0, .slice none 0 0] 24) = wb := ⟨_, rfl⟩
  obtain ⟨k1, q1, z1⟩ := box_new ha
  obtain ⟨k2, q2, z2⟩ := box_new hb
  have BW := Lib.hid (q1.trans (q2.mono q1.size))
  have HZ := Lib.hid (And.intro z1 z2)
  have K2 := Lib.hid k2
  have HR := Lib.hid (right_any A ao bo ac bc wb (hA.below BW.out) (hE.below BW.out))
  obtain ⟨c0, c1, c2, c3, c4⟩ := cell5 (k1.below q2)
  rw [r1] at HR
  unfold verV at *
  clear hA hE k1 k2 q1 q2 r1 z1 z2
  go_enter Tryd.func13, Tryd.ntmps13
  go_wp2_with fail
  refine HR.out.mono ?_
  rintro e w1 ⟨rfl, b1⟩
  have B1 := Lib.hid (BW.out.trans (b1.mono BW.out.size))
  have K4 := Lib.hid (K2.out.below b1)
  clear b1 c0 c1 c2 c3 c4 ha hb K2 BW HR
  have f0 := K4.out.free 0
  have f1 := K4.out.free 1
  have f2 := K4.out.free 2
  have f3 := K4.out.free 3
  have f4 := K4.out.free 4
  obtain ⟨g0, g1, g2, g3, g4⟩ := cell5 K4.out
  go_wp2_with fail
  refine bodyPost_ret (v := .tuple #[.agg #[.int .i64 0, .int .i64 0, .int .i64 0, .slice none 0 0, .slice none 0 0], .int .i64 1]) (by simp [results, Tryd.results13, go_sem, g0, g1, g2, g3, g4, f0, f1, f2, f3, f4]) rfl ⟨rfl, ?_⟩
  have hlt := HZ.out.1
  exact ((((B1.out.setCell (by simp; omega) _).setCell (by simp; omega) _).setCell (by simp; omega) _).setCell (by simp; omega) _).setCell (by simp; omega) _
theorem pre_cases (A : Vr) : preN A = true ∨ preN A = false := by cases preN A <;> simp
/-- Of a version that may be, and a class. -/
theorem next_any (A : Vr) (c : Int) (ao bo : Option Addr) (ac bc : Nat) (w : World) (hA : VerC w ao bo A) (hE : Errs w) (r1 : rightB A = true) (h0 : 0 ≤ c) (h3 : c ≤ 3) :
    Calls Tryd.prog 13 #[verV A ao ac bo bc, .int .i64 c] w fun e w' => e = .returned (nextRes (nextV A c)) ∧ Below w.heap.size w w' := by
  by_cases k0 : c = 0
  · subst k0
    rcases pre_cases A with hp | hp
    · exact next_0a A ao bo ac bc w hA hE r1 hp
    · by_cases hm : A.pa = bigM
      · exact next_0m A ao bo ac bc w hA hE r1 hp hm
      · exact next_0i A ao bo ac bc w hA hE r1 hp hm
  by_cases k1 : c = 1
  · subst k1
    rcases pre_cases A with hp | hp
    · by_cases hz : A.pa = 0
      · exact next_1a A ao bo ac bc w hA hE r1 hp hz
      · by_cases hm : A.mi = bigM
        · exact next_1bm A ao bo ac bc w hA hE r1 hp hz hm
        · exact next_1bi A ao bo ac bc w hA hE r1 hp hz hm
    · by_cases hm : A.mi = bigM
      · exact next_1nm A ao bo ac bc w hA hE r1 hp hm
      · exact next_1ni A ao bo ac bc w hA hE r1 hp hm
  have hc2 : 2 ≤ c := by omega
  by_cases hma : A.ma = 0
  · rcases pre_cases A with hp | hp
    · by_cases hz : A.pa = 0
      · exact next_ca A c ao bo ac bc w hA hE r1 hp hc2 h3 hma hz
      · by_cases hm : A.mi = bigM
        · exact next_cbm A c ao bo ac bc w hA hE r1 hp hc2 h3 hma hz hm
        · exact next_cbi A c ao bo ac bc w hA hE r1 hp hc2 h3 hma hz hm
    · by_cases hm : A.mi = bigM
      · exact next_cnm A c ao bo ac bc w hA hE r1 hp hc2 h3 hma hm
      · exact next_cni A c ao bo ac bc w hA hE r1 hp hc2 h3 hma hm
  · rcases pre_cases A with hp | hp
    · by_cases hi : A.mi = 0
      · by_cases hz : A.pa = 0
        · exact next_ma A c ao bo ac bc w hA hE r1 hp hc2 h3 hma hi hz
        · by_cases hm : A.ma = bigM
          · exact next_mbm A c ao bo ac bc w hA hE r1 hp hc2 h3 hma hi hz hm
          · exact next_mbi A c ao bo ac bc w hA hE r1 hp hc2 h3 hma hi hz hm
      · by_cases hm : A.ma = bigM
        · exact next_mcm A c ao bo ac bc w hA hE r1 hp hc2 h3 hma hi hm
        · exact next_mci A c ao bo ac bc w hA hE r1 hp hc2 h3 hma hi hm
    · by_cases hm : A.ma = bigM
      · exact next_mnm A c ao bo ac bc w hA hE r1 hp hc2 h3 hma hm
      · exact next_mni A c ao bo ac bc w hA hE r1 hp hc2 h3 hma hm
theorem next_bad (A : Vr) (c : Int) (ao bo : Option Addr) (ac bc : Nat) (w : World) (hA : VerC w ao bo A) (hE : Errs w) (h : rightB A = false ∨ c < 0 ∨ 3 < c) :
    Calls Tryd.prog 13 #[verV A ao ac bo bc, .int .i64 c] w fun e w' => e = .returned (.tuple #[relV 0 0 0, .int .i64 1]) ∧ Below w.heap.size w w' := by
  cases r : rightB A
  · exact next_bad_r A c ao bo ac bc w hA hE r
  · rcases h with h | h | h
    · rw [r] at h; cases h
    · exact next_bad_lo A c ao bo ac bc w hA hE r h
    · exact next_bad_hi A c ao bo ac bc w hA hE r h
end Go.Proofs.YtbdhmelebedpiaaDoor
