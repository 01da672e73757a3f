import Derived.Test.YtleiaghegokjkaaGreatDoorSubL
import Derived.Test.YtleiaghegokjkaaGreatDoorSubR
import Derived.Test.YtleiaghegokjkaaGreatDoorTypArena
import Derived.Test.YtleiaghegokjkaaGreatDoorTypRefRight
/- The law SubstStands: its walk. -/
namespace Go.Proofs.YtleiaghegokjkaaGreatDoor
open Go.RowKit
set_option linter.unusedSimpArgs false
set_option linter.unusedVariables false

/-- What is told of a row of types that came in. -/
def CameT (w : World) (a : Option Addr) (l : List Ty) (cap : Nat) : Prop := l.length ≤ cap ∧ cap ≤ 9223372036854775807 ∧ InRow w a l
theorem CameT.below {w w' : World} {a : Option Addr} {l : List Ty} {cap : Nat} (h : CameT w a l cap) (hb : Below w.heap.size w w') : CameT w' a l cap := ⟨h.1, h.2.1, h.2.2.below hb⟩
/-- What is told of a row of integers that came in. -/
def CameI (w : World) (a : Option Addr) (l : List Int) (cap : Nat) : Prop := l.length ≤ cap ∧ cap ≤ 9223372036854775807 ∧ IRow w a l ∧ ∀ z ∈ l, -9223372036854775808 ≤ z ∧ z ≤ 9223372036854775807
theorem CameI.below {w w' : World} {a : Option Addr} {l : List Int} {cap : Nat} (h : CameI w a l cap) (hb : Below w.heap.size w w') : CameI w' a l cap := ⟨h.1, h.2.1, h.2.2.1.below hb, h.2.2.2⟩
theorem sub_len {l : List Ty} {i : Nat} {args : List Int} (hr : rightT l = true) (hi : i < l.length) : (substT l i args).1.length ≤ 1000 := by
  unfold substT
  split
  · exact Nat.zero_le _
  · rename_i h1
    split
    · exact Nat.zero_le _
    · rename_i h2
      split
      · exact Nat.zero_le _
      · rename_i h3
        have h := inv_run hr hi (by revert h2; cases inArena l args <;> simp) h1 (i + 1) (Nat.le_refl _) (by omega)
        have := (right_step h.right).1
        show (runT l i args (i + 1)).now.length ≤ 1000
        omega
set_option maxHeartbeats 16000000 in
set_option maxRecDepth 100000 in
theorem stands_walk (a0 : Option Addr) (l0 : List Ty) (cap0 : Nat) (i : Int) (g0 : Option Addr) (z0 : List Int) (gc0 : Nat) (w : World) (h0 : CameT w a0 l0 cap0) (h1 : CameI w g0 z0 gc0) (hi : -9223372036854775808 ≤ i ∧ i ≤ 9223372036854775807) (hE : Env w) :
    Calls Tryz.prog 3 #[.slice a0 l0.length cap0, .int .i64 i, .slice g0 z0.length gc0] w fun e w' => e = .returned (.bool true) ∧ Below w.heap.size w w' := by
  have BD := Lib.hid (show Below w.heap.size w w.drew from (Below.refl _ _).drew)
  have F0 := Lib.hid (few_any l0 a0 cap0 402 w.drew (h0.2.2.below BD.out) h0.1 h0.2.1 (by decide))
  have HE := Lib.hid hE
  obtain ⟨zs, hzs⟩ : ∃ zs, z0.take 20 = zs := ⟨_, rfl⟩
  have G := Lib.hid (show IRow w g0 zs ∧ ∀ z ∈ zs, -9223372036854775808 ≤ z ∧ z ≤ 9223372036854775807 from by
    rw [← hzs]
    exact ⟨h1.2.2.1.take 20, fun z hz => h1.2.2.2 z (List.mem_of_mem_take hz)⟩)
  obtain ⟨n, hn⟩ : ∃ n, z0.length = n := ⟨_, rfl⟩
  have n1 : n ≤ gc0 := by rw [← hn]; exact h1.1
  have n2 := h1.2.1
  obtain ⟨m, hm⟩ : ∃ m : Nat, min n 20 = m := ⟨_, rfl⟩
  have m1 : m ≤ n := by omega
  have m2 : m ≤ 20 := by omega
  have m3 : m ≤ gc0 := by omega
  have HM := Lib.hid (show zs.length = m by rw [← hzs, List.length_take, hn]; omega)
  have Hm : ∀ (ts : Array TypeId) (t : TypeId) (W : World), (Builtin.min_ ts t #[.int .i64 (n : Int), .int .i64 20]).run Tryz.prog W = .ok (.int .i64 (m : Int)) W := fun ts t W => by rw [run_min_int2, show (if (20 : Int) < (n : Int) then (20 : Int) else (n : Int)) = (m : Int) by split <;> omega]
  rw [hn]
  clear hm h0 hE h1 hzs hn
  go_enter Tryz.func3, Tryz.ntmps3
  go_wp2_with fail
  refine GoG.start [] (by kernel_rfl) Keeps.nil ?_
  refine GoG.take (i := 0) (v := ?_) [] rfl (by kernel_rfl) (by kernel_rfl) (by kernel_rfl) (by kernel_rfl) (by kernel_rfl) (by kernel_rfl) (fun _ _ _ h => h) (yields_free (by rfl) (fun w => ?_)) ?_
  rotate_left
  · go_simp; try (with_reducible rfl)
  try simp only [Act.put, List.getElem_toArray, List.getElem_cons_succ, List.getElem_cons_zero, List.setIfInBounds_toArray, List.set_cons_zero, List.set_cons_succ]
  refine GoG.take (i := 2) (v := ?_) [] rfl (by kernel_rfl) (by kernel_rfl) (by kernel_rfl) (by kernel_rfl) (by kernel_rfl) (by kernel_rfl) (fun _ _ _ h => h) (yields_free (by rfl) (fun w => ?_)) ?_
  rotate_left
  · go_simp; try (with_reducible rfl)
  try simp only [Act.put, List.getElem_toArray, List.getElem_cons_succ, List.getElem_cons_zero, List.setIfInBounds_toArray, List.set_cons_zero, List.set_cons_succ]
  refine GoG.take (i := 3) (v := ?_) [] rfl (by kernel_rfl) (by kernel_rfl) (by kernel_rfl) (by kernel_rfl) (by kernel_rfl) (by kernel_rfl) (fun _ _ _ h => h) (yields_free (by rfl) (fun w => ?_)) ?_
  rotate_left
  · go_simp; try (with_reducible rfl)
  try simp only [Act.put, List.getElem_toArray, List.getElem_cons_succ, List.getElem_cons_zero, List.setIfInBounds_toArray, List.set_cons_zero, List.set_cons_succ]
  refine GoG.take (i := 4) (v := ?_) [] rfl (by kernel_rfl) (by kernel_rfl) (by kernel_rfl) (by kernel_rfl) (by kernel_rfl) (by kernel_rfl) (fun _ _ _ h => h) (yields_free (by rfl) (fun w => ?_)) ?_
  rotate_left
  · go_simp; try (with_reducible rfl)
  try simp only [Act.put, List.getElem_toArray, List.getElem_cons_succ, List.getElem_cons_zero, List.setIfInBounds_toArray, List.set_cons_zero, List.set_cons_succ]
  refine GoG.take (i := 5) (v := ?_) [] rfl (by kernel_rfl) (by kernel_rfl) (by kernel_rfl) (by kernel_rfl) (by kernel_rfl) (by kernel_rfl) (fun _ _ _ h => h) (yields_free (by rfl) (fun w => ?_)) ?_
  rotate_left
  · go_simp; try (with_reducible rfl)
  try simp only [Act.put, List.getElem_toArray, List.getElem_cons_succ, List.getElem_cons_zero, List.setIfInBounds_toArray, List.set_cons_zero, List.set_cons_succ]
  refine GoG.take (i := 6) (v := ?_) [] rfl (by kernel_rfl) (by kernel_rfl) (by kernel_rfl) (by kernel_rfl) (by kernel_rfl) (by kernel_rfl) (fun _ _ _ h => h) (yields_free (by rfl) (fun w => ?_)) ?_
  rotate_left
  · go_simp; try (with_reducible rfl)
  try simp only [Act.put, List.getElem_toArray, List.getElem_cons_succ, List.getElem_cons_zero, List.setIfInBounds_toArray, List.set_cons_zero, List.set_cons_succ]
  refine GoG.one (i := 1) rfl (by kernel_rfl) (fun K hK => ?_)
  go_simp
  refine F0.out.mono ?_
  rintro e w1 ⟨ao, cap, us, rfl, r0, hc, hl4, b1⟩
  refine hK.out _ _ Keeps.nil ?_
  clear hK K
  try simp only [Act.put, List.getElem_toArray, List.getElem_cons_succ, List.getElem_cons_zero, List.setIfInBounds_toArray, List.set_cons_zero, List.set_cons_succ]
  refine GoG.take (i := 7) (v := ?_) [] rfl (by kernel_rfl) (by kernel_rfl) (by kernel_rfl) (by kernel_rfl) (by kernel_rfl) (by kernel_rfl) (fun _ _ _ h => h) (yields_free (by rfl) (fun w => ?_)) ?_
  rotate_left
  · go_simp; try (with_reducible rfl)
  try simp only [Act.put, List.getElem_toArray, List.getElem_cons_succ, List.getElem_cons_zero, List.setIfInBounds_toArray, List.set_cons_zero, List.set_cons_succ]
  refine GoG.take (i := 8) (v := ?_) [] rfl (by kernel_rfl) (by kernel_rfl) (by kernel_rfl) (by kernel_rfl) (by kernel_rfl) (by kernel_rfl) (fun _ _ _ h => h) (yields_free (by rfl) (fun w => ?_)) ?_
  rotate_left
  · go_simp; try (with_reducible rfl)
  try simp only [Act.put, List.getElem_toArray, List.getElem_cons_succ, List.getElem_cons_zero, List.setIfInBounds_toArray, List.set_cons_zero, List.set_cons_succ]
  refine GoG.done (by kernel_rfl) ?_ _
  have B1 := Lib.hid (BD.out.trans (b1.mono BD.out.size))
  have HE1 := Lib.hid (HE.out.below B1.out)
  have R1 := Lib.hid r0
  have G1 := Lib.hid (And.intro (G.out.1.below B1.out) G.out.2)
  have HP := Lib.hid (params_any us ao cap i w1 R1.out (by omega) hc HE1.out)
  have HS0 := Lib.hid (fun W (hb : Below w1.heap.size w1 W) => subst_any us ao cap i zs g0 gc0 W (R1.out.below hb) (by omega) hc (HE1.out.below hb) (G1.out.1.below hb) (by rw [HM.out]; omega) G1.out.2)
  have HRR0 := Lib.hid (fun W (hb : Below w1.heap.size w1 W) => refright_any us ao cap W (R1.out.below hb) (by omega) hc)
  have HRS0 := Lib.hid (fun (k : Nat) (hk : k < us.length) (hr : rightT us = true) W (hb : Below w1.heap.size w1 W) => refsubst_any us ao cap k zs g0 gc0 W (R1.out.below hb) hr hc hk (G1.out.1.below hb) (by rw [HM.out]; omega) G1.out.2)
  have HAK0 := Lib.hid (fun (k : Nat) (hk : k < us.length) (hr : rightT us = true) W (hb : Below w1.heap.size w1 W) => refasks_any us ao cap k W (R1.out.below hb) hr hc hk)
  obtain ⟨un, hun⟩ : ∃ un, us.length = un := ⟨_, rfl⟩
  have HUN := Lib.hid hun
  rw [HM.out] at HS0 HRS0
  rw [hun] at hc hl4 HP HS0 HRR0 HRS0 HAK0 ⊢
  clear b1 r0 F0 HE G hun
  by_cases hr : rightT us = true
  · rw [hr] at HRR0
    have HR := Lib.hid hr
    by_cases hin : 0 ≤ i ∧ i < (un : Int)
    · obtain ⟨k, rfl⟩ : ∃ k : Nat, i = (k : Int) := ⟨i.toNat, by omega⟩
      have hk : k < un := by omega
      have h0' : thereT us (k : Int) = 0 := there_ok hr (by omega) (by rw [HUN.out]; exact hin.2)
      have hpT : paramsT us (k : Int) = (askD (funT us) (k + 1) k, 0) := by unfold paramsT; rw [if_pos h0', Int.toNat_natCast]
      have hsT : psubT us (k : Int) zs = substT us k zs := by unfold psubT; rw [if_pos h0', Int.toNat_natCast]
      rw [hpT] at HP
      rw [hsT] at HS0
      have HRS := Lib.hid (HRS0.out k hk hr)
      have HAK := Lib.hid (HAK0.out k hk hr)
      obtain ⟨⟨X, p, f⟩, hX⟩ : ∃ R, substT us k zs = R := ⟨_, rfl⟩
      rw [hX] at HS0 HRS
      have hneg : decide ((k : Int) < 0) = false := decide_eq_false (by omega)
      have hge : decide ((un : Int) ≤ (k : Int)) = false := decide_eq_false (by omega)
      have hltI : (k : Int) < ((k + 1 : Nat) : Int) := by omega
      obtain ⟨az, haz⟩ : ∃ az, askD (funT us) (k + 1) k = az := ⟨_, rfl⟩
      have HAZ := Lib.hid haz
      rw [haz] at HP
      have HX := Lib.hid hX
      clear HRS0 HAK0 hin h0' hpT hsT hX hr haz
      have HLX := Lib.hid (show X.length ≤ 1000 by have h := sub_len (l := us) (i := k) (args := zs) HR.out (by rw [HUN.out]; exact hk); rw [HX.out] at h; exact h)
      go_wp2_with fail
      refine HP.out.mono ?_
      rintro e w2 ⟨rfl, b2⟩
      have B2 := Lib.hid b2
      clear b2
      go_wp2_with fail
      refine (HS0.out _ B2.out).mono ?_
      rintro e w3 ⟨xo, xcap, rfl, hx, hxc, b3⟩
      have B3 := Lib.hid (B2.out.trans (b3.mono B2.out.size))
      have RX := Lib.hid hx
      clear b3 hx
      go_wp2_with fail
      refine (HRR0.out _ B3.out).mono ?_
      rintro e w4 ⟨rfl, b4⟩
      have B4 := Lib.hid (B3.out.trans (b4.mono B3.out.size))
      have RX4 := Lib.hid (RX.out.below b4)
      clear b4
      go_wp2_with fail
      refine (HRS.out _ B4.out).mono ?_
      rintro e w5 ⟨yo, ycap, rfl, hy, b5⟩
      have B5 := Lib.hid (B4.out.trans (b5.mono B4.out.size))
      have RX5 := Lib.hid (RX4.out.below b5)
      have RY5 := Lib.hid hy
      clear b5 hy
      obtain ⟨w6, h6⟩ : ∃ w6, w5.alloc (.cells #[.slice yo X.length ycap, .int .i64 p, .int .i64 f] 33) = w6 := ⟨_, rfl⟩
      obtain ⟨k6, q6, z6⟩ := box_new h6
      have B6 := Lib.hid (B5.out.trans (q6.mono B5.out.size))
      have K6 := Lib.hid k6
      have RX6 := Lib.hid (RX5.out.below q6)
      have RY6 := Lib.hid (RY5.out.below q6)
      have HAL := Lib.hid (alive_any w6 (HE1.out.below B6.out))
      clear k6 q6 z6
      go_wp2_with fail
      refine HAL.out.mono ?_
      rintro e w7 ⟨rfl, b7⟩
      have B7 := Lib.hid (B6.out.trans (b7.mono B6.out.size))
      have RX7 := Lib.hid (RX6.out.below b7)
      have RY7 := Lib.hid (RY6.out.below b7)
      have K7 := Lib.hid (K6.out.below b7)
      clear b7 h6
      go_wp2_with fail
      refine (HAK.out _ B7.out).mono ?_
      rintro e w8 ⟨bo, bc, rfl, hbr, hbc, b8⟩
      have B8 := Lib.hid (B7.out.trans (b8.mono B7.out.size))
      have RX8 := Lib.hid (RX7.out.below b8)
      have RY8 := Lib.hid (RY7.out.below b8)
      obtain ⟨ob, oof, rfl, hob, hocell⟩ := hbr.cells (by rw [valsI_len]; omega)
      have ca := hocell k (by rw [valsI_len]; omega)
      rw [valsI_get (by omega), HAZ.out] at ca
      have HAR := Lib.hid (arenas_any X X xo yo xcap ycap w8 RX8.out RY8.out HLX.out HLX.out)
      rw [decide_eq_true (rfl : X = X)] at HAR
      obtain ⟨c0, c1, c2⟩ := cell3A (K7.out.below b8)
      clear b8 hbr hob hocell
      go_wp2_with fail
      refine HAR.out.mono ?_
      rintro e w9 ⟨rfl, b9⟩
      have B9 := Lib.hid (B8.out.trans (b9.mono B8.out.size))
      clear b9
      go_wp2_with fail
      go_ret
      exact ⟨by first | rfl | (simp; done), B1.out.trans (B9.out.mono B1.out.size)⟩
    · by_cases hneg : i < 0
      · have hd0 : decide (i < 0) = true := decide_eq_true hneg
        have h0' : thereT us i = 8 := there_none hr (.inl hneg)
        clear hneg hin hr
        have hpT : paramsT us i = (0, 8) := by unfold paramsT; rw [if_neg (by rw [h0']; decide), h0']
        have hsT : psubT us i zs = ([], 0, 8) := by unfold psubT; rw [if_neg (by rw [h0']; decide), h0']
        rw [hpT] at HP
        rw [hsT] at HS0
        clear HRS0 HAK0 h0' hpT hsT
        go_wp2_with fail
        refine HP.out.mono ?_
        rintro e w2 ⟨rfl, b2⟩
        have B2 := Lib.hid b2
        clear b2
        go_wp2_with fail
        refine (HS0.out _ B2.out).mono ?_
        rintro e w3 ⟨xo, xcap, rfl, hx, hxc, b3⟩
        have B3 := Lib.hid (B2.out.trans (b3.mono B2.out.size))
        clear b3 hx
        go_wp2_with fail
        refine (HRR0.out _ B3.out).mono ?_
        rintro e w4 ⟨rfl, b4⟩
        have B4 := Lib.hid (B3.out.trans (b4.mono B3.out.size))
        have HAL := Lib.hid (alive_any w4 (HE1.out.below B4.out))
        clear b4
        go_wp2_with fail
        refine HAL.out.mono ?_
        rintro e w5 ⟨rfl, b5⟩
        have B5 := Lib.hid (B4.out.trans (b5.mono B4.out.size))
        clear b5
        go_wp2_with fail
        go_ret
        exact ⟨by first | rfl | (simp; done), B1.out.trans (B5.out.mono B1.out.size)⟩
      · have hd0 : decide (i < 0) = false := decide_eq_false hneg
        have hd1 : decide ((un : Int) ≤ i) = true := decide_eq_true (by omega)
        have h0' : thereT us i = 8 := there_none hr (.inr (by rw [HUN.out]; omega))
        clear hneg hin hr
        have hpT : paramsT us i = (0, 8) := by unfold paramsT; rw [if_neg (by rw [h0']; decide), h0']
        have hsT : psubT us i zs = ([], 0, 8) := by unfold psubT; rw [if_neg (by rw [h0']; decide), h0']
        rw [hpT] at HP
        rw [hsT] at HS0
        clear HRS0 HAK0 h0' hpT hsT
        go_wp2_with fail
        refine HP.out.mono ?_
        rintro e w2 ⟨rfl, b2⟩
        have B2 := Lib.hid b2
        clear b2
        go_wp2_with fail
        refine (HS0.out _ B2.out).mono ?_
        rintro e w3 ⟨xo, xcap, rfl, hx, hxc, b3⟩
        have B3 := Lib.hid (B2.out.trans (b3.mono B2.out.size))
        clear b3 hx
        go_wp2_with fail
        refine (HRR0.out _ B3.out).mono ?_
        rintro e w4 ⟨rfl, b4⟩
        have B4 := Lib.hid (B3.out.trans (b4.mono B3.out.size))
        have HAL := Lib.hid (alive_any w4 (HE1.out.below B4.out))
        clear b4
        go_wp2_with fail
        refine HAL.out.mono ?_
        rintro e w5 ⟨rfl, b5⟩
        have B5 := Lib.hid (B4.out.trans (b5.mono B4.out.size))
        clear b5
        go_wp2_with fail
        go_ret
        exact ⟨by first | rfl | (simp; done), B1.out.trans (B5.out.mono B1.out.size)⟩
  · have hrf : rightT us = false := by simpa using hr
    have h0' : thereT us i = 1 := there_wrong hrf
    rw [hrf] at HRR0
    clear hr hrf
    have hpT : paramsT us i = (0, 1) := by unfold paramsT; rw [if_neg (by rw [h0']; decide), h0']
    have hsT : psubT us i zs = ([], 0, 1) := by unfold psubT; rw [if_neg (by rw [h0']; decide), h0']
    rw [hpT] at HP
    rw [hsT] at HS0
    clear HRS0 HAK0 h0' hpT hsT
    go_wp2_with fail
    refine HP.out.mono ?_
    rintro e w2 ⟨rfl, b2⟩
    have B2 := Lib.hid b2
    clear b2
    go_wp2_with fail
    refine (HS0.out _ B2.out).mono ?_
    rintro e w3 ⟨xo, xcap, rfl, hx, hxc, b3⟩
    have B3 := Lib.hid (B2.out.trans (b3.mono B2.out.size))
    clear b3 hx
    go_wp2_with fail
    refine (HRR0.out _ B3.out).mono ?_
    rintro e w4 ⟨rfl, b4⟩
    have B4 := Lib.hid (B3.out.trans (b4.mono B3.out.size))
    have HAL := Lib.hid (alive_any w4 (HE1.out.below B4.out))
    clear b4
    go_wp2_with fail
    refine HAL.out.mono ?_
    rintro e w5 ⟨rfl, b5⟩
    have B5 := Lib.hid (B4.out.trans (b5.mono B4.out.size))
    clear b5
    go_wp2_with fail
    go_ret
    exact ⟨by first | rfl | (simp; done), B1.out.trans (B5.out.mono B1.out.size)⟩
end Go.Proofs.YtleiaghegokjkaaGreatDoor
