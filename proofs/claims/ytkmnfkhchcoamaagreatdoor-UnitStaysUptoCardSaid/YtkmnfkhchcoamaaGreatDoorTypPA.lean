import Derived.Test.YtkmnfkhchcoamaaGreatDoorTyA
/- The program's small calls: Equal, same, bare, term. -/
namespace Go.Proofs.YtkmnfkhchcoamaaGreatDoor
open Go.RowKit
set_option linter.unusedSimpArgs false
set_option linter.unusedVariables false

theorem below_drewN {W w : World} (h : Below W.heap.size W w) (n : Nat) : Below W.heap.size W (w.drewN n) := by
  obtain ⟨h1, h2, h3, h4, h5⟩ := h
  exact ⟨h1, h2, h3, h4, h5⟩
theorem eq_nil_of_size {s : ByteArray} (h : s.size = 0) : s.data.toList = [] := by
  apply List.eq_nil_of_length_eq_zero
  simpa using h
set_option maxHeartbeats 4000000 in
theorem eq_int_any (ao bo : Option Addr) (ca cb : Nat) (xs ys : List Int) (w : World) (h1 : IRow w ao xs) (h2 : IRow w bo ys) (l1 : xs.length ≤ 1000000) (_l2 : ys.length ≤ 1000000) :
    Calls Tryz.prog 26 #[.slice ao xs.length ca, .slice bo ys.length cb] w fun e w' => e = .returned (.bool (decide (xs = ys))) ∧ Below w.heap.size w w' := by
  obtain ⟨r, hr⟩ : ∃ r, decide (xs = ys) = r := ⟨_, rfl⟩
  rw [hr]
  by_cases hl : xs.length = ys.length
  · by_cases h0 : xs.length = 0
    · have hx : xs = [] := List.eq_nil_of_length_eq_zero h0
      have hy : ys = [] := List.eq_nil_of_length_eq_zero (by omega)
      have Hr := Lib.hid (show true = r by rw [← hr, hx, hy, decide_eq_true rfl])
      rw [show ys.length = 0 by omega, h0]
      clear h1 h2 l1 hl h0 hx hy hr
      go_enter Tryz.func26, Tryz.ntmps26
      go_wp2_with fail
      go_loopw [13] (fun i wr => i = .int .i64 0 ∧ wr = w) (fun _ _ => 0)
      case atStart => exact ⟨rfl, rfl⟩
      case round =>
        obtain ⟨rfl, rfl⟩ := hrel
        go_wp2_with fail
        go_ret
        exact ⟨ret_bool Hr.out, Below.refl _ _⟩
    · obtain ⟨b1, o1, rfl, q1, c1⟩ := h1.cells (by omega)
      obtain ⟨b2, o2, rfl, q2, c2⟩ := h2.cells (by omega)
      have Hc1 := Lib.hid c1
      have Hc2 := Lib.hid c2
      have Hr := Lib.hid hr
      rw [← hl]
      obtain ⟨n, hn⟩ : ∃ n, xs.length = n := ⟨_, rfl⟩
      have Hn := Lib.hid hn
      have Hn2 := Lib.hid (hl.symm.trans hn)
      rw [hn] at l1 h0 ⊢
      clear h1 h2 hl hr c1 c2 hn
      go_enter Tryz.func26, Tryz.ntmps26
      go_wp2_with fail
      go_loopw [13] (fun i wr => ∃ k : Nat, k ≤ n ∧ i = .int .i64 k ∧ Hid (∀ j, j < k → xs.getD j 0 = ys.getD j 0) ∧ Hid (Below w.heap.size w wr)) (fun i _ => n - (intOf i).toNat)
      case atStart => exact ⟨0, Nat.zero_le _, rfl, Lib.hid (fun j hj => absurd hj (Nat.not_lt_zero _)), Lib.hid (Below.refl _ _)⟩
      case round =>
        obtain ⟨k, hk, rfl, Hall, HB⟩ := hrel
        have B := HB.out
        by_cases hkn : k < n
        · have d1 : wr.cell? ⟨b1, o1 + k, none⟩ = some (.int .i64 (xs.getD k 0)) := by rw [B.cell (p := ⟨b1, o1 + k, none⟩) q1]; exact Hc1.out k (by rw [Hn.out]; exact hkn)
          have d2 : wr.cell? ⟨b2, o2 + k, none⟩ = some (.int .i64 (ys.getD k 0)) := by rw [B.cell (p := ⟨b2, o2 + k, none⟩) q2]; exact Hc2.out k (by rw [Hn2.out]; exact hkn)
          obtain ⟨x, hx⟩ : ∃ x, xs.getD k 0 = x := ⟨_, rfl⟩
          obtain ⟨y, hy⟩ : ∃ y, ys.getD k 0 = y := ⟨_, rfl⟩
          rw [hx] at d1
          rw [hy] at d2
          have Hx := Lib.hid hx
          have Hy := Lib.hid hy
          clear hx hy
          by_cases hxy : x = y
          · subst hxy
            have Hall2 := Lib.hid (show ∀ j, j < k + 1 → xs.getD j 0 = ys.getD j 0 from fun j hj => by
              rcases Nat.lt_or_eq_of_le (Nat.le_of_lt_succ hj) with h | h
              · exact Hall.out j h
              · rw [h, Hx.out, Hy.out])
            go_wp2_with fail
            go_quiet (fail)
            rename_i nq
            have B2 := Lib.hid (below_drewN B nq)
            go_wp2_with fail
            go_roundw
            case rel => exact ⟨k + 1, by omega, by go_num, Hall2, B2⟩
            case measure => simp [intOf]; omega
          · have Hn3 := Lib.hid (show false = r by
              rw [← Hr.out, decide_eq_false]
              intro h
              rw [h] at Hx
              exact hxy (Hx.out.symm.trans Hy.out))
            have hq : (x == y) = false := by rw [beq_eq_false_iff_ne]; exact hxy
            have hq2 : (x != y) = true := by rw [bne, hq]; rfl
            go_wp2_with fail
            go_quiet (fail)
            rename_i nq
            have B2 := below_drewN B nq
            go_wp2_with fail
            go_ret
            exact ⟨ret_bool Hn3.out, B2⟩
        · obtain rfl : k = n := by omega
          have Hn3 := Lib.hid (show true = r by
            rw [← Hr.out, decide_eq_true]
            exact list_ext (d := 0) (by rw [Hn.out, Hn2.out]) (fun j hj => Hall.out j (by rw [← Hn.out]; exact hj)))
          go_wp2_with fail
          go_ret
          exact ⟨ret_bool Hn3.out, B⟩
  · have Hr := Lib.hid (show false = r by rw [← hr, decide_eq_false]; intro h; exact hl (by rw [h]))
    have hq : ((xs.length : Int) == (ys.length : Int)) = false := by rw [beq_eq_false_iff_ne]; omega
    have hq2 : ((xs.length : Int) != (ys.length : Int)) = true := by rw [bne, hq]; rfl
    generalize xs.length = n at *
    generalize ys.length = m at *
    clear h1 h2 hr
    go_enter Tryz.func26, Tryz.ntmps26
    go_wp2_with fail
    go_ret
    exact ⟨ret_bool Hr.out, Below.refl _ _⟩
set_option maxHeartbeats 4000000 in
theorem eq_string_any (ao bo : Option Addr) (ca cb : Nat) (xs ys : List ByteArray) (w : World) (h1 : SRow w ao xs) (h2 : SRow w bo ys) (l1 : xs.length ≤ 1000000) (_l2 : ys.length ≤ 1000000) :
    Calls Tryz.prog 25 #[.slice ao xs.length ca, .slice bo ys.length cb] w fun e w' => e = .returned (.bool (decide (xs = ys))) ∧ Below w.heap.size w w' := by
  obtain ⟨r, hr⟩ : ∃ r, decide (xs = ys) = r := ⟨_, rfl⟩
  rw [hr]
  by_cases hl : xs.length = ys.length
  · by_cases h0 : xs.length = 0
    · have hx : xs = [] := List.eq_nil_of_length_eq_zero h0
      have hy : ys = [] := List.eq_nil_of_length_eq_zero (by omega)
      have Hr := Lib.hid (show true = r by rw [← hr, hx, hy, decide_eq_true rfl])
      rw [show ys.length = 0 by omega, h0]
      clear h1 h2 l1 hl h0 hx hy hr
      go_enter Tryz.func25, Tryz.ntmps25
      go_wp2_with fail
      go_loopw [13] (fun i wr => i = .int .i64 0 ∧ wr = w) (fun _ _ => 0)
      case atStart => exact ⟨rfl, rfl⟩
      case round =>
        obtain ⟨rfl, rfl⟩ := hrel
        go_wp2_with fail
        go_ret
        exact ⟨ret_bool Hr.out, Below.refl _ _⟩
    · obtain ⟨b1, o1, rfl, q1, c1⟩ := h1.cells (by omega)
      obtain ⟨b2, o2, rfl, q2, c2⟩ := h2.cells (by omega)
      have Hc1 := Lib.hid c1
      have Hc2 := Lib.hid c2
      have Hr := Lib.hid hr
      rw [← hl]
      obtain ⟨n, hn⟩ : ∃ n, xs.length = n := ⟨_, rfl⟩
      have Hn := Lib.hid hn
      have Hn2 := Lib.hid (hl.symm.trans hn)
      rw [hn] at l1 h0 ⊢
      clear h1 h2 hl hr c1 c2 hn
      go_enter Tryz.func25, Tryz.ntmps25
      go_wp2_with fail
      go_loopw [13] (fun i wr => ∃ k : Nat, k ≤ n ∧ i = .int .i64 k ∧ Hid (∀ j, j < k → xs.getD j ⟨#[]⟩ = ys.getD j ⟨#[]⟩) ∧ Hid (Below w.heap.size w wr)) (fun i _ => n - (intOf i).toNat)
      case atStart => exact ⟨0, Nat.zero_le _, rfl, Lib.hid (fun j hj => absurd hj (Nat.not_lt_zero _)), Lib.hid (Below.refl _ _)⟩
      case round =>
        obtain ⟨k, hk, rfl, Hall, HB⟩ := hrel
        have B := HB.out
        by_cases hkn : k < n
        · have d1 : wr.cell? ⟨b1, o1 + k, none⟩ = some (.string (xs.getD k ⟨#[]⟩)) := by rw [B.cell (p := ⟨b1, o1 + k, none⟩) q1]; exact Hc1.out k (by rw [Hn.out]; exact hkn)
          have d2 : wr.cell? ⟨b2, o2 + k, none⟩ = some (.string (ys.getD k ⟨#[]⟩)) := by rw [B.cell (p := ⟨b2, o2 + k, none⟩) q2]; exact Hc2.out k (by rw [Hn2.out]; exact hkn)
          obtain ⟨x, hx⟩ : ∃ x, xs.getD k ⟨#[]⟩ = x := ⟨_, rfl⟩
          obtain ⟨y, hy⟩ : ∃ y, ys.getD k ⟨#[]⟩ = y := ⟨_, rfl⟩
          rw [hx] at d1
          rw [hy] at d2
          have Hx := Lib.hid hx
          have Hy := Lib.hid hy
          clear hx hy
          by_cases hxy : x = y
          · subst hxy
            have Hall2 := Lib.hid (show ∀ j, j < k + 1 → xs.getD j ⟨#[]⟩ = ys.getD j ⟨#[]⟩ from fun j hj => by
              rcases Nat.lt_or_eq_of_le (Nat.le_of_lt_succ hj) with h | h
              · exact Hall.out j h
              · rw [h, Hx.out, Hy.out])
            go_wp2_with fail
            go_quiet (fail)
            rename_i nq
            have B2 := Lib.hid (below_drewN B nq)
            go_wp2_with fail
            go_roundw
            case rel => exact ⟨k + 1, by omega, by go_num, Hall2, B2⟩
            case measure => simp [intOf]; omega
          · have Hn3 := Lib.hid (show false = r by
              rw [← Hr.out, decide_eq_false]
              intro h
              rw [h] at Hx
              exact hxy (Hx.out.symm.trans Hy.out))
            have hst := ty_str_eq x y
            rw [decide_eq_false hxy] at hst
            have hst2 : (x.toList != y.toList) = true := by rw [bne, hst]; rfl
            go_wp2_with fail
            go_quiet (fail)
            rename_i nq
            have B2 := below_drewN B nq
            go_wp2_with fail
            go_ret
            exact ⟨ret_bool Hn3.out, B2⟩
        · obtain rfl : k = n := by omega
          have Hn3 := Lib.hid (show true = r by
            rw [← Hr.out, decide_eq_true]
            exact list_ext (d := ⟨#[]⟩) (by rw [Hn.out, Hn2.out]) (fun j hj => Hall.out j (by rw [← Hn.out]; exact hj)))
          go_wp2_with fail
          go_ret
          exact ⟨ret_bool Hn3.out, B⟩
  · have Hr := Lib.hid (show false = r by rw [← hr, decide_eq_false]; intro h; exact hl (by rw [h]))
    have hq : ((xs.length : Int) == (ys.length : Int)) = false := by rw [beq_eq_false_iff_ne]; omega
    have hq2 : ((xs.length : Int) != (ys.length : Int)) = true := by rw [bne, hq]; rfl
    generalize xs.length = n at *
    generalize ys.length = m at *
    clear h1 h2 hr
    go_enter Tryz.func25, Tryz.ntmps25
    go_wp2_with fail
    go_ret
    exact ⟨ret_bool Hr.out, Below.refl _ _⟩
set_option maxHeartbeats 16000000 in
set_option maxRecDepth 100000 in
theorem psame_any (x y : Ty) (xw xk yw yk : Option Addr) (xwc xkc ywc ykc : Nat) (w : World) (hx : TyC w xw xk x) (hy : TyC w yw yk y) :
    Calls Tryz.prog 78 #[tyV x xw xwc xk xkc, tyV y yw ywc yk ykc] w fun e w' => e = .returned (.bool (decide (x = y))) ∧ Below w.heap.size w w' := by
  obtain ⟨a, s, n, ws, ks⟩ := x
  obtain ⟨c, t, m, vs, ls⟩ := y
  obtain ⟨r, hr⟩ : ∃ r, decide ((⟨a, s, n, ws, ks⟩ : Ty) = ⟨c, t, m, vs, ls⟩) = r := ⟨_, rfl⟩
  rw [hr]
  have HR := Lib.hid hr
  clear hr
  have l1 : ws.length ≤ 18 := hx.ok.wl
  have l2 : ks.length ≤ 18 := hx.ok.kl
  have l3 : vs.length ≤ 18 := hy.ok.wl
  have l4 : ls.length ≤ 18 := hy.ok.kl
  have HX := Lib.hid hx
  have HY := Lib.hid hy
  clear hx hy
  unfold tyV
  show Calls _ _ #[.agg #[.int .i64 a, .string s, .int .i64 n, .slice xw ws.length xwc, .slice xk ks.length xkc], .agg #[.int .i64 c, .string t, .int .i64 m, .slice yw vs.length ywc, .slice yk ls.length ykc]] _ _
  have hst := ty_str_eq s t
  by_cases c1 : a = c
  case neg =>
    have Hn := Lib.hid (show false = r by rw [← HR.out]; symm; rw [decide_eq_false_iff_not]; intro e; injection e; contradiction)
    have hq : (a == c) = false := by rw [beq_eq_false_iff_ne]; exact c1
    clear c1
    go_enter Tryz.func78, Tryz.ntmps78
    go_wp2_with fail
    go_ret
    exact ⟨ret_bool Hn.out, ((Below.refl _ _).alloc (Nat.le_refl _) _).alloc (by simp) _⟩
  subst c1
  by_cases c2 : s = t
  case neg =>
    have Hn := Lib.hid (show false = r by rw [← HR.out]; symm; rw [decide_eq_false_iff_not]; intro e; injection e; contradiction)
    rw [decide_eq_false c2] at hst
    clear c2
    go_enter Tryz.func78, Tryz.ntmps78
    go_wp2_with fail
    go_ret
    exact ⟨ret_bool Hn.out, ((Below.refl _ _).alloc (Nat.le_refl _) _).alloc (by simp) _⟩
  subst c2
  rw [decide_eq_true rfl] at hst
  by_cases c3 : n = m
  case neg =>
    have Hn := Lib.hid (show false = r by rw [← HR.out]; symm; rw [decide_eq_false_iff_not]; intro e; injection e; contradiction)
    have hq : (n == m) = false := by rw [beq_eq_false_iff_ne]; exact c3
    clear c3
    go_enter Tryz.func78, Tryz.ntmps78
    go_wp2_with fail
    go_ret
    exact ⟨ret_bool Hn.out, ((Below.refl _ _).alloc (Nat.le_refl _) _).alloc (by simp) _⟩
  subst c3
  obtain ⟨w1, h1⟩ : ∃ w1, w.alloc (.cells #[.int .i64 a, .string s, .int .i64 n, .slice xw ws.length xwc, .slice xk ks.length xkc] 38) = w1 := ⟨_, rfl⟩
  obtain ⟨w2, h2⟩ : ∃ w2, w1.alloc (.cells #[.int .i64 a, .string s, .int .i64 n, .slice yw vs.length ywc, .slice yk ls.length ykc] 38) = w2 := ⟨_, rfl⟩
  obtain ⟨k1, q1, z1⟩ := box_new h1
  obtain ⟨k2, q22, z2⟩ := box_new h2
  have BW := Lib.hid (q1.trans (q22.mono q1.size))
  have K1 := Lib.hid (k1.below q22)
  have K2 := Lib.hid k2
  have Z := Lib.hid (And.intro z1 z2)
  obtain ⟨x0, x1, x2, x3, x4⟩ := cell5 K1.out
  obtain ⟨y0, y1, y2, y3, y4⟩ := cell5 K2.out
  clear k1 k2 q1 q22 z1 z2
  have E1 := Lib.hid (eq_string_any xw yw xwc ywc ws vs w2 (HX.out.below BW.out).words (HY.out.below BW.out).words (by omega) (by omega))
  have E2 := Lib.hid (fun W (h : Below w2.heap.size w2 W) => eq_int_any xk yk xkc ykc ks ls W ((HX.out.below BW.out).below h).kids ((HY.out.below BW.out).below h).kids (by omega) (by omega))
  clear l1 l2 l3 l4
  by_cases c4 : ws = vs
  case neg =>
    have Hn := Lib.hid (show false = r by rw [← HR.out]; symm; rw [decide_eq_false_iff_not]; intro e; injection e; contradiction)
    rw [decide_eq_false c4] at E1
    clear c4
    generalize ws.length = p at *
    generalize vs.length = p2 at *
    generalize ks.length = q at *
    generalize ls.length = q2 at *
    go_enter Tryz.func78, Tryz.ntmps78
    go_wp2_with fail
    refine E1.out.mono ?_
    rintro e w3 ⟨rfl, b3⟩
    have B3 := Lib.hid (BW.out.trans (b3.mono BW.out.size))
    clear b3
    go_wp2_with fail
    go_ret
    exact ⟨ret_bool Hn.out, B3.out⟩
  rw [decide_eq_true c4] at E1
  by_cases c5 : ks = ls
  · have Hn := Lib.hid (show true = r by rw [← HR.out]; symm; rw [decide_eq_true_iff, c4, c5])
    have E3 := Lib.hid (fun W h => by have := E2.out W h; rw [decide_eq_true c5] at this; exact this)
    clear c4 c5 E2
    generalize ws.length = p at *
    generalize vs.length = p2 at *
    generalize ks.length = q at *
    generalize ls.length = q2 at *
    go_enter Tryz.func78, Tryz.ntmps78
    go_wp2_with fail
    refine E1.out.mono ?_
    rintro e w3 ⟨rfl, b3⟩
    have B3 := Lib.hid (BW.out.trans (b3.mono BW.out.size))
    have B3b := Lib.hid b3
    clear x0 x1 x2 x3 x4 y0 y1 y2 y3 y4 b3
    obtain ⟨-, -, -, -, x4⟩ := cell5 (K1.out.below B3b.out)
    obtain ⟨-, -, -, -, y4⟩ := cell5 (K2.out.below B3b.out)
    go_wp2_with fail
    refine (E3.out _ B3b.out).mono ?_
    rintro e w4 ⟨rfl, b4⟩
    have B4 := Lib.hid (B3.out.trans (b4.mono B3.out.size))
    clear b4 x4 y4
    go_wp2_with fail
    go_ret
    exact ⟨ret_bool Hn.out, B4.out⟩
  · have Hn := Lib.hid (show false = r by rw [← HR.out]; symm; rw [decide_eq_false_iff_not]; intro e; injection e; contradiction)
    have E3 := Lib.hid (fun W h => by have := E2.out W h; rw [decide_eq_false c5] at this; exact this)
    clear c4 c5 E2
    generalize ws.length = p at *
    generalize vs.length = p2 at *
    generalize ks.length = q at *
    generalize ls.length = q2 at *
    go_enter Tryz.func78, Tryz.ntmps78
    go_wp2_with fail
    refine E1.out.mono ?_
    rintro e w3 ⟨rfl, b3⟩
    have B3 := Lib.hid (BW.out.trans (b3.mono BW.out.size))
    have B3b := Lib.hid b3
    clear x0 x1 x2 x3 x4 y0 y1 y2 y3 y4 b3
    obtain ⟨-, -, -, -, x4⟩ := cell5 (K1.out.below B3b.out)
    obtain ⟨-, -, -, -, y4⟩ := cell5 (K2.out.below B3b.out)
    go_wp2_with fail
    refine (E3.out _ B3b.out).mono ?_
    rintro e w4 ⟨rfl, b4⟩
    have B4 := Lib.hid (B3.out.trans (b4.mono B3.out.size))
    clear b4 x4 y4
    go_wp2_with fail
    go_ret
    exact ⟨ret_bool Hn.out, B4.out⟩
set_option maxHeartbeats 4000000 in
theorem bare_any (t : Ty) (wo ko : Option Addr) (wc kc : Nat) (w : World) (hl : t.words.length ≤ 18) :
    Calls Tryz.prog 79 #[tyV t wo wc ko kc] w fun e w' => e = .returned (.bool (bareB t)) ∧ Below w.heap.size w w' := by
  obtain ⟨a, s, n, ws, ks⟩ := t
  obtain ⟨r, hr⟩ : ∃ r, bareB (⟨a, s, n, ws, ks⟩ : Ty) = r := ⟨_, rfl⟩
  rw [hr]
  unfold bareB at hr
  unfold tyV
  show Calls _ _ #[.agg #[.int .i64 a, .string s, .int .i64 n, .slice wo ws.length wc, .slice ko ks.length kc]] _ _
  have hl : ws.length ≤ 18 := hl
  by_cases hs : s.size = 0
  · have he : s.toList = [] := by rw [ByteArray.toList_eq, eq_nil_of_size hs]
    by_cases hw : ws.length = 0
    · have Hn := Lib.hid (show true = r by rw [← hr]; symm; rw [decide_eq_true_iff]; exact ⟨hs, List.eq_nil_of_length_eq_zero hw⟩)
      rw [hw]
      clear hr hw hl
      go_enter Tryz.func79, Tryz.ntmps79
      go_wp2_with fail
      go_ret
      exact ⟨ret_bool Hn.out, (Below.refl _ _).alloc (Nat.le_refl _) _⟩
    · have Hn := Lib.hid (show false = r by rw [← hr]; symm; rw [decide_eq_false_iff_not]; rintro ⟨-, g⟩; exact hw (by show ws.length = 0; rw [show ws = [] from g]; rfl))
      obtain ⟨p, hp⟩ : ∃ p, ws.length = p := ⟨_, rfl⟩
      rw [hp] at hw hl ⊢
      have hq : ((p : Int) == 0) = false := by rw [beq_eq_false_iff_ne]; omega
      clear hr hp
      go_enter Tryz.func79, Tryz.ntmps79
      go_wp2_with fail
      go_ret
      exact ⟨ret_bool Hn.out, (Below.refl _ _).alloc (Nat.le_refl _) _⟩
  · have Hn := Lib.hid (show false = r by rw [← hr]; symm; rw [decide_eq_false_iff_not]; rintro ⟨g, -⟩; exact hs g)
    have he := list_ne (s := s) (by omega)
    have he2 := empty_false (s := s) (by omega)
    clear hr
    go_enter Tryz.func79, Tryz.ntmps79
    go_wp2_with fail
    go_ret
    exact ⟨ret_bool Hn.out, (Below.refl _ _).alloc (Nat.le_refl _) _⟩
end Go.Proofs.YtkmnfkhchcoamaaGreatDoor

