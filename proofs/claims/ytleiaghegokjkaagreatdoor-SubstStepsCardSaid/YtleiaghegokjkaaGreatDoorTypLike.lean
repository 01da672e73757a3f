/- Like, of two types. -/
import Derived.Test.YtleiaghegokjkaaGreatDoorTypBase
import Derived.Deep.QuietTactic
import Derived.BigQuiet
namespace Go.Proofs.YtleiaghegokjkaaGreatDoor
open Go.RowKit
set_option linter.unusedSimpArgs false
set_option linter.unusedVariables false

set_option maxHeartbeats 16000000 in
set_option maxRecDepth 100000 in
theorem like_any (x y : Ty) (xw xk yw yk : Option Addr) (xwc xkc ywc ykc : Nat) (w : World) (hx : TyC w xw xk x) (hy : TyC w yw yk y) :
    Calls Tryz.prog 20 #[tyV x xw xwc xk xkc, tyV y yw ywc yk ykc] w fun e w' => e = .returned (.bool (decide (x = y))) ∧ Below w.heap.size w w' := by
  obtain ⟨a, s, n, ws, ks⟩ := x
  obtain ⟨c, t, m, vs, ls⟩ := y
  obtain ⟨r, hr⟩ : ∃ r, decide ((⟨a, s, n, ws, ks⟩ : Ty) = ⟨c, t, m, vs, ls⟩) = r := ⟨_, rfl⟩
  rw [hr]
  have HR := Lib.hid hr
  clear hr
  have l1 : ws.length ≤ 18 := hx.ok.wl
  have l2 : ks.length ≤ 18 := hx.ok.kl
  have l3 : vs.length ≤ 18 := hy.ok.wl
  have l4 : ls.length ≤ 18 := hy.ok.kl
  have HX := Lib.hid hx
  have HY := Lib.hid hy
  clear hx hy
  unfold tyV
  show Calls _ _ #[.agg #[.int .i64 a, .string s, .int .i64 n, .slice xw ws.length xwc, .slice xk ks.length xkc], .agg #[.int .i64 c, .string t, .int .i64 m, .slice yw vs.length ywc, .slice yk ls.length ykc]] _ _
  have hst := ty_str_eq s t
  by_cases c1 : a = c
  case neg =>
    have Hn := Lib.hid (show false = r by rw [← HR.out]; symm; rw [decide_eq_false_iff_not]; intro e; injection e; contradiction)
    have hq : (a != c) = true := by rw [bne_iff_ne]; exact c1
    clear c1
    go_enter Tryz.func20, Tryz.ntmps20
    go_wp2_with fail
    go_ret
    exact ⟨ret_bool Hn.out, ((Below.refl _ _).alloc (Nat.le_refl _) _).alloc (by simp) _⟩
  subst c1
  by_cases c2 : s = t
  case neg =>
    have Hn := Lib.hid (show false = r by rw [← HR.out]; symm; rw [decide_eq_false_iff_not]; intro e; injection e; contradiction)
    rw [decide_eq_false c2] at hst
    clear c2
    go_enter Tryz.func20, Tryz.ntmps20
    go_wp2_with fail
    go_ret
    exact ⟨ret_bool Hn.out, ((Below.refl _ _).alloc (Nat.le_refl _) _).alloc (by simp) _⟩
  subst c2
  rw [decide_eq_true rfl] at hst
  by_cases c3 : n = m
  case neg =>
    have Hn := Lib.hid (show false = r by rw [← HR.out]; symm; rw [decide_eq_false_iff_not]; intro e; injection e; contradiction)
    have hq : (n != m) = true := by rw [bne_iff_ne]; exact c3
    clear c3
    go_enter Tryz.func20, Tryz.ntmps20
    go_wp2_with fail
    go_ret
    exact ⟨ret_bool Hn.out, ((Below.refl _ _).alloc (Nat.le_refl _) _).alloc (by simp) _⟩
  subst c3
  obtain ⟨p, hp⟩ : ∃ p, ws.length = p := ⟨_, rfl⟩
  obtain ⟨p2, hp2⟩ : ∃ p, vs.length = p := ⟨_, rfl⟩
  obtain ⟨q, hq⟩ : ∃ q, ks.length = q := ⟨_, rfl⟩
  obtain ⟨q2, hq2⟩ : ∃ q, ls.length = q := ⟨_, rfl⟩
  have HP := Lib.hid hp
  have HP2 := Lib.hid hp2
  have HQ := Lib.hid hq
  have HQ2 := Lib.hid hq2
  rw [hp] at l1 ⊢
  rw [hp2] at l3 ⊢
  rw [hq] at l2 ⊢
  rw [hq2] at l4 ⊢
  clear hp hp2 hq hq2
  by_cases c4 : p = p2
  case neg =>
    have Hn := Lib.hid (show false = r by rw [← HR.out]; symm; rw [decide_eq_false_iff_not]; intro e; injection e with _ _ _ e _; exact c4 (by rw [← HP.out, ← HP2.out, e]))
    have hq : ((p : Int) == (p2 : Int)) = false := by rw [beq_eq_false_iff_ne]; omega
    go_enter Tryz.func20, Tryz.ntmps20
    go_wp2_with fail
    go_ret
    exact ⟨ret_bool Hn.out, ((Below.refl _ _).alloc (Nat.le_refl _) _).alloc (by simp) _⟩
  subst c4
  by_cases c5 : q = q2
  case neg =>
    have Hn := Lib.hid (show false = r by rw [← HR.out]; symm; rw [decide_eq_false_iff_not]; intro e; injection e with _ _ _ _ e; exact c5 (by rw [← HQ.out, ← HQ2.out, e]))
    have hq : ((q : Int) == (q2 : Int)) = false := by rw [beq_eq_false_iff_ne]; omega
    go_enter Tryz.func20, Tryz.ntmps20
    go_wp2_with fail
    go_ret
    exact ⟨ret_bool Hn.out, ((Below.refl _ _).alloc (Nat.le_refl _) _).alloc (by simp) _⟩
  subst c5
  obtain ⟨w1, h1⟩ : ∃ w1, w.alloc (.cells #[.int .i64 a, .string s, .int .i64 n, .slice xw p xwc, .slice xk q xkc] 41) = w1 := ⟨_, rfl⟩
  obtain ⟨w2, h2⟩ : ∃ w2, w1.alloc (.cells #[.int .i64 a, .string s, .int .i64 n, .slice yw p ywc, .slice yk q ykc] 41) = w2 := ⟨_, rfl⟩
  obtain ⟨k1, q1, z1⟩ := box_new h1
  obtain ⟨k2, q22, z2⟩ := box_new h2
  have BW := Lib.hid (q1.trans (q22.mono q1.size))
  have K1 := Lib.hid (k1.below q22)
  have K2 := Lib.hid k2
  have Z := Lib.hid (And.intro z1 z2)
  obtain ⟨x0, x1, x2, x3, x4⟩ := cell5 K1.out
  obtain ⟨y0, y1, y2, y3, y4⟩ := cell5 K2.out
  clear k1 k2 q1 q22 z1 z2
  go_enter Tryz.func20, Tryz.ntmps20
  go_wp2_with fail
  clear x0 x1 x2 x3 x4 y0 y1 y2 y3 y4 hst
  go_loopw [47] (fun i wr => ∃ k : Nat, k ≤ p ∧ i = .int .i64 k ∧ Hid (∀ j, j < k → ws.getD j ⟨#[]⟩ = vs.getD j ⟨#[]⟩) ∧ Hid (Below w2.heap.size w2 wr)) (fun i _ => p - (intOf i).toNat)
  case atStart => exact ⟨0, Nat.zero_le _, rfl, Lib.hid (fun j hj => absurd hj (Nat.not_lt_zero _)), Lib.hid (Below.refl _ _)⟩
  case round =>
    obtain ⟨k, hk, rfl, Hall, HB⟩ := hrel
    obtain ⟨-, -, -, x3, x4⟩ := cell5 (K1.out.below HB.out)
    obtain ⟨-, -, -, y3, y4⟩ := cell5 (K2.out.below HB.out)
    have BB := Lib.hid (BW.out.trans (HB.out.mono BW.out.size))
    by_cases hkl : k < p
    · obtain ⟨xb, xo, rfl, hxb, hxc⟩ := (HX.out.below BB.out).words.cells (by show 0 < ws.length; rw [HP.out]; omega)
      obtain ⟨yb, yo, rfl, hyb, hyc⟩ := (HY.out.below BB.out).words.cells (by show 0 < vs.length; rw [HP2.out]; omega)
      have cx : wr.cell? ⟨xb, xo + k, none⟩ = some (.string (ws.getD k ⟨#[]⟩)) := hxc k (by show k < ws.length; rw [HP.out]; exact hkl)
      have cy : wr.cell? ⟨yb, yo + k, none⟩ = some (.string (vs.getD k ⟨#[]⟩)) := hyc k (by show k < vs.length; rw [HP2.out]; exact hkl)
      obtain ⟨u, hu⟩ : ∃ u, ws.getD k ⟨#[]⟩ = u := ⟨_, rfl⟩
      obtain ⟨v, hv⟩ : ∃ v, vs.getD k ⟨#[]⟩ = v := ⟨_, rfl⟩
      have HU := Lib.hid (And.intro hu hv)
      rw [hu] at cx
      rw [hv] at cy
      have hst := ty_str_eq u v
      clear hu hv hxb hyb hxc hyc x4 y4
      by_cases he : u = v
      · rw [decide_eq_true he] at hst
        have Hx := Lib.hid (show ∀ j, j < k + 1 → ws.getD j ⟨#[]⟩ = vs.getD j ⟨#[]⟩ from fun j hj => by
          rcases Nat.lt_or_eq_of_le (Nat.le_of_lt_succ hj) with h3 | h3
          · exact Hall.out j h3
          · subst h3; rw [HU.out.1, HU.out.2]; exact he)
        clear he
        go_wp2_with fail
        go_quiet (fail)
        rename_i nq
        have BD := Lib.hid (below_drewN HB.out nq)
        clear x3 y3 cx cy
        go_wp2_with fail
        go_roundw
        case rel => exact ⟨k + 1, by omega, by go_num, Hx, BD⟩
        case measure => simp [intOf]; omega
      · rw [decide_eq_false he] at hst
        have Hn := Lib.hid (show false = r by
          rw [← HR.out]; symm; rw [decide_eq_false_iff_not]; intro e
          injection e with _ _ _ e _
          exact he (by rw [← HU.out.1, ← HU.out.2, e]))
        clear he
        go_wp2_with fail
        go_quiet (fail)
        rename_i nq
        have BD := Lib.hid (below_drewN HB.out nq)
        clear x3 y3 cx cy
        go_wp2_with fail
        go_ret
        exact ⟨ret_bool Hn.out, BW.out.trans (BD.out.mono BW.out.size)⟩
    · obtain rfl : k = p := by omega
      have HW := Lib.hid (show ws = vs from list_ext (HP.out.trans HP2.out.symm) (fun j hj => Hall.out j (by rw [HP.out] at hj; exact hj)))
      clear hkl x3 y3
      go_wp2_with fail
      clear x4 y4
      go_loopw [65] (fun i wr => ∃ g : Nat, g ≤ q ∧ i = .int .i64 g ∧ Hid (∀ j, j < g → ks.getD j 0 = ls.getD j 0) ∧ Hid (Below w2.heap.size w2 wr)) (fun i _ => q - (intOf i).toNat)
      case atStart => exact ⟨0, Nat.zero_le _, rfl, Lib.hid (fun j hj => absurd hj (Nat.not_lt_zero _)), HB⟩
      case round =>
        clear BB HB Hall
        obtain ⟨g, hg, rfl, Hall, HB⟩ := hrel
        obtain ⟨-, -, -, -, x4⟩ := cell5 (K1.out.below HB.out)
        obtain ⟨-, -, -, -, y4⟩ := cell5 (K2.out.below HB.out)
        have BB := Lib.hid (BW.out.trans (HB.out.mono BW.out.size))
        by_cases hgl : g < q
        · obtain ⟨xb, xo, rfl, hxb, hxc⟩ := (HX.out.below BB.out).kids.cells (by show 0 < ks.length; rw [HQ.out]; omega)
          obtain ⟨yb, yo, rfl, hyb, hyc⟩ := (HY.out.below BB.out).kids.cells (by show 0 < ls.length; rw [HQ2.out]; omega)
          have cx : wr.cell? ⟨xb, xo + g, none⟩ = some (.int .i64 (ks.getD g 0)) := hxc g (by show g < ks.length; rw [HQ.out]; exact hgl)
          have cy : wr.cell? ⟨yb, yo + g, none⟩ = some (.int .i64 (ls.getD g 0)) := hyc g (by show g < ls.length; rw [HQ2.out]; exact hgl)
          obtain ⟨u, hu⟩ : ∃ u, ks.getD g 0 = u := ⟨_, rfl⟩
          obtain ⟨v, hv⟩ : ∃ v, ls.getD g 0 = v := ⟨_, rfl⟩
          have HU := Lib.hid (And.intro hu hv)
          rw [hu] at cx
          rw [hv] at cy
          clear hu hv hxb hyb hxc hyc
          go_wp2_with fail
          go_quiet (fail)
          rename_i nq
          have BD := Lib.hid (below_drewN HB.out nq)
          clear x4 y4 cx cy
          by_cases he : u = v
          · have Hx := Lib.hid (show ∀ j, j < g + 1 → ks.getD j 0 = ls.getD j 0 from fun j hj => by
              rcases Nat.lt_or_eq_of_le (Nat.le_of_lt_succ hj) with h3 | h3
              · exact Hall.out j h3
              · subst h3; rw [HU.out.1, HU.out.2]; exact he)
            have hqb : (u != v) = false := by rw [bne_eq_false_iff_eq]; exact he
            clear he
            go_wp2_with fail
            go_roundw
            case rel => exact ⟨g + 1, by omega, by go_num, Hx, BD⟩
            case measure => simp [intOf]; omega
          · have Hn := Lib.hid (show false = r by
              rw [← HR.out]; symm; rw [decide_eq_false_iff_not]; intro e
              injection e with _ _ _ _ e
              exact he (by rw [← HU.out.1, ← HU.out.2, e]))
            have hqb : (u != v) = true := by rw [bne_iff_ne]; exact he
            clear he
            go_wp2_with fail
            go_ret
            exact ⟨ret_bool Hn.out, BW.out.trans (BD.out.mono BW.out.size)⟩
        · obtain rfl : g = q := by omega
          have Hn := Lib.hid (show true = r by
            have hk2 : ks = ls := list_ext (HQ.out.trans HQ2.out.symm) (fun j hj => Hall.out j (by rw [HQ.out] at hj; exact hj))
            rw [← HR.out, HW.out, hk2]
            exact (decide_eq_true rfl).symm)
          clear hgl x4 y4
          go_wp2_with fail
          go_ret
          exact ⟨ret_bool Hn.out, BB.out⟩
end Go.Proofs.YtleiaghegokjkaaGreatDoor
