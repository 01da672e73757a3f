/- The reference's Like. -/
import Derived.Test.YtfcoelnibpinmaaDoorAstLike2
namespace Go.Proofs.YtfcoelnibpinmaaDoor
open Go.RowKit

set_option maxHeartbeats 16000000 in
set_option maxRecDepth 100000 in
theorem reflike_any (ao bo : Option Addr) (ca cb : Nat) (xs ys : List Nd) (w : World) (h1 : NRow w ao xs) (h2 : NRow w bo ys) (k1 : ∀ n ∈ xs, n.kids.length ≤ 2000) (k2 : ∀ n ∈ ys, n.kids.length ≤ 2000) (l1 : xs.length ≤ 100000) :
    Calls Tryd.prog 11 #[.slice ao xs.length ca, .slice bo ys.length cb] w fun e w' => e = .returned (.bool (likeB xs ys)) ∧ Below w.heap.size w w' := by
  obtain ⟨r, hr⟩ : ∃ r, likeB xs ys = r := ⟨_, rfl⟩
  rw [hr]
  have Hr := Lib.hid hr
  clear hr
  by_cases hl : xs.length = ys.length
  · by_cases h0 : xs.length = 0
    · have Hr2 := Lib.hid (show true = r by
        rw [← Hr.out]
        unfold likeB
        rw [decide_eq_true ⟨hl, fun i hi => by omega⟩])
      rw [show ys.length = 0 by omega, h0]
      clear h1 h2 k1 k2 l1 hl h0
      go_enter Tryd.func11, Tryd.ntmps11
      go_wp2_with fail
      go_loopw [14] (fun i wr => i = .int .i64 0 ∧ wr = w) (fun _ _ => 0)
      case atStart => exact ⟨rfl, rfl⟩
      case round =>
        obtain ⟨rfl, rfl⟩ := hrel
        go_wp2_with fail
        go_ret
        exact ⟨ret_bool Hr2.out, Below.refl _ _⟩
    · obtain ⟨b1, o1, rfl, q1, c1⟩ := h1.nodes (by omega)
      obtain ⟨b2, o2, rfl, q2, c2⟩ := h2.nodes (by omega)
      have Hc1 := Lib.hid c1
      have Hc2 := Lib.hid c2
      have Hkx := Lib.hid k1
      have Hky := Lib.hid k2
      rw [← hl]
      obtain ⟨n, hn⟩ : ∃ n, xs.length = n := ⟨_, rfl⟩
      have Hn := Lib.hid hn
      have Hn2 := Lib.hid (hl.symm.trans hn)
      rw [hn] at l1 h0 ⊢
      clear h1 h2 hl c1 c2 hn k1 k2
      go_enter Tryd.func11, Tryd.ntmps11
      go_wp2_with fail
      go_loopw [14] (fun i wr => ∃ k : Nat, k ≤ n ∧ i = .int .i64 k ∧ Hid (∀ j (h1 : j < xs.length) (h2 : j < ys.length), j < k → likeN xs[j] ys[j] = true) ∧ Hid (Below w.heap.size w wr)) (fun i _ => n - (intOf i).toNat)
      case atStart => exact ⟨0, Nat.zero_le _, rfl, Lib.hid (fun j _ _ hj => absurd hj (Nat.not_lt_zero _)), Lib.hid (Below.refl _ _)⟩
      case round =>
        obtain ⟨k, hk, rfl, Hall, HB⟩ := hrel
        have B := HB.out
        by_cases hkn : k < n
        · obtain ⟨xd, hxd⟩ : ∃ nd, xs[k]'(by rw [Hn.out]; exact hkn) = nd := ⟨_, rfl⟩
          have hxa := Hc1.out k (by rw [Hn.out]; exact hkn)
          rw [hxd] at hxa
          have hkx := Hkx.out _ (List.getElem_mem (show k < xs.length by rw [Hn.out]; exact hkn))
          rw [hxd] at hkx
          have Hxd := Lib.hid hxd
          clear hxd
          obtain ⟨x0, x1, ⟨xka, xkc, x2, -, x4⟩, x5⟩ := hxa.below q1 B
          have xR := Lib.hid x4
          have XA := Lib.hid hxa
          clear hxa x4
          obtain ⟨yd, hyd⟩ : ∃ nd, ys[k]'(by rw [Hn2.out]; exact hkn) = nd := ⟨_, rfl⟩
          have hya := Hc2.out k (by rw [Hn2.out]; exact hkn)
          rw [hyd] at hya
          have hky := Hky.out _ (List.getElem_mem (show k < ys.length by rw [Hn2.out]; exact hkn))
          rw [hyd] at hky
          have Hyd := Lib.hid hyd
          clear hyd
          obtain ⟨y0, y1, ⟨yka, ykc, y2, -, y4⟩, y5⟩ := hya.below q2 B
          have yR := Lib.hid y4
          have YA := Lib.hid hya
          clear hya y4
          obtain ⟨-, -, ⟨xkaw, xkcw, xe2, -, xrow⟩, -⟩ := XA.out
          have xd2 := x2
          rw [B.cell (p := ⟨b1, o1 + k * 4 + 2, none⟩) q1, xe2] at xd2
          obtain ⟨rfl, rfl⟩ : xkaw = xka ∧ xkcw = xkc := by simpa using xd2
          obtain ⟨-, -, ⟨ykaw, ykcw, ye2, -, yrow⟩, -⟩ := YA.out
          have yd2 := y2
          rw [B.cell (p := ⟨b2, o2 + k * 4 + 2, none⟩) q2, ye2] at yd2
          obtain ⟨rfl, rfl⟩ : ykaw = yka ∧ ykcw = ykc := by simpa using yd2
          clear xR yR xd2 yd2 xe2 ye2
          have xR := Lib.hid xrow
          have yR := Lib.hid yrow
          clear xrow yrow
          have hst := str_eq xd.text yd.text
          obtain ⟨l, hlx⟩ : ∃ l, xd.kids.length = l := ⟨_, rfl⟩
          obtain ⟨m, hly⟩ : ∃ m, yd.kids.length = m := ⟨_, rfl⟩
          have Lx := Lib.hid hlx
          have Ly := Lib.hid hly
          rw [hlx] at x2 hkx
          rw [hly] at y2 hky
          clear hlx hly
          obtain ⟨xkd, exk⟩ : ∃ v, xd.kind = v := ⟨_, rfl⟩
          obtain ⟨ykd, eyk⟩ : ∃ v, yd.kind = v := ⟨_, rfl⟩
          obtain ⟨xtx, ext⟩ : ∃ v, xd.text = v := ⟨_, rfl⟩
          obtain ⟨ytx, eyt⟩ : ∃ v, yd.text = v := ⟨_, rfl⟩
          rw [exk] at x0
          rw [eyk] at y0
          rw [ext] at x1 hst
          rw [eyt] at y1 hst
          have Exk := Lib.hid exk
          have Eyk := Lib.hid eyk
          have Ext := Lib.hid ext
          have Eyt := Lib.hid eyt
          clear exk eyk ext eyt
          by_cases hkk : xkd = ykd
          · subst hkk
            by_cases htt : xtx = ytx
            · rw [decide_eq_true htt] at hst
              have Htt := Lib.hid (show xd.text = yd.text by rw [Ext.out, Eyt.out]; exact htt)
              have Hkk := Lib.hid (Exk.out.trans Eyk.out.symm)
              clear htt
              by_cases hlm : l = m
              · subst hlm
                by_cases hl0 : l = 0
                · subst hl0
                  have Hall2 := Lib.hid (show ∀ j (h1 : j < xs.length) (h2 : j < ys.length), j < k + 1 → likeN xs[j] ys[j] = true from fun j a b hj => by
                    rcases Nat.lt_or_eq_of_le (Nat.le_of_lt_succ hj) with h | h
                    · exact Hall.out j a b h
                    · subst h
                      rw [Hxd.out, Hyd.out]
                      exact decide_eq_true ⟨Hkk.out, Htt.out, by rw [List.eq_nil_of_length_eq_zero Lx.out, List.eq_nil_of_length_eq_zero Ly.out]⟩)
                  go_wp2_with fail
                  go_quiet (fail)
                  rename_i nq
                  have B := below_drewN B nq
                  have x2 : (wr.drewN nq).cell? ⟨b1, o1 + k * 4 + 2, none⟩ = _ := x2
                  have y2 : (wr.drewN nq).cell? ⟨b2, o2 + k * 4 + 2, none⟩ = _ := y2
                  go_wp2_with fail
                  go_loopw [62] (fun p wr2 => p = .int .i64 0 ∧ Hid (Below w.heap.size w wr2)) (fun _ _ => 0)
                  case atStart => exact ⟨rfl, Lib.hid B⟩
                  case round =>
                    obtain ⟨rfl, HB2⟩ := hrel
                    go_wp2_with fail
                    go_roundw
                    case rel => exact ⟨k + 1, by omega, by go_num, Hall2, HB2⟩
                    case measure => simp [intOf]; omega
                · obtain ⟨kb1, ko1, rfl, u1, v1⟩ := xR.out.cells (by rw [Lx.out]; omega)
                  obtain ⟨kb2, ko2, rfl, u2, v2⟩ := yR.out.cells (by rw [Ly.out]; omega)
                  have V1 := Lib.hid v1
                  have V2 := Lib.hid v2
                  have XS := Lib.hid x2
                  have YS := Lib.hid y2
                  rw [B.cell (p := ⟨b1, o1 + k * 4 + 2, none⟩) q1] at XS
                  rw [B.cell (p := ⟨b2, o2 + k * 4 + 2, none⟩) q2] at YS
                  clear v1 v2 xR yR
                  go_wp2_with fail
                  go_quiet (fail)
                  rename_i nq
                  have B := below_drewN B nq
                  have x2 : (wr.drewN nq).cell? ⟨b1, o1 + k * 4 + 2, none⟩ = _ := x2
                  have y2 : (wr.drewN nq).cell? ⟨b2, o2 + k * 4 + 2, none⟩ = _ := y2
                  go_wp2_with fail
                  go_loopw [62] (fun p wr2 => ∃ q : Nat, q ≤ l ∧ p = .int .i64 q ∧ Hid (∀ j, j < q → xd.kids.getD j 0 = yd.kids.getD j 0) ∧ Hid (Below w.heap.size w wr2)) (fun p _ => l - (intOf p).toNat)
                  case atStart => exact ⟨0, Nat.zero_le _, rfl, Lib.hid (fun j hj => absurd hj (Nat.not_lt_zero _)), Lib.hid B⟩
                  case round =>
                    clear x0 x1 x2 x5 y0 y1 y2 y5 B
                    obtain ⟨q, hq, rfl, Hin, HB2⟩ := hrel
                    have B := HB2.out
                    obtain ⟨-, -, ⟨xka', xkc', x2, -, -⟩, -⟩ := XA.out.below q1 B
                    obtain ⟨-, -, ⟨yka', ykc', y2, -, -⟩, -⟩ := YA.out.below q2 B
                    rw [B.cell (p := ⟨b1, o1 + k * 4 + 2, none⟩) q1, XS.out] at x2
                    rw [B.cell (p := ⟨b2, o2 + k * 4 + 2, none⟩) q2, YS.out] at y2
                    clear x2 y2
                    have x2 := XS.out
                    have y2 := YS.out
                    rw [← B.cell (p := ⟨b1, o1 + k * 4 + 2, none⟩) q1] at x2
                    rw [← B.cell (p := ⟨b2, o2 + k * 4 + 2, none⟩) q2] at y2
                    by_cases hql : q < l
                    · have z1 : wr.cell? ⟨kb1, ko1 + q, none⟩ = some (.int .i64 (xd.kids.getD q 0)) := by rw [B.cell (p := ⟨kb1, ko1 + q, none⟩) u1]; exact V1.out q (by rw [Lx.out]; exact hql)
                      have z2 : wr.cell? ⟨kb2, ko2 + q, none⟩ = some (.int .i64 (yd.kids.getD q 0)) := by rw [B.cell (p := ⟨kb2, ko2 + q, none⟩) u2]; exact V2.out q (by rw [Ly.out]; exact hql)
                      obtain ⟨x, hx⟩ : ∃ x, xd.kids.getD q 0 = x := ⟨_, rfl⟩
                      obtain ⟨y, hy⟩ : ∃ y, yd.kids.getD q 0 = y := ⟨_, rfl⟩
                      rw [hx] at z1
                      rw [hy] at z2
                      have Hx := Lib.hid hx
                      have Hy := Lib.hid hy
                      clear hx hy
                      by_cases hxy : x = y
                      · subst hxy
                        have Hin2 := Lib.hid (show ∀ j, j < q + 1 → xd.kids.getD j 0 = yd.kids.getD j 0 from fun j hj => by
                          rcases Nat.lt_or_eq_of_le (Nat.le_of_lt_succ hj) with h | h
                          · exact Hin.out j h
                          · rw [h, Hx.out, Hy.out])
                        go_wp2_with fail
                        go_quiet (fail)
                        rename_i nq
                        have B2 := Lib.hid (below_drewN B nq)
                        go_wp2_with fail
                        go_roundw
                        case rel => exact ⟨q + 1, by omega, by go_num, Hin2, B2⟩
                        case measure => simp [intOf]; omega
                      · have Hr2 := Lib.hid (show false = r by
                          rw [← Hr.out]
                          unfold likeB
                          rw [decide_eq_false]
                          intro h
                          have h9 := h.2 k (by rw [Hn.out]; exact hkn) (by rw [Hn2.out]; exact hkn)
                          rw [Hxd.out, Hyd.out] at h9
                          have h10 := (of_decide_eq_true h9).2.2
                          rw [h10] at Hx
                          exact hxy (Hx.out.symm.trans Hy.out))
                        have hqq : (x == y) = false := by rw [beq_eq_false_iff_ne]; exact hxy
                        have hqq2 : (x != y) = true := by rw [bne, hqq]; rfl
                        go_wp2_with fail
                        go_quiet (fail)
                        rename_i nq
                        have B2 := below_drewN B nq
                        go_wp2_with fail
                        go_ret
                        exact ⟨ret_bool Hr2.out, B2⟩
                    · obtain rfl : q = l := by omega
                      have Hall2 := Lib.hid (show ∀ j (h1 : j < xs.length) (h2 : j < ys.length), j < k + 1 → likeN xs[j] ys[j] = true from fun j a b hj => by
                        rcases Nat.lt_or_eq_of_le (Nat.le_of_lt_succ hj) with h | h
                        · exact Hall.out j a b h
                        · subst h
                          rw [Hxd.out, Hyd.out]
                          refine decide_eq_true ⟨Hkk.out, Htt.out, ?_⟩
                          apply List.ext_getElem (by rw [Lx.out, Ly.out])
                          intro i a' b'
                          have := Hin.out i (by rw [← Lx.out]; exact a')
                          rw [List.getD_eq_getElem?_getD, List.getD_eq_getElem?_getD, List.getElem?_eq_getElem a', List.getElem?_eq_getElem b'] at this
                          exact this)
                      go_wp2_with fail
                      go_roundw
                      case rel => exact ⟨k + 1, by omega, by go_num, Hall2, Lib.hid B⟩
                      case measure => simp [intOf]; omega
              · have hlq : ((l : Int) == (m : Int)) = false := by rw [beq_eq_false_iff_ne]; omega
                have hlq2 : ((l : Int) != (m : Int)) = true := by rw [bne, hlq]; rfl
                have Hr2 := Lib.hid (show false = r by
                  rw [← Hr.out]
                  unfold likeB
                  rw [decide_eq_false]
                  intro h
                  have h9 := h.2 k (by rw [Hn.out]; exact hkn) (by rw [Hn2.out]; exact hkn)
                  rw [Hxd.out, Hyd.out] at h9
                  exact (fun h => hlm (by rw [← Lx.out, ← Ly.out, h.2.2])) (of_decide_eq_true h9))
                go_wp2_with fail
                go_quiet (fail)
                rename_i nq
                have B2 := below_drewN B nq
                go_wp2_with fail
                go_ret
                exact ⟨ret_bool Hr2.out, B2⟩
            · rw [decide_eq_false htt] at hst
              have hst2 : (xtx.toList != ytx.toList) = true := by rw [bne, hst]; rfl
              have Hr2 := Lib.hid (show false = r by
                rw [← Hr.out]
                unfold likeB
                rw [decide_eq_false]
                intro h
                have h9 := h.2 k (by rw [Hn.out]; exact hkn) (by rw [Hn2.out]; exact hkn)
                rw [Hxd.out, Hyd.out] at h9
                exact (fun h => htt (by rw [← Ext.out, ← Eyt.out]; exact h.2.1)) (of_decide_eq_true h9))
              go_wp2_with fail
              go_quiet (fail)
              rename_i nq
              have B2 := below_drewN B nq
              go_wp2_with fail
              go_ret
              exact ⟨ret_bool Hr2.out, B2⟩
          · have hkq : (xkd == ykd) = false := by rw [beq_eq_false_iff_ne]; exact hkk
            have hkq2 : (xkd != ykd) = true := by rw [bne, hkq]; rfl
            have Hr2 := Lib.hid (show false = r by
              rw [← Hr.out]
              unfold likeB
              rw [decide_eq_false]
              intro h
              have h9 := h.2 k (by rw [Hn.out]; exact hkn) (by rw [Hn2.out]; exact hkn)
              rw [Hxd.out, Hyd.out] at h9
              exact (fun h => hkk (by rw [← Exk.out, ← Eyk.out]; exact h.1)) (of_decide_eq_true h9))
            go_wp2_with fail
            go_quiet (fail)
            rename_i nq
            have B2 := below_drewN B nq
            go_wp2_with fail
            go_ret
            exact ⟨ret_bool Hr2.out, B2⟩
        · obtain rfl : k = n := by omega
          have Hr2 := Lib.hid (show true = r by
            rw [← Hr.out]
            unfold likeB
            rw [decide_eq_true ⟨by rw [Hn.out, Hn2.out], fun i a b => Hall.out i a b (by rw [← Hn.out]; exact a)⟩])
          go_wp2_with fail
          go_ret
          exact ⟨ret_bool Hr2.out, B⟩
  · have Hr2 := Lib.hid (show false = r by rw [← Hr.out]; unfold likeB; rw [decide_eq_false]; exact fun h => hl h.1)
    have hq : ((xs.length : Int) == (ys.length : Int)) = false := by rw [beq_eq_false_iff_ne]; omega
    have hq2 : ((xs.length : Int) != (ys.length : Int)) = true := by rw [bne, hq]; rfl
    clear Hr k1 k2 h1 h2
    generalize xs.length = n at *
    generalize ys.length = m at *
    go_enter Tryd.func11, Tryd.ntmps11
    go_wp2_with fail
    go_ret
    exact ⟨ret_bool Hr2.out, Below.refl _ _⟩
end Go.Proofs.YtfcoelnibpinmaaDoor
