/- EqualFunc at nodes; the program's Like. -/
import Derived.Test.YtfcoelnibpinmaaDoorAstLike
namespace Go.Proofs.YtfcoelnibpinmaaDoor
open Go.RowKit

theorem NRow.nodes {w : World} {ao : Option Addr} {ns : List Nd} (h : NRow w ao ns) (hn : 0 < ns.length) : ∃ b off, ao = some ⟨b, off, none⟩ ∧ b < w.heap.size ∧ ∀ i (h : i < ns.length), NdAt w b (off + i * 4) ns[i] := by
  rcases h with h | h
  · rw [h] at hn; exact absurd hn (by simp)
  · exact h
set_option maxHeartbeats 16000000 in
set_option maxRecDepth 100000 in
theorem equalfunc_any (ao bo : Option Addr) (ca cb : Nat) (xs ys : List Nd) (w : World) (h1 : NRow w ao xs) (h2 : NRow w bo ys) (k1 : ∀ n ∈ xs, n.kids.length ≤ 2000) (k2 : ∀ n ∈ ys, n.kids.length ≤ 2000) (l1 : xs.length ≤ 100000) (_l2 : ys.length ≤ 100000) :
    Calls Tryd.prog 20 #[.slice ao xs.length ca, .slice bo ys.length cb, .func (.func 21) #[] #[]] w fun e w' => e = .returned (.bool (likeB xs ys)) ∧ Below w.heap.size w w' := by
  obtain ⟨r, hr⟩ : ∃ r, likeB xs ys = r := ⟨_, rfl⟩
  rw [hr]
  have Hr := Lib.hid hr
  clear hr
  by_cases hl : xs.length = ys.length
  · by_cases h0 : xs.length = 0
    · have Hr2 := Lib.hid (show true = r by
        rw [← Hr.out]
        unfold likeB
        rw [decide_eq_true ⟨hl, fun i hi => by omega⟩])
      rw [show ys.length = 0 by omega, h0]
      clear h1 h2 k1 k2 l1 hl h0
      go_enter Tryd.func20, Tryd.ntmps20
      go_wp2_with fail
      go_loopw [17] (fun i wr => i = .int .i64 0 ∧ wr = w) (fun _ _ => 0)
      case atStart => exact ⟨rfl, rfl⟩
      case round =>
        obtain ⟨rfl, rfl⟩ := hrel
        go_wp2_with fail
        go_ret
        exact ⟨ret_bool Hr2.out, Below.refl _ _⟩
    · obtain ⟨b1, o1, rfl, q1, c1⟩ := h1.nodes (by omega)
      obtain ⟨b2, o2, rfl, q2, c2⟩ := h2.nodes (by omega)
      have Hc1 := Lib.hid c1
      have Hc2 := Lib.hid c2
      have Hkx := Lib.hid k1
      have Hky := Lib.hid k2
      rw [← hl]
      obtain ⟨n, hn⟩ : ∃ n, xs.length = n := ⟨_, rfl⟩
      have Hn := Lib.hid hn
      have Hn2 := Lib.hid (hl.symm.trans hn)
      rw [hn] at l1 h0 ⊢
      clear h1 h2 hl c1 c2 hn k1 k2
      go_enter Tryd.func20, Tryd.ntmps20
      go_wp2_with fail
      go_loopw [17] (fun i wr => ∃ k : Nat, k ≤ n ∧ i = .int .i64 k ∧ Hid (∀ j (h1 : j < xs.length) (h2 : j < ys.length), j < k → likeN xs[j] ys[j] = true) ∧ Hid (Below w.heap.size w wr)) (fun i _ => n - (intOf i).toNat)
      case atStart => exact ⟨0, Nat.zero_le _, rfl, Lib.hid (fun j _ _ hj => absurd hj (Nat.not_lt_zero _)), Lib.hid (Below.refl _ _)⟩
      case round =>
        obtain ⟨k, hk, rfl, Hall, HB⟩ := hrel
        have B := HB.out
        by_cases hkn : k < n
        · obtain ⟨xd, hxd⟩ : ∃ nd, xs[k]'(by rw [Hn.out]; exact hkn) = nd := ⟨_, rfl⟩
          have hxa := Hc1.out k (by rw [Hn.out]; exact hkn)
          rw [hxd] at hxa
          have hkx := Hkx.out _ (List.getElem_mem (show k < xs.length by rw [Hn.out]; exact hkn))
          rw [hxd] at hkx
          have Hxd := Lib.hid hxd
          clear hxd
          obtain ⟨x0, x1, ⟨xka, xkc, x2, -, x4⟩, x5⟩ := hxa.below q1 B
          have xR := Lib.hid x4
          clear hxa x4
          obtain ⟨yd, hyd⟩ : ∃ nd, ys[k]'(by rw [Hn2.out]; exact hkn) = nd := ⟨_, rfl⟩
          have hya := Hc2.out k (by rw [Hn2.out]; exact hkn)
          rw [hyd] at hya
          have hky := Hky.out _ (List.getElem_mem (show k < ys.length by rw [Hn2.out]; exact hkn))
          rw [hyd] at hky
          have Hyd := Lib.hid hyd
          clear hyd
          obtain ⟨y0, y1, ⟨yka, ykc, y2, -, y4⟩, y5⟩ := hya.below q2 B
          have yR := Lib.hid y4
          clear hya y4
          obtain ⟨B1, -, -⟩ := blocks2 wr (.int .i64 xd.kind) (.string xd.text) (.slice xka xd.kids.length xkc) (.int .i64 xd.place) (.int .i64 yd.kind) (.string yd.text) (.slice yka yd.kids.length ykc) (.int .i64 yd.place) 37
          have C := B.trans (B1.mono B.size)
          have L1 := Lib.hid (like1_any xd yd xka yka xkc ykc _ (xR.out.below B1) (yR.out.below B1) (by omega) (by omega))
          generalize hkd : xd.kind = xkd at *
          generalize htx : xd.text = xtx at *
          generalize hks : xd.kids.length = xkl at *
          generalize hpl : xd.place = xpl at *
          generalize hkd2 : yd.kind = ykd at *
          generalize htx2 : yd.text = ytx at *
          generalize hks2 : yd.kids.length = ykl at *
          generalize hpl2 : yd.place = ypl at *
          clear hkd htx hks hpl hkd2 htx2 hks2 hpl2
          obtain ⟨lb, hlb⟩ : ∃ b, likeN xd yd = b := ⟨_, rfl⟩
          rw [hlb] at L1
          have Hlb := Lib.hid hlb
          clear hlb hkx hky B1
          have g1 : b1 < wr.heap.size := Nat.lt_of_lt_of_le q1 B.size
          have g2 : b2 < wr.heap.size := Nat.lt_of_lt_of_le q2 B.size
          have g3 : b2 ≠ wr.heap.size := Nat.ne_of_lt g2
          go_wp2_with fail
          refine L1.out.mono ?_
          rintro e W ⟨rfl, bq⟩
          have C := C.trans (bq.mono C.size)
          clear bq L1
          cases lb
          · have Hr2 := Lib.hid (show false = r by
              rw [← Hr.out]
              unfold likeB
              rw [decide_eq_false]
              intro h
              have h9 := h.2 k (by rw [Hn.out]; exact hkn) (by rw [Hn2.out]; exact hkn)
              rw [Hxd.out, Hyd.out, Hlb.out] at h9
              cases h9)
            go_wp2_with fail
            go_ret
            exact ⟨ret_bool Hr2.out, C⟩
          · have Hall2 := Lib.hid (show ∀ j (h1 : j < xs.length) (h2 : j < ys.length), j < k + 1 → likeN xs[j] ys[j] = true from fun j a b hj => by
              rcases Nat.lt_or_eq_of_le (Nat.le_of_lt_succ hj) with h | h
              · exact Hall.out j a b h
              · subst h
                rw [Hxd.out, Hyd.out]
                exact Hlb.out)
            have B2 := Lib.hid C
            go_wp2_with fail
            go_roundw
            case rel => exact ⟨k + 1, by omega, by go_num, Hall2, B2⟩
            case measure => simp [intOf]; omega
        · obtain rfl : k = n := by omega
          have Hr2 := Lib.hid (show true = r by
            rw [← Hr.out]
            unfold likeB
            rw [decide_eq_true ⟨by rw [Hn.out, Hn2.out], fun i a b => Hall.out i a b (by rw [← Hn.out]; exact a)⟩])
          go_wp2_with fail
          go_ret
          exact ⟨ret_bool Hr2.out, B⟩
  · have Hr2 := Lib.hid (show false = r by rw [← Hr.out]; unfold likeB; rw [decide_eq_false]; exact fun h => hl h.1)
    have hq : ((xs.length : Int) == (ys.length : Int)) = false := by rw [beq_eq_false_iff_ne]; omega
    have hq2 : ((xs.length : Int) != (ys.length : Int)) = true := by rw [bne, hq]; rfl
    clear Hr k1 k2 h1 h2
    generalize xs.length = n at *
    generalize ys.length = m at *
    go_enter Tryd.func20, Tryd.ntmps20
    go_wp2_with fail
    go_ret
    exact ⟨ret_bool Hr2.out, Below.refl _ _⟩
theorem like_any (ao bo : Option Addr) (ca cb : Nat) (xs ys : List Nd) (w : World) (h1 : NRow w ao xs) (h2 : NRow w bo ys) (k1 : ∀ n ∈ xs, n.kids.length ≤ 2000) (k2 : ∀ n ∈ ys, n.kids.length ≤ 2000) (l1 : xs.length ≤ 100000) (l2 : ys.length ≤ 100000) :
    Calls Tryd.prog 10 #[.slice ao xs.length ca, .slice bo ys.length cb] w fun e w' => e = .returned (.bool (likeB xs ys)) ∧ Below w.heap.size w w' := by
  have E := Lib.hid (equalfunc_any ao bo ca cb xs ys w h1 h2 k1 k2 l1 l2)
  generalize likeB xs ys = r at *
  generalize xs.length = n at *
  generalize ys.length = m at *
  clear h1 h2 k1 k2
  go_enter Tryd.func10, Tryd.ntmps10
  go_wp2_with fail
  refine E.out.mono ?_
  rintro e W ⟨rfl, bq⟩
  go_wp2_with fail
  go_ret
  exact ⟨rfl, bq⟩
end Go.Proofs.YtfcoelnibpinmaaDoor
