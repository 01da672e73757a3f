/- Which trees are the same: the program's Like. -/
import Derived.Test.YtfcoelnibpinmaaDoorAstRefRight
namespace Go.Proofs.YtfcoelnibpinmaaDoor
open Go.RowKit

set_option maxHeartbeats 4000000 in
theorem equal_any (ao bo : Option Addr) (ca cb : Nat) (xs ys : List Int) (w : World) (h1 : IRow w ao xs) (h2 : IRow w bo ys) (l1 : xs.length ≤ 1000000) (_l2 : ys.length ≤ 1000000) :
    Calls Tryd.prog 22 #[.slice ao xs.length ca, .slice bo ys.length cb] w fun e w' => e = .returned (.bool (decide (xs = ys))) ∧ Below w.heap.size w w' := by
  obtain ⟨r, hr⟩ : ∃ r, decide (xs = ys) = r := ⟨_, rfl⟩
  rw [hr]
  by_cases hl : xs.length = ys.length
  · by_cases h0 : xs.length = 0
    · have hx : xs = [] := List.eq_nil_of_length_eq_zero h0
      have hy : ys = [] := List.eq_nil_of_length_eq_zero (by omega)
      have Hr := Lib.hid (show true = r by rw [← hr, hx, hy, decide_eq_true rfl])
      rw [show ys.length = 0 by omega, h0]
      clear h1 h2 l1 hl h0 hx hy hr
      go_enter Tryd.func22, Tryd.ntmps22
      go_wp2_with fail
      go_loopw [13] (fun i wr => i = .int .i64 0 ∧ wr = w) (fun _ _ => 0)
      case atStart => exact ⟨rfl, rfl⟩
      case round =>
        obtain ⟨rfl, rfl⟩ := hrel
        go_wp2_with fail
        go_ret
        exact ⟨ret_bool Hr.out, Below.refl _ _⟩
    · obtain ⟨b1, o1, rfl, q1, c1⟩ := h1.cells (by omega)
      obtain ⟨b2, o2, rfl, q2, c2⟩ := h2.cells (by omega)
      have Hc1 := Lib.hid c1
      have Hc2 := Lib.hid c2
      have Hr := Lib.hid hr
      rw [← hl]
      obtain ⟨n, hn⟩ : ∃ n, xs.length = n := ⟨_, rfl⟩
      have Hn := Lib.hid hn
      have Hn2 := Lib.hid (hl.symm.trans hn)
      rw [hn] at l1 h0 ⊢
      clear h1 h2 hl hr c1 c2 hn
      go_enter Tryd.func22, Tryd.ntmps22
      go_wp2_with fail
      go_loopw [13] (fun i wr => ∃ k : Nat, k ≤ n ∧ i = .int .i64 k ∧ Hid (∀ j, j < k → xs.getD j 0 = ys.getD j 0) ∧ Hid (Below w.heap.size w wr)) (fun i _ => n - (intOf i).toNat)
      case atStart => exact ⟨0, Nat.zero_le _, rfl, Lib.hid (fun j hj => absurd hj (Nat.not_lt_zero _)), Lib.hid (Below.refl _ _)⟩
      case round =>
        obtain ⟨k, hk, rfl, Hall, HB⟩ := hrel
        have B := HB.out
        by_cases hkn : k < n
        · have d1 : wr.cell? ⟨b1, o1 + k, none⟩ = some (.int .i64 (xs.getD k 0)) := by rw [B.cell (p := ⟨b1, o1 + k, none⟩) q1]; exact Hc1.out k (by rw [Hn.out]; exact hkn)
          have d2 : wr.cell? ⟨b2, o2 + k, none⟩ = some (.int .i64 (ys.getD k 0)) := by rw [B.cell (p := ⟨b2, o2 + k, none⟩) q2]; exact Hc2.out k (by rw [Hn2.out]; exact hkn)
          obtain ⟨x, hx⟩ : ∃ x, xs.getD k 0 = x := ⟨_, rfl⟩
          obtain ⟨y, hy⟩ : ∃ y, ys.getD k 0 = y := ⟨_, rfl⟩
          rw [hx] at d1
          rw [hy] at d2
          have Hx := Lib.hid hx
          have Hy := Lib.hid hy
          clear hx hy
          by_cases hxy : x = y
          · subst hxy
            have Hall2 := Lib.hid (show ∀ j, j < k + 1 → xs.getD j 0 = ys.getD j 0 from fun j hj => by
              rcases Nat.lt_or_eq_of_le (Nat.le_of_lt_succ hj) with h | h
              · exact Hall.out j h
              · rw [h, Hx.out, Hy.out])
            go_wp2_with fail
            go_quiet (fail)
            rename_i nq
            have B2 := Lib.hid (below_drewN B nq)
            go_wp2_with fail
            go_roundw
            case rel => exact ⟨k + 1, by omega, by go_num, Hall2, B2⟩
            case measure => simp [intOf]; omega
          · have Hn3 := Lib.hid (show false = r by
              rw [← Hr.out, decide_eq_false]
              intro h
              rw [h] at Hx
              exact hxy (Hx.out.symm.trans Hy.out))
            have hq : (x == y) = false := by rw [beq_eq_false_iff_ne]; exact hxy
            have hq2 : (x != y) = true := by rw [bne, hq]; rfl
            go_wp2_with fail
            go_quiet (fail)
            rename_i nq
            have B2 := below_drewN B nq
            go_wp2_with fail
            go_ret
            exact ⟨ret_bool Hn3.out, B2⟩
        · obtain rfl : k = n := by omega
          have Hn3 := Lib.hid (show true = r by
            rw [← Hr.out, decide_eq_true]
            apply List.ext_getElem (by rw [Hn.out, Hn2.out])
            intro j a b
            have := Hall.out j (by rw [← Hn.out]; exact a)
            rw [List.getD_eq_getElem?_getD, List.getD_eq_getElem?_getD, List.getElem?_eq_getElem a, List.getElem?_eq_getElem b] at this
            exact this)
          go_wp2_with fail
          go_ret
          exact ⟨ret_bool Hn3.out, B⟩
  · have Hr := Lib.hid (show false = r by rw [← hr, decide_eq_false]; intro h; exact hl (by rw [h]))
    have hq : ((xs.length : Int) == (ys.length : Int)) = false := by rw [beq_eq_false_iff_ne]; omega
    have hq2 : ((xs.length : Int) != (ys.length : Int)) = true := by rw [bne, hq]; rfl
    generalize xs.length = n at *
    generalize ys.length = m at *
    clear h1 h2 hr
    go_enter Tryd.func22, Tryd.ntmps22
    go_wp2_with fail
    go_ret
    exact ⟨ret_bool Hr.out, Below.refl _ _⟩
/-- Whether two nodes are the same, but for places. -/
def likeN (x y : Nd) : Bool := decide (x.kind = y.kind ∧ x.text = y.text ∧ x.kids = y.kids)
def likeB (xs ys : List Nd) : Bool := decide (xs.length = ys.length ∧ ∀ i (h1 : i < xs.length) (h2 : i < ys.length), likeN xs[i] ys[i] = true)
theorem blocks2 (w : World) (x0 x1 x2 x3 y0 y1 y2 y3 : Value) (t : TypeId) : Below w.heap.size w ((w.alloc (.cells #[x0, x1, x2, x3] t)).alloc (.cells #[y0, y1, y2, y3] t)) ∧
    BlockAt ((w.alloc (.cells #[x0, x1, x2, x3] t)).alloc (.cells #[y0, y1, y2, y3] t)) w.heap.size #[x0, x1, x2, x3] t ∧ BlockAt ((w.alloc (.cells #[x0, x1, x2, x3] t)).alloc (.cells #[y0, y1, y2, y3] t)) (w.heap.size + 1) #[y0, y1, y2, y3] t := by
  have s1 := BlockAt.new w #[x0, x1, x2, x3] t
  have e1 : (w.alloc (.cells #[x0, x1, x2, x3] t)).heap.size = w.heap.size + 1 := by simp
  have s2 := BlockAt.new (w.alloc (.cells #[x0, x1, x2, x3] t)) #[y0, y1, y2, y3] t
  rw [e1] at s2
  have b1 : Below w.heap.size w (w.alloc (.cells #[x0, x1, x2, x3] t)) := (Below.refl _ _).alloc (Nat.le_refl _) _
  have b2 : Below (w.alloc (.cells #[x0, x1, x2, x3] t)).heap.size (w.alloc (.cells #[x0, x1, x2, x3] t)) ((w.alloc (.cells #[x0, x1, x2, x3] t)).alloc (.cells #[y0, y1, y2, y3] t)) := (Below.refl _ _).alloc (Nat.le_refl _) _
  exact ⟨b1.trans (b2.mono b1.size), s1.below b2, s2⟩
theorem str_eq (a b : ByteArray) : (a.toList == b.toList) = decide (a = b) := by
  rw [Bool.eq_iff_iff, beq_iff_eq, decide_eq_true_iff, ByteArray.toList_eq, ByteArray.toList_eq]
  constructor
  · intro h
    exact ByteArray.ext (Array.toList_inj.1 h)
  · rintro rfl
    rfl
set_option maxHeartbeats 4000000 in
theorem like1_any (x y : Nd) (ka kb : Option Addr) (ca cb : Nat) (w : World) (h1 : IRow w ka x.kids) (h2 : IRow w kb y.kids) (l1 : x.kids.length ≤ 1000000) (l2 : y.kids.length ≤ 1000000) :
    Calls Tryd.prog 21 #[.agg #[.int .i64 x.kind, .string x.text, .slice ka x.kids.length ca, .int .i64 x.place], .agg #[.int .i64 y.kind, .string y.text, .slice kb y.kids.length cb, .int .i64 y.place]] w fun e w' => e = .returned (.bool (likeN x y)) ∧ Below w.heap.size w w' := by
  obtain ⟨kx, tx, sx, px⟩ := x
  obtain ⟨ky, ty, sy, py⟩ := y
  simp only at h1 h2 l1 l2 ⊢
  obtain ⟨r, hr⟩ : ∃ r, likeN ⟨kx, tx, sx, px⟩ ⟨ky, ty, sy, py⟩ = r := ⟨_, rfl⟩
  have hr2 : decide (kx = ky ∧ tx = ty ∧ sx = sy) = r := hr
  rw [hr]
  obtain ⟨B, ba, bb⟩ := blocks2 w (.int .i64 kx) (.string tx) (.slice ka sx.length ca) (.int .i64 px) (.int .i64 ky) (.string ty) (.slice kb sy.length cb) (.int .i64 py) 37
  have E := Lib.hid (equal_any ka kb ca cb sx sy _ (h1.below B) (h2.below B) l1 l2)
  have a0 := ba.cell 0
  have a1 := ba.cell 1
  have a2 := ba.cell 2
  have b0 := bb.cell 0
  have b1 := bb.cell 1
  have b2 := bb.cell 2
  simp at a0 a1 a2 b0 b1 b2
  have hst := str_eq tx ty
  clear h1 h2 l1 l2 hr ba bb
  by_cases hk : kx = ky
  · have hkb : (kx == ky) = true := by rw [beq_iff_eq]; exact hk
    by_cases ht : tx = ty
    · rw [decide_eq_true ht] at hst
      have Hr := Lib.hid (show decide (sx = sy) = r by rw [← hr2]; simp [hk, ht])
      clear hr2 hk ht
      go_enter Tryd.func21, Tryd.ntmps21
      go_wp2_with fail
      refine E.out.mono ?_
      rintro e W ⟨rfl, bq⟩
      have B := B.trans (bq.mono B.size)
      go_wp2_with fail
      go_ret
      exact ⟨ret_bool Hr.out, B⟩
    · rw [decide_eq_false ht] at hst
      have Hr := Lib.hid (show false = r by rw [← hr2, decide_eq_false]; exact fun h => ht h.2.1)
      clear hr2 hk ht
      go_enter Tryd.func21, Tryd.ntmps21
      go_wp2_with fail
      go_ret
      exact ⟨ret_bool Hr.out, B⟩
  · have hkb : (kx == ky) = false := by rw [beq_eq_false_iff_ne]; exact hk
    have Hr := Lib.hid (show false = r by rw [← hr2, decide_eq_false]; exact fun h => hk h.1)
    clear hr2 hk hst
    go_enter Tryd.func21, Tryd.ntmps21
    go_wp2_with fail
    go_ret
    exact ⟨ret_bool Hr.out, B⟩
end Go.Proofs.YtfcoelnibpinmaaDoor
