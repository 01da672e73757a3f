/- slices.Equal, Like, Trunc; what Make, Text, Trunc answer to what may not be. -/
import Derived.Test.YthmhljfaenekfaaRatAlive
namespace Go.Proofs.Ythmhljfaenekfaa
open Go.RowKit NM

set_option maxHeartbeats 1600000 in
set_option maxRecDepth 100000 in
theorem equal_sl (v u : Value) (xs ys : List Int) (w : World) (h1 : Sl w v xs) (h2 : Sl w u ys) :
    Calls Try.prog 42 #[v, u] w fun e w' => e = .returned (.bool (decide (xs = ys))) ∧ Below w.heap.size w w' := by
  obtain ⟨ao, ca, rfl, _, ra, ux, lx, _⟩ := h1
  obtain ⟨bo, cb, rfl, _, rb, uy, ly, _⟩ := h2
  by_cases hl : xs.length = ys.length
  · obtain ⟨n, hn⟩ : ∃ n, n = xs.length := ⟨_, rfl⟩
    rw [← hl, ← hn]
    rw [← hn] at lx
    have Hn := Lib.hid hn
    have Hl := Lib.hid hl
    have hne : (((n : Nat) : Int) != ((n : Nat) : Int)) = false := by simp
    clear hn hl ly
    go_enter Try.func42, Try.ntmps42
    go_wp2_with fail
    go_loopw [5, 13] (fun _ i wr => ∃ k : Nat, k ≤ n ∧ i = .int .i64 k ∧ Hid (SameTo xs ys k) ∧ Below w.heap.size w wr) (fun _ i _ => n - (intOf i).toNat)
    case atStart => exact ⟨0, Nat.zero_le _, rfl, Lib.hid (fun j h => absurd h (Nat.not_lt_zero _)), Below.refl _ _⟩
    case round =>
      obtain ⟨k, hk, rfl, hs, hb⟩ := hrel
      rename_i wr
      by_cases hkn : k < n
      · obtain ⟨b, off, rfl, hbs, hc⟩ := (ra.below hb).cells (by rw [← Hn.out]; omega)
        obtain ⟨b2, off2, rfl, hbs2, hc2⟩ := (rb.below hb).cells (by rw [← Hl.out, ← Hn.out]; omega)
        have hck := hc k (by rw [← Hn.out]; omega)
        have hck2 := hc2 k (by rw [← Hl.out, ← Hn.out]; omega)
        clear hc hc2
        by_cases h : lb xs k = lb ys k
        · have hs2 := Lib.hid (show SameTo xs ys (k + 1) from fun j hj => by
            by_cases e : j = k
            · rw [e]; exact h
            · exact hs.out j (by omega))
          have hq : (lb xs k != lb ys k) = false := by rw [bne_eq_false_iff_eq]; exact h
          have H := Lib.hid h
          clear h
          go_wp2_with fail
          go_quiet (fail)
          go_wp2_with fail
          go_roundw
          case rel => exact ⟨k + 1, by omega, by go_num, hs2, below_drewN hb _⟩
          case measure => simp [intOf]; omega
        · have hne2 := Lib.hid (show decide (xs = ys) = false by
            rw [decide_eq_false_iff_not]
            intro e
            rw [e] at h
            exact h rfl)
          have hq : (lb xs k != lb ys k) = true := by rw [bne_iff_ne]; exact h
          clear h
          go_wp2_with fail
          go_quiet (fail)
          go_wp2_with fail
          go_ret
          exact ⟨ret_bool hne2.out.symm, below_drewN hb _⟩
      · have hk2 : k = n := by omega
        subst hk2
        have heq := Lib.hid (show decide (xs = ys) = true by
          rw [decide_eq_true_iff]
          exact same_all Hl.out (by rw [← Hn.out]; exact hs.out))
        go_wp2_with fail
        go_ret
        exact ⟨ret_bool heq.out.symm, hb⟩
  · have hne := Lib.hid (show decide (xs = ys) = false by
      rw [decide_eq_false_iff_not]
      intro e
      rw [e] at hl
      exact hl rfl)
    have hb : ((xs.length : Int) != (ys.length : Int)) = true := by rw [bne_iff_ne]; omega
    go_enter Try.func42, Try.ntmps42
    go_wp2_with fail
    go_ret
    exact ⟨ret_bool hne.out.symm, Below.refl _ _⟩

set_option maxHeartbeats 1600000 in
set_option maxRecDepth 100000 in
theorem likeR (v u : Value) (s t : Bool) (xs ys us vs : List Int) (w : World) (h1 : SlR w v s xs ys) (h2 : SlR w u t us vs) :
    Calls Try.prog 12 #[v, u] w fun e w' => e = .returned (.bool (decide (s = t ∧ xs = us ∧ ys = vs))) ∧ Below w.heap.size w w' := by
  obtain ⟨n1, d1, rfl, a1, a2⟩ := h1
  obtain ⟨n2, d2, rfl, a3, a4⟩ := h2
  obtain ⟨B, ha, hb⟩ := two_start w #[.bool s, n1, d1] #[.bool t, n2, d2] 25
  by_cases hs : s = t
  · subst hs
    have hse : (s == s) = true := by simp
    have HS := Lib.hid (equal_sl n1 n2 xs us _ (a1.below B) (a3.below B))
    by_cases hx : xs = us
    · rw [decide_eq_true hx] at HS
      have hz := Lib.hid (show decide (ys = vs) = decide (s = s ∧ xs = us ∧ ys = vs) by rw [decide_eq_decide]; exact ⟨fun h => ⟨rfl, hx, h⟩, fun h => h.2.2⟩)
      have a2 := a2.below B
      have a4 := a4.below B
      clear hx a1 a3
      go_enter Try.func12, Try.ntmps12
      go_wp2_with fail
      generalize (w.alloc (.cells #[.bool s, n1, d1] 25)).alloc (.cells #[.bool s, n2, d2] 25) = W at *
      refine HS.out.mono ?_
      rintro e W2 ⟨rfl, bq⟩
      have HT := Lib.hid (equal_sl d1 d2 ys vs W2 (a2.below bq) (a4.below bq))
      obtain ⟨c0, c1, c2⟩ := block3 (ha.below bq)
      obtain ⟨c3, c4, c5⟩ := block3 (hb.below bq)
      have B := B.trans (bq.mono B.size)
      clear HS a2 a4 bq
      go_wp2_with fail
      refine HT.out.mono ?_
      rintro e W3 ⟨rfl, bq⟩
      have B := B.trans (bq.mono B.size)
      clear HT bq c0 c1 c2 c3 c4 c5
      go_wp2_with fail
      go_ret
      exact ⟨ret_bool hz.out, B⟩
    · rw [decide_eq_false hx] at HS
      have hz := Lib.hid (show decide (s = s ∧ xs = us ∧ ys = vs) = false by rw [decide_eq_false_iff_not]; exact fun h => hx h.2.1)
      clear hx a1 a2 a3 a4
      go_enter Try.func12, Try.ntmps12
      go_wp2_with fail
      generalize (w.alloc (.cells #[.bool s, n1, d1] 25)).alloc (.cells #[.bool s, n2, d2] 25) = W at *
      refine HS.out.mono ?_
      rintro e W2 ⟨rfl, bq⟩
      have B := B.trans (bq.mono B.size)
      clear HS bq ha hb
      go_wp2_with fail
      go_ret
      exact ⟨ret_bool hz.out.symm, B⟩
  · have hse : (s == t) = false := by simpa using hs
    have hz := Lib.hid (show decide (s = t ∧ xs = us ∧ ys = vs) = false by rw [decide_eq_false_iff_not]; exact fun h => hs h.1)
    clear a1 a2 a3 a4 hs
    go_enter Try.func12, Try.ntmps12
    go_wp2_with fail
    go_ret
    exact ⟨ret_bool hz.out.symm, B⟩


/-- Without what is behind the point. -/
def ratTrunc (x : Rat) : Rat := frac (decide (x.num < 0)) (x.num.natAbs / x.den) 1
set_option maxHeartbeats 3200000 in
set_option maxRecDepth 100000 in
theorem trunc_rat (v : Value) (x : Rat) (w : World) (h : RatN w v x) :
    Calls Try.prog 30 #[v] w fun e w' => (∃ r, e = .returned (.tuple #[r, .int .i64 0]) ∧ RatN w' r (ratTrunc x)) ∧ Below w.heap.size w w' := by
  have q1 := h
  obtain ⟨n, d, rfl, a1, a2⟩ := h
  unfold ratTrunc
  obtain ⟨B, ha, hr⟩ := two_start w #[.bool (decide (x.num < 0)), n, d] #[.bool false, .slice none 0 0, .slice none 0 0] 25
  have R1 := Lib.hid (right_rat (q1.below B))
  have a1 := a1.below B
  have a2 := a2.below B
  have hd := den_pos x
  generalize decide (x.num < 0) = neg at *
  generalize x.num.natAbs = N at *
  generalize x.den = D at *
  obtain ⟨Q, hQ⟩ : ∃ Q, N / D = Q := ⟨_, rfl⟩
  have HQ := Lib.hid hQ
  have Hd := Lib.hid hd
  rw [hQ]
  clear q1 hQ hd
  go_enter Try.func30, Try.ntmps30
  go_wp2_with fail
  generalize (w.alloc (.cells #[.bool neg, n, d] 25)).alloc (.cells #[.bool false, .slice none 0 0, .slice none 0 0] 25) = W at *
  refine R1.out.mono ?_
  rintro e W2 ⟨rfl, bq⟩
  have ha := ha.below bq
  have hr := hr.below bq
  have a1 := a1.below bq
  have a2 := a2.below bq
  have B := B.trans (bq.mono B.size)
  obtain ⟨c0, c1, c2⟩ := block3 ha
  clear bq R1
  have HD := Lib.hid (div_num n d N D W2 a1 a2 (by have := Hd.out; omega))
  go_wp2_with fail
  refine HD.out.mono ?_
  rintro e W3 ⟨⟨q, r, rfl, hq, -⟩, bq⟩
  have hq : Num W3 q ((N / D : Nat) : Int) := hq
  rw [HQ.out] at hq
  have ha := ha.below bq
  have hr := hr.below bq
  have B := B.trans (bq.mono B.size)
  clear bq HD a1 a2 c0 c1 c2
  obtain ⟨c0, c1, c2⟩ := block3 ha
  obtain ⟨qo, qn, qc, rfl, -, q0, -, -⟩ := hq.len
  have HO := Lib.hid (of_num 1 W3 (by omega) (by omega))
  have hs : decide (0 < qn) = decide (0 < Q) := by rw [decide_eq_decide]; omega
  have Hs := Lib.hid hs
  have Hq := Lib.hid hq
  clear hq q0 hs
  cases neg
  all_goals
    go_wp2_with fail
    refine HO.out.mono ?_
    rintro e W4 ⟨⟨o, rfl, ho⟩, bq⟩
    obtain ⟨oo, on, oc, rfl, -, -, -, -⟩ := ho.len
    have hr := hr.below bq
    have Hq := Lib.hid (Hq.out.below bq)
    have Ho := Lib.hid ho
    have B := B.trans (bq.mono B.size)
    clear bq HO c0 c1 c2 ho ha
    have f0 := hr.free 0
    have f1 := hr.free 1
    have f2 := hr.free 2
    have g0 := hr.cell 0
    have g1 := hr.cell 1
    have g2 := hr.cell 2
    simp at g0 g1 g2
    go_wp2_with fail
  · refine bodyPost_ret (v := .tuple #[.agg #[.bool false, .slice qo qn qc, .slice oo on oc], .int .i64 0]) (by simp [results, Try.results30, go_sem, g0, g1, g2]) rfl ⟨⟨_, rfl, ?_⟩, ?_⟩
    · exact RawN.set3 (RatN.of_frac (by omega) (by simp) (by rw [Nat.gcd_one_right, Nat.div_one]; exact Hq.out) (by rw [Nat.gcd_one_right]; exact Ho.out)) hr
    · exact ((B.setCell (by simp) _).setCell (by simp) _).setCell (by simp) _
  · refine bodyPost_ret (v := .tuple #[.agg #[.bool (decide (0 < qn)), .slice qo qn qc, .slice oo on oc], .int .i64 0]) (by simp [results, Try.results30, go_sem, g0, g1, g2]) rfl ⟨⟨_, rfl, ?_⟩, ?_⟩
    · exact RawN.set3 (RatN.of_frac (by omega) (by rw [Hs.out, Nat.gcd_one_right, Nat.div_one]; simp) (by rw [Nat.gcd_one_right, Nat.div_one]; exact Hq.out) (by rw [Nat.gcd_one_right]; exact Ho.out)) hr
    · exact ((B.setCell (by simp) _).setCell (by simp) _).setCell (by simp) _
set_option maxHeartbeats 1600000 in
set_option maxRecDepth 100000 in
theorem trunc_badr (v : Value) (w : World) (h : BadR w v) :
    Calls Try.prog 30 #[v] w fun e w' => e = .returned (.tuple #[nilRat, .int .i64 1]) ∧ Below w.heap.size w w' := by
  obtain ⟨s1, n1, d1, rfl⟩ := h.form
  obtain ⟨B, ha, hr⟩ := two_start w #[.bool s1, n1, d1] #[.bool false, .slice none 0 0, .slice none 0 0] 25
  unfold nilRat
  have R1 := Lib.hid (right_not (h.below B))
  clear h
  go_enter Try.func30, Try.ntmps30
  go_wp2_with fail
  generalize (w.alloc (.cells #[.bool s1, n1, d1] 25)).alloc (.cells #[.bool false, .slice none 0 0, .slice none 0 0] 25) = W at *
  refine R1.out.mono ?_
  rintro e W2 ⟨rfl, bq⟩
  clear ha R1
  have hr := (hr.below bq)
  have B := B.trans (bq.mono B.size)
  clear bq
  have f0 := hr.free 0
  have f1 := hr.free 1
  have f2 := hr.free 2
  have g0 := hr.cell 0
  have g1 := hr.cell 1
  have g2 := hr.cell 2
  simp at g0 g1 g2
  go_wp2_with fail
  refine bodyPost_ret (v := .tuple #[.agg #[.bool false, .slice none 0 0, .slice none 0 0], .int .i64 1]) (by simp [results, Try.results30, go_sem, g0, g1, g2]) rfl ⟨rfl, ?_⟩
  exact ((B.setCell (by simp) _).setCell (by simp) _).setCell (by simp) _
set_option maxHeartbeats 1600000 in
set_option maxRecDepth 100000 in
theorem text_badr (v : Value) (w : World) (h : BadR w v) :
    Calls Try.prog 9 #[v] w fun e w' => e = .returned (.tuple #[.string ⟨#[]⟩, .int .i64 1]) ∧ Below w.heap.size w w' := by
  obtain ⟨s1, n1, d1, rfl⟩ := h.form
  have B : Below w.heap.size w (w.alloc (.cells #[.bool s1, n1, d1] 25)) := (Below.refl _ _).alloc (Nat.le_refl _) _
  have R1 := Lib.hid (right_not (h.below B))
  clear h
  go_enter Try.func9, Try.ntmps9
  go_wp2_with fail
  generalize w.alloc (.cells #[.bool s1, n1, d1] 25) = W at *
  refine R1.out.mono ?_
  rintro e W2 ⟨rfl, bq⟩
  have B := B.trans (bq.mono B.size)
  clear bq R1
  go_wp2_with fail
  go_ret2
  exact ⟨rfl, B⟩
theorem Bad1.below {w w' : World} {v : Value} (h : Bad1 w v) (hb : Below w.heap.size w w') : Bad1 w' v := by
  obtain ⟨xs, h1, h2⟩ := h
  exact ⟨xs, h1.below hb, h2⟩
set_option maxHeartbeats 1600000 in
set_option maxRecDepth 100000 in
theorem make_bad (neg : Bool) (v u : Value) (w : World) (h : Bad1 w v ∨ (∃ N, Num w v N) ∧ Bad1 w u) :
    Calls Try.prog 8 #[.bool neg, v, u] w fun e w' => e = .returned (.tuple #[nilRat, .int .i64 1]) ∧ Below w.heap.size w w' := by
  have B : Below w.heap.size w (w.alloc (.cells #[.bool false, .slice none 0 0, .slice none 0 0] 25)) := (Below.refl _ _).alloc (Nat.le_refl _) _
  have hr := BlockAt.new w #[.bool false, .slice none 0 0, .slice none 0 0] 25
  unfold nilRat
  rcases h with h | ⟨⟨N, h⟩, h'⟩
  · have R1 := Lib.hid (right_bad (h.below B))
    clear h
    go_enter Try.func8, Try.ntmps8
    go_wp2_with fail
    generalize w.alloc (.cells #[.bool false, .slice none 0 0, .slice none 0 0] 25) = W at *
    refine R1.out.mono ?_
    rintro e w' ⟨rfl, rfl⟩
    clear R1
    have f0 := hr.free 0
    have f1 := hr.free 1
    have f2 := hr.free 2
    have g0 := hr.cell 0
    have g1 := hr.cell 1
    have g2 := hr.cell 2
    simp at g0 g1 g2
    go_wp2_with fail
    refine bodyPost_ret (v := .tuple #[.agg #[.bool false, .slice none 0 0, .slice none 0 0], .int .i64 1]) (by simp [results, Try.results8, go_sem, g0, g1, g2]) rfl ⟨rfl, ?_⟩
    exact ((B.setCell (by simp) _).setCell (by simp) _).setCell (by simp) _
  · have R1 := Lib.hid (right_num (h.below B))
    have R2 := Lib.hid (right_bad (h'.below B))
    clear h h'
    go_enter Try.func8, Try.ntmps8
    go_wp2_with fail
    generalize w.alloc (.cells #[.bool false, .slice none 0 0, .slice none 0 0] 25) = W at *
    refine R1.out.mono ?_
    rintro e w' ⟨rfl, rfl⟩
    go_wp2_with fail
    refine R2.out.mono ?_
    rintro e w' ⟨rfl, rfl⟩
    clear R1 R2
    have f0 := hr.free 0
    have f1 := hr.free 1
    have f2 := hr.free 2
    have g0 := hr.cell 0
    have g1 := hr.cell 1
    have g2 := hr.cell 2
    simp at g0 g1 g2
    go_wp2_with fail
    refine bodyPost_ret (v := .tuple #[.agg #[.bool false, .slice none 0 0, .slice none 0 0], .int .i64 1]) (by simp [results, Try.results8, go_sem, g0, g1, g2]) rfl ⟨rfl, ?_⟩
    exact ((B.setCell (by simp) _).setCell (by simp) _).setCell (by simp) _
set_option maxHeartbeats 1600000 in
set_option maxRecDepth 100000 in
theorem make_zero (neg : Bool) (v u : Value) (N : Nat) (w : World) (h1 : Num w v N) (h2 : Num w u 0) :
    Calls Try.prog 8 #[.bool neg, v, u] w fun e w' => e = .returned (.tuple #[nilRat, .int .i64 4]) ∧ Below w.heap.size w w' := by
  have B : Below w.heap.size w (w.alloc (.cells #[.bool false, .slice none 0 0, .slice none 0 0] 25)) := (Below.refl _ _).alloc (Nat.le_refl _) _
  have hr := BlockAt.new w #[.bool false, .slice none 0 0, .slice none 0 0] 25
  unfold nilRat
  have R1 := Lib.hid (right_num (h1.below B))
  have R2 := Lib.hid (right_num (h2.below B))
  obtain ⟨uo, uc, rfl⟩ := Num.of_zero h2
  clear h1 h2
  go_enter Try.func8, Try.ntmps8
  go_wp2_with fail
  generalize w.alloc (.cells #[.bool false, .slice none 0 0, .slice none 0 0] 25) = W at *
  refine R1.out.mono ?_
  rintro e w' ⟨rfl, rfl⟩
  go_wp2_with fail
  refine R2.out.mono ?_
  rintro e w' ⟨rfl, rfl⟩
  clear R1 R2
  have f0 := hr.free 0
  have f1 := hr.free 1
  have f2 := hr.free 2
  have g0 := hr.cell 0
  have g1 := hr.cell 1
  have g2 := hr.cell 2
  simp at g0 g1 g2
  go_wp2_with fail
  refine bodyPost_ret (v := .tuple #[.agg #[.bool false, .slice none 0 0, .slice none 0 0], .int .i64 4]) (by simp [results, Try.results8, go_sem, g0, g1, g2]) rfl ⟨rfl, ?_⟩
  exact ((B.setCell (by simp) _).setCell (by simp) _).setCell (by simp) _
end Go.Proofs.Ythmhljfaenekfaa
