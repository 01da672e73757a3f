/- The product of two. -/
import Derived.Test.YthmhljfaenekfaaRatSum
namespace Go.Proofs.Ythmhljfaenekfaa
open Go.RowKit NM

theorem Told.good {N : Int} {e : Ending} {w : World} (h : Told N e w) (hN : N < pw 16) : ∃ v, e = .returned (.tuple #[v, .int .i64 0]) ∧ Num w v N := by
  rcases h with ⟨_, h⟩ | ⟨h, _⟩
  · exact h
  · omega
theorem Told.great {N : Int} {e : Ending} {w : World} (h : Told N e w) (hN : pw 16 ≤ N) : e = .returned (.tuple #[.slice none 0 0, .int .i64 2]) := by
  rcases h with ⟨h, _⟩ | ⟨_, h⟩
  · omega
  · exact h
structure ProdAt (w W : World) (s : Bool) (n1 d1 n2 d2 : Value) (N1 D1 N2 D2 : Nat) : Prop where
  bl : Below w.heap.size w W
  a : BlockAt W w.heap.size #[.bool s, n1, d1] 25
  r : BlockAt W (w.heap.size + 1) #[.bool false, .slice none 0 0, .slice none 0 0] 25
  n1 : Num W n1 N1
  d1 : Num W d1 D1
  n2 : Num W n2 N2
  d2 : Num W d2 D2
theorem ProdAt.later {w W W2 : World} {s : Bool} {n1 d1 n2 d2 : Value} {N1 D1 N2 D2 : Nat} (h : ProdAt w W s n1 d1 n2 d2 N1 D1 N2 D2) (hb : Below W.heap.size W W2) : ProdAt w W2 s n1 d1 n2 d2 N1 D1 N2 D2 :=
  ⟨h.bl.trans (hb.mono h.bl.size), h.a.below hb, h.r.below hb, h.n1.below hb, h.d1.below hb, h.n2.below hb, h.d2.below hb⟩
theorem ProdAt.start (w : World) (s : Bool) (n1 d1 n2 d2 : Value) (N1 D1 N2 D2 : Nat) (h1 : Num w n1 N1) (h2 : Num w d1 D1) (h3 : Num w n2 N2) (h4 : Num w d2 D2) :
    ProdAt w ((w.alloc (.cells #[.bool s, n1, d1] 25)).alloc (.cells #[.bool false, .slice none 0 0, .slice none 0 0] 25)) s n1 d1 n2 d2 N1 D1 N2 D2 := by
  have s1 := BlockAt.new w #[.bool s, n1, d1] 25
  have b1 : Below w.heap.size w (w.alloc (.cells #[.bool s, n1, d1] 25)) := (Below.refl _ _).alloc (Nat.le_refl _) _
  have e1 : (w.alloc (.cells #[.bool s, n1, d1] 25)).heap.size = w.heap.size + 1 := by simp
  generalize w.alloc (.cells #[.bool s, n1, d1] 25) = w1 at *
  have s3 := BlockAt.new w1 #[.bool false, .slice none 0 0, .slice none 0 0] 25
  have b3 : Below w1.heap.size w1 (w1.alloc (.cells #[.bool false, .slice none 0 0, .slice none 0 0] 25)) := (Below.refl _ _).alloc (Nat.le_refl _) _
  rw [e1] at s3
  have d := b1.trans (b3.mono b1.size)
  exact ⟨d, s1.below b3, s3, h1.below d, h2.below d, h3.below d, h4.below d⟩
theorem ProdAt.cells {w W : World} {s : Bool} {n1 d1 n2 d2 : Value} {N1 D1 N2 D2 : Nat} (h : ProdAt w W s n1 d1 n2 d2 N1 D1 N2 D2) :
    W.cell? ⟨w.heap.size, 0, none⟩ = some (.bool s) ∧ W.cell? ⟨w.heap.size, 1, none⟩ = some n1 ∧ W.cell? ⟨w.heap.size, 2, none⟩ = some d1 :=
  ⟨h.a.cell 0, h.a.cell 1, h.a.cell 2⟩

/-- Something in the product is too great. -/
def OverP (N1 D1 N2 D2 : Nat) : Prop := pw 16 ≤ ((N1 * N2 : Nat) : Int) ∨ pw 16 ≤ ((D1 * D2 : Nat) : Int)

set_option maxHeartbeats 3200000 in
set_option maxRecDepth 100000 in
theorem prod_raw (neg s : Bool) (n1 d1 n2 d2 : Value) (N1 D1 N2 D2 : Nat) (w : World) (h1 : Num w n1 N1) (h2 : Num w d1 D1) (h3 : Num w n2 N2) (h4 : Num w d2 D2) (hD1 : 0 < D1) (hD2 : 0 < D2) :
    Calls Try.prog 50 #[.bool neg, .agg #[.bool s, n1, d1], n2, d2] w fun e w' => ((¬ OverP N1 D1 N2 D2 ∧ ∃ r, e = .returned r ∧ RatN w' r (frac neg (N1 * N2) (D1 * D2))) ∨ (OverP N1 D1 N2 D2 ∧ e = .panicked [{ v := faultOver, recovered := false }])) ∧ Below w.heap.size w w' := by
  have S := ProdAt.start w s n1 d1 n2 d2 N1 D1 N2 D2 h1 h2 h3 h4
  clear h1 h2 h3 h4
  have hz0 := Lib.hid (show 0 < D1 * D2 from Nat.mul_pos hD1 hD2)
  clear hD1 hD2
  have tok1 : True := trivial
  have tok3 : True := trivial
  by_cases hx : ((N1 * N2 : Nat) : Int) < pw 16
  · have Hx := Lib.hid (show (N1 : Int) * (N2 : Int) < pw 16 from hx)
    by_cases hy : ((D1 * D2 : Nat) : Int) < pw 16
    · have hno := Lib.hid (show ¬ OverP N1 D1 N2 D2 from fun h => by rcases h with h | h <;> omega)
      have Hy := Lib.hid (show (D1 : Int) * (D2 : Int) < pw 16 from hy)
      clear hx hy
      go_enter Try.func50, Try.ntmps50
      go_wp2_with fail
      generalize (w.alloc (.cells #[.bool s, n1, d1] 25)).alloc (.cells #[.bool false, .slice none 0 0, .slice none 0 0] 25) = W at *
      have S := S.later ((Below.refl W.heap.size W).drew)
      obtain ⟨c0, c1, c2⟩ := S.cells
      go_region_with (first
        | (go_at_call 56; have _t := tok1; clear _t tok1; have tok2 : True := trivial; refine (mul_num n1 n2 N1 N2 W.drew S.n1 S.n2).mono ?_; rintro e W2 ⟨hto, bq⟩; obtain ⟨x, rfl, hn⟩ := hto.good Hx.out; have hn : Num W2 x ((N1 * N2 : Nat) : Int) := hn; have S := S.later bq; clear bq hto; obtain ⟨c0, c1, c2⟩ := S.cells)
        | (go_at_call 56; have _t := tok2; refine (mul_num d1 d2 D1 D2 _ S.d1 S.d2).mono ?_; rintro e W3 ⟨hto, bq⟩; obtain ⟨y, rfl, hd⟩ := hto.good Hy.out; have hd : Num W3 y ((D1 * D2 : Nat) : Int) := hd; have S := S.later bq; have hn := hn.below bq; clear bq hto; obtain ⟨c0, c1, c2⟩ := S.cells)
        | (go_at_call 67; refine (must_ok _ _).mono ?_; rintro e w' ⟨rfl, rfl⟩)
        | (go_at_call 37; refine (reduced_num neg x y (N1 * N2) (D1 * D2) _ hn hd hz0.out).mono ?_; rintro e W5 ⟨⟨r, rfl, hr⟩, bq⟩; have S := S.later bq; clear bq; obtain ⟨s_, o1, m1, k1, o2, m2, k2, rfl⟩ := RawN.form hr; have hrS := S.r; have f0 := hrS.free 0; have f1 := hrS.free 1; have f2 := hrS.free 2; have g0 := hrS.cell 0; have g1 := hrS.cell 1; have g2 := hrS.cell 2; simp at g0 g1 g2; have Hr := Lib.hid hr; clear hr; obtain ⟨c0, c1, c2⟩ := S.cells))
      all_goals
        go_wp2_with fail
        refine bodyPost_ret (v := .agg #[.bool s_, .slice o1 m1 k1, .slice o2 m2 k2]) (by simp [results, Try.results50, go_sem, g0, g1, g2]) rfl ⟨.inl ⟨hno.out, _, rfl, RawN.set3 Hr.out hrS⟩, ?_⟩
        exact ((S.bl.setCell (by simp) _).setCell (by simp) _).setCell (by simp) _
    · have hov := Lib.hid (show OverP N1 D1 N2 D2 from .inr (by omega))
      have Hy := Lib.hid (show pw 16 ≤ (D1 : Int) * (D2 : Int) from Int.not_lt.1 hy)
      clear hx hy
      go_enter Try.func50, Try.ntmps50
      go_wp2_with fail
      generalize (w.alloc (.cells #[.bool s, n1, d1] 25)).alloc (.cells #[.bool false, .slice none 0 0, .slice none 0 0] 25) = W at *
      have S := S.later ((Below.refl W.heap.size W).drew)
      obtain ⟨c0, c1, c2⟩ := S.cells
      refine wp_region_any (by kernel_rfl) ?_
      try (change wpAny _ _ _ _ _ _ _ (World.drew _))
      refine wpAny_take (i := 0) (v := ?_) rfl (by kernel_rfl) (by kernel_rfl) (by kernel_rfl) (fun _ _ _ h => h) (Or.inl ⟨by rfl, ?_⟩) ?_
      rotate_left
      · intro w; go_simp; try (with_reducible rfl)
      refine wpAny_take (i := 1) (v := ?_) rfl (by kernel_rfl) (by kernel_rfl) (by kernel_rfl) (fun _ _ _ h => h) (Or.inl ⟨by rfl, ?_⟩) ?_
      rotate_left
      · intro w; go_simp; try (with_reducible rfl)
      refine wpAny_take (i := 3) (v := ?_) rfl (by kernel_rfl) (by kernel_rfl) (by kernel_rfl) (fun _ _ _ h => h) (Or.inl ⟨by rfl, ?_⟩) ?_
      rotate_left
      · intro w; go_simp; try (with_reducible rfl)
      refine wpAny_take (i := 8) (v := ?_) rfl (by kernel_rfl) (by kernel_rfl) (by kernel_rfl) (fun _ _ _ h => h) (Or.inl ⟨by rfl, ?_⟩) ?_
      rotate_left
      · intro w; go_simp; try (with_reducible rfl)
      refine wpAny_take (i := 10) (v := ?_) rfl (by kernel_rfl) (by kernel_rfl) (by kernel_rfl) (fun _ _ _ h => h) (Or.inl ⟨by rfl, ?_⟩) ?_
      rotate_left
      · intro w; go_simp; try (with_reducible rfl)
      refine wpAny_ready (rs := [2, 9]) (by kernel_rfl) (by simp) ?_
      refine AllReady.cons rfl (fun K hK => ?_) ?_
      · go_simp
        refine hK _ _ ?_; clear hK K
        refine wpAny_ready (rs := [4, 9]) (by kernel_rfl) (by simp) ?_
        refine AllReady.cons rfl (fun K hK => ?_) ?_
        · go_simp
          refine (mul_num n1 n2 N1 N2 _ S.n1 S.n2).mono ?_; rintro e W2 ⟨hto, bq⟩; obtain ⟨x, rfl, -⟩ := hto.good Hx.out; have S := S.later bq; clear bq hto; obtain ⟨c0, c1, c2⟩ := S.cells
          go_wp2_with fail
          try (refine hK _ _ ?_; clear hK K)
          refine wpAny_take (i := 5) (v := ?_) rfl (by kernel_rfl) (by kernel_rfl) (by kernel_rfl) (fun _ _ _ h => h) (Or.inl ⟨by rfl, ?_⟩) ?_
          rotate_left
          · intro w; go_simp; try (with_reducible rfl)
          refine wpAny_take (i := 6) (v := ?_) rfl (by kernel_rfl) (by kernel_rfl) (by kernel_rfl) (fun _ _ _ h => h) (Or.inl ⟨by rfl, ?_⟩) ?_
          rotate_left
          · intro w; go_simp; try (with_reducible rfl)
          refine wpAny_ready (rs := [7, 9]) (by kernel_rfl) (by simp) ?_
          refine AllReady.cons rfl (fun K hK => ?_) ?_
          · go_simp
            refine (must_ok _ _).mono ?_; rintro e w' ⟨rfl, rfl⟩
            go_wp2_with fail
            try (refine hK _ _ ?_; clear hK K)
            refine wpAny_ready (rs := [9]) (by kernel_rfl) (by simp) ?_
            refine AllReady.cons rfl (fun K hK => ?_) ?_
            · go_simp
              refine hK _ _ ?_; clear hK K
              refine wpAny_ready (rs := [11]) (by kernel_rfl) (by simp) ?_
              refine AllReady.cons rfl (fun K hK => ?_) ?_
              · go_simp
                refine (mul_num d1 d2 D1 D2 _ S.d1 S.d2).mono ?_; rintro e W3 ⟨hto, bq⟩; obtain rfl := hto.great Hy.out; have S := S.later bq; clear bq hto; obtain ⟨c0, c1, c2⟩ := S.cells
                go_wp2_with fail
                try (refine hK _ _ ?_; clear hK K)
                refine wpAny_take (i := 12) (v := ?_) rfl (by kernel_rfl) (by kernel_rfl) (by kernel_rfl) (fun _ _ _ h => h) (Or.inl ⟨by rfl, ?_⟩) ?_
                rotate_left
                · intro w; go_simp; try (with_reducible rfl)
                refine wpAny_take (i := 13) (v := ?_) rfl (by kernel_rfl) (by kernel_rfl) (by kernel_rfl) (fun _ _ _ h => h) (Or.inl ⟨by rfl, ?_⟩) ?_
                rotate_left
                · intro w; go_simp; try (with_reducible rfl)
                refine wpAny_ready (rs := [14]) (by kernel_rfl) (by simp) ?_
                refine AllReady.cons rfl (fun K hK => ?_) ?_
                · go_simp
                  refine (must_over _ _).mono ?_; rintro e w' ⟨rfl, rfl⟩
                  exact ⟨rfl, .inr ⟨hov.out, rfl⟩, S.bl⟩
                exact AllReady.nil
              exact AllReady.nil
            exact AllReady.nil
          refine AllReady.cons rfl (fun K hK => ?_) ?_
          · go_simp
            refine hK _ _ ?_; clear hK K
            refine wpAny_ready (rs := [7]) (by kernel_rfl) (by simp) ?_
            refine AllReady.cons rfl (fun K hK => ?_) ?_
            · go_simp
              refine (must_ok _ _).mono ?_; rintro e w' ⟨rfl, rfl⟩
              go_wp2_with fail
              try (refine hK _ _ ?_; clear hK K)
              refine wpAny_ready (rs := [11]) (by kernel_rfl) (by simp) ?_
              refine AllReady.cons rfl (fun K hK => ?_) ?_
              · go_simp
                refine (mul_num d1 d2 D1 D2 _ S.d1 S.d2).mono ?_; rintro e W3 ⟨hto, bq⟩; obtain rfl := hto.great Hy.out; have S := S.later bq; clear bq hto; obtain ⟨c0, c1, c2⟩ := S.cells
                go_wp2_with fail
                try (refine hK _ _ ?_; clear hK K)
                refine wpAny_take (i := 12) (v := ?_) rfl (by kernel_rfl) (by kernel_rfl) (by kernel_rfl) (fun _ _ _ h => h) (Or.inl ⟨by rfl, ?_⟩) ?_
                rotate_left
                · intro w; go_simp; try (with_reducible rfl)
                refine wpAny_take (i := 13) (v := ?_) rfl (by kernel_rfl) (by kernel_rfl) (by kernel_rfl) (fun _ _ _ h => h) (Or.inl ⟨by rfl, ?_⟩) ?_
                rotate_left
                · intro w; go_simp; try (with_reducible rfl)
                refine wpAny_ready (rs := [14]) (by kernel_rfl) (by simp) ?_
                refine AllReady.cons rfl (fun K hK => ?_) ?_
                · go_simp
                  refine (must_over _ _).mono ?_; rintro e w' ⟨rfl, rfl⟩
                  exact ⟨rfl, .inr ⟨hov.out, rfl⟩, S.bl⟩
                exact AllReady.nil
              exact AllReady.nil
            exact AllReady.nil
          exact AllReady.nil
        refine AllReady.cons rfl (fun K hK => ?_) ?_
        · go_simp
          refine hK _ _ ?_; clear hK K
          refine wpAny_ready (rs := [4]) (by kernel_rfl) (by simp) ?_
          refine AllReady.cons rfl (fun K hK => ?_) ?_
          · go_simp
            refine (mul_num n1 n2 N1 N2 _ S.n1 S.n2).mono ?_; rintro e W2 ⟨hto, bq⟩; obtain ⟨x, rfl, -⟩ := hto.good Hx.out; have S := S.later bq; clear bq hto; obtain ⟨c0, c1, c2⟩ := S.cells
            go_wp2_with fail
            try (refine hK _ _ ?_; clear hK K)
            refine wpAny_take (i := 5) (v := ?_) rfl (by kernel_rfl) (by kernel_rfl) (by kernel_rfl) (fun _ _ _ h => h) (Or.inl ⟨by rfl, ?_⟩) ?_
            rotate_left
            · intro w; go_simp; try (with_reducible rfl)
            refine wpAny_take (i := 6) (v := ?_) rfl (by kernel_rfl) (by kernel_rfl) (by kernel_rfl) (fun _ _ _ h => h) (Or.inl ⟨by rfl, ?_⟩) ?_
            rotate_left
            · intro w; go_simp; try (with_reducible rfl)
            refine wpAny_ready (rs := [7]) (by kernel_rfl) (by simp) ?_
            refine AllReady.cons rfl (fun K hK => ?_) ?_
            · go_simp
              refine (must_ok _ _).mono ?_; rintro e w' ⟨rfl, rfl⟩
              go_wp2_with fail
              try (refine hK _ _ ?_; clear hK K)
              refine wpAny_ready (rs := [11]) (by kernel_rfl) (by simp) ?_
              refine AllReady.cons rfl (fun K hK => ?_) ?_
              · go_simp
                refine (mul_num d1 d2 D1 D2 _ S.d1 S.d2).mono ?_; rintro e W3 ⟨hto, bq⟩; obtain rfl := hto.great Hy.out; have S := S.later bq; clear bq hto; obtain ⟨c0, c1, c2⟩ := S.cells
                go_wp2_with fail
                try (refine hK _ _ ?_; clear hK K)
                refine wpAny_take (i := 12) (v := ?_) rfl (by kernel_rfl) (by kernel_rfl) (by kernel_rfl) (fun _ _ _ h => h) (Or.inl ⟨by rfl, ?_⟩) ?_
                rotate_left
                · intro w; go_simp; try (with_reducible rfl)
                refine wpAny_take (i := 13) (v := ?_) rfl (by kernel_rfl) (by kernel_rfl) (by kernel_rfl) (fun _ _ _ h => h) (Or.inl ⟨by rfl, ?_⟩) ?_
                rotate_left
                · intro w; go_simp; try (with_reducible rfl)
                refine wpAny_ready (rs := [14]) (by kernel_rfl) (by simp) ?_
                refine AllReady.cons rfl (fun K hK => ?_) ?_
                · go_simp
                  refine (must_over _ _).mono ?_; rintro e w' ⟨rfl, rfl⟩
                  exact ⟨rfl, .inr ⟨hov.out, rfl⟩, S.bl⟩
                exact AllReady.nil
              exact AllReady.nil
            exact AllReady.nil
          exact AllReady.nil
        exact AllReady.nil
      refine AllReady.cons rfl (fun K hK => ?_) ?_
      · go_simp
        refine hK _ _ ?_; clear hK K
        refine wpAny_ready (rs := [2]) (by kernel_rfl) (by simp) ?_
        refine AllReady.cons rfl (fun K hK => ?_) ?_
        · go_simp
          refine hK _ _ ?_; clear hK K
          refine wpAny_ready (rs := [4]) (by kernel_rfl) (by simp) ?_
          refine AllReady.cons rfl (fun K hK => ?_) ?_
          · go_simp
            refine (mul_num n1 n2 N1 N2 _ S.n1 S.n2).mono ?_; rintro e W2 ⟨hto, bq⟩; obtain ⟨x, rfl, -⟩ := hto.good Hx.out; have S := S.later bq; clear bq hto; obtain ⟨c0, c1, c2⟩ := S.cells
            go_wp2_with fail
            try (refine hK _ _ ?_; clear hK K)
            refine wpAny_take (i := 5) (v := ?_) rfl (by kernel_rfl) (by kernel_rfl) (by kernel_rfl) (fun _ _ _ h => h) (Or.inl ⟨by rfl, ?_⟩) ?_
            rotate_left
            · intro w; go_simp; try (with_reducible rfl)
            refine wpAny_take (i := 6) (v := ?_) rfl (by kernel_rfl) (by kernel_rfl) (by kernel_rfl) (fun _ _ _ h => h) (Or.inl ⟨by rfl, ?_⟩) ?_
            rotate_left
            · intro w; go_simp; try (with_reducible rfl)
            refine wpAny_ready (rs := [7]) (by kernel_rfl) (by simp) ?_
            refine AllReady.cons rfl (fun K hK => ?_) ?_
            · go_simp
              refine (must_ok _ _).mono ?_; rintro e w' ⟨rfl, rfl⟩
              go_wp2_with fail
              try (refine hK _ _ ?_; clear hK K)
              refine wpAny_ready (rs := [11]) (by kernel_rfl) (by simp) ?_
              refine AllReady.cons rfl (fun K hK => ?_) ?_
              · go_simp
                refine (mul_num d1 d2 D1 D2 _ S.d1 S.d2).mono ?_; rintro e W3 ⟨hto, bq⟩; obtain rfl := hto.great Hy.out; have S := S.later bq; clear bq hto; obtain ⟨c0, c1, c2⟩ := S.cells
                go_wp2_with fail
                try (refine hK _ _ ?_; clear hK K)
                refine wpAny_take (i := 12) (v := ?_) rfl (by kernel_rfl) (by kernel_rfl) (by kernel_rfl) (fun _ _ _ h => h) (Or.inl ⟨by rfl, ?_⟩) ?_
                rotate_left
                · intro w; go_simp; try (with_reducible rfl)
                refine wpAny_take (i := 13) (v := ?_) rfl (by kernel_rfl) (by kernel_rfl) (by kernel_rfl) (fun _ _ _ h => h) (Or.inl ⟨by rfl, ?_⟩) ?_
                rotate_left
                · intro w; go_simp; try (with_reducible rfl)
                refine wpAny_ready (rs := [14]) (by kernel_rfl) (by simp) ?_
                refine AllReady.cons rfl (fun K hK => ?_) ?_
                · go_simp
                  refine (must_over _ _).mono ?_; rintro e w' ⟨rfl, rfl⟩
                  exact ⟨rfl, .inr ⟨hov.out, rfl⟩, S.bl⟩
                exact AllReady.nil
              exact AllReady.nil
            exact AllReady.nil
          exact AllReady.nil
        exact AllReady.nil
      exact AllReady.nil
  · have hov := Lib.hid (show OverP N1 D1 N2 D2 from .inl (by omega))
    have Hx := Lib.hid (show pw 16 ≤ (N1 : Int) * (N2 : Int) from Int.not_lt.1 hx)
    clear hx
    go_enter Try.func50, Try.ntmps50
    go_wp2_with fail
    generalize (w.alloc (.cells #[.bool s, n1, d1] 25)).alloc (.cells #[.bool false, .slice none 0 0, .slice none 0 0] 25) = W at *
    have S := S.later ((Below.refl W.heap.size W).drew)
    obtain ⟨c0, c1, c2⟩ := S.cells
    refine wp_region_any (by kernel_rfl) ?_
    try (change wpAny _ _ _ _ _ _ _ (World.drew _))
    refine wpAny_take (i := 0) (v := ?_) rfl (by kernel_rfl) (by kernel_rfl) (by kernel_rfl) (fun _ _ _ h => h) (Or.inl ⟨by rfl, ?_⟩) ?_
    rotate_left
    · intro w; go_simp; try (with_reducible rfl)
    refine wpAny_take (i := 1) (v := ?_) rfl (by kernel_rfl) (by kernel_rfl) (by kernel_rfl) (fun _ _ _ h => h) (Or.inl ⟨by rfl, ?_⟩) ?_
    rotate_left
    · intro w; go_simp; try (with_reducible rfl)
    refine wpAny_take (i := 3) (v := ?_) rfl (by kernel_rfl) (by kernel_rfl) (by kernel_rfl) (fun _ _ _ h => h) (Or.inl ⟨by rfl, ?_⟩) ?_
    rotate_left
    · intro w; go_simp; try (with_reducible rfl)
    refine wpAny_take (i := 8) (v := ?_) rfl (by kernel_rfl) (by kernel_rfl) (by kernel_rfl) (fun _ _ _ h => h) (Or.inl ⟨by rfl, ?_⟩) ?_
    rotate_left
    · intro w; go_simp; try (with_reducible rfl)
    refine wpAny_take (i := 10) (v := ?_) rfl (by kernel_rfl) (by kernel_rfl) (by kernel_rfl) (fun _ _ _ h => h) (Or.inl ⟨by rfl, ?_⟩) ?_
    rotate_left
    · intro w; go_simp; try (with_reducible rfl)
    refine wpAny_ready (rs := [2, 9]) (by kernel_rfl) (by simp) ?_
    refine AllReady.cons rfl (fun K hK => ?_) ?_
    · go_simp
      refine hK _ _ ?_; clear hK K
      refine wpAny_ready (rs := [4, 9]) (by kernel_rfl) (by simp) ?_
      refine AllReady.cons rfl (fun K hK => ?_) ?_
      · go_simp
        refine (mul_num n1 n2 N1 N2 _ S.n1 S.n2).mono ?_; rintro e W2 ⟨hto, bq⟩; obtain rfl := hto.great Hx.out; have S := S.later bq; clear bq hto; obtain ⟨c0, c1, c2⟩ := S.cells
        go_wp2_with fail
        try (refine hK _ _ ?_; clear hK K)
        refine wpAny_take (i := 5) (v := ?_) rfl (by kernel_rfl) (by kernel_rfl) (by kernel_rfl) (fun _ _ _ h => h) (Or.inl ⟨by rfl, ?_⟩) ?_
        rotate_left
        · intro w; go_simp; try (with_reducible rfl)
        refine wpAny_take (i := 6) (v := ?_) rfl (by kernel_rfl) (by kernel_rfl) (by kernel_rfl) (fun _ _ _ h => h) (Or.inl ⟨by rfl, ?_⟩) ?_
        rotate_left
        · intro w; go_simp; try (with_reducible rfl)
        refine wpAny_ready (rs := [7, 9]) (by kernel_rfl) (by simp) ?_
        refine AllReady.cons rfl (fun K hK => ?_) ?_
        · go_simp
          refine (must_over _ _).mono ?_; rintro e w' ⟨rfl, rfl⟩
          exact ⟨rfl, .inr ⟨hov.out, rfl⟩, S.bl⟩
        refine AllReady.cons rfl (fun K hK => ?_) ?_
        · go_simp
          refine hK _ _ ?_; clear hK K
          refine wpAny_ready (rs := [7]) (by kernel_rfl) (by simp) ?_
          refine AllReady.cons rfl (fun K hK => ?_) ?_
          · go_simp
            refine (must_over _ _).mono ?_; rintro e w' ⟨rfl, rfl⟩
            exact ⟨rfl, .inr ⟨hov.out, rfl⟩, S.bl⟩
          exact AllReady.nil
        exact AllReady.nil
      refine AllReady.cons rfl (fun K hK => ?_) ?_
      · go_simp
        refine hK _ _ ?_; clear hK K
        refine wpAny_ready (rs := [4]) (by kernel_rfl) (by simp) ?_
        refine AllReady.cons rfl (fun K hK => ?_) ?_
        · go_simp
          refine (mul_num n1 n2 N1 N2 _ S.n1 S.n2).mono ?_; rintro e W2 ⟨hto, bq⟩; obtain rfl := hto.great Hx.out; have S := S.later bq; clear bq hto; obtain ⟨c0, c1, c2⟩ := S.cells
          go_wp2_with fail
          try (refine hK _ _ ?_; clear hK K)
          refine wpAny_take (i := 5) (v := ?_) rfl (by kernel_rfl) (by kernel_rfl) (by kernel_rfl) (fun _ _ _ h => h) (Or.inl ⟨by rfl, ?_⟩) ?_
          rotate_left
          · intro w; go_simp; try (with_reducible rfl)
          refine wpAny_take (i := 6) (v := ?_) rfl (by kernel_rfl) (by kernel_rfl) (by kernel_rfl) (fun _ _ _ h => h) (Or.inl ⟨by rfl, ?_⟩) ?_
          rotate_left
          · intro w; go_simp; try (with_reducible rfl)
          refine wpAny_ready (rs := [7]) (by kernel_rfl) (by simp) ?_
          refine AllReady.cons rfl (fun K hK => ?_) ?_
          · go_simp
            refine (must_over _ _).mono ?_; rintro e w' ⟨rfl, rfl⟩
            exact ⟨rfl, .inr ⟨hov.out, rfl⟩, S.bl⟩
          exact AllReady.nil
        exact AllReady.nil
      exact AllReady.nil
    refine AllReady.cons rfl (fun K hK => ?_) ?_
    · go_simp
      refine hK _ _ ?_; clear hK K
      refine wpAny_ready (rs := [2]) (by kernel_rfl) (by simp) ?_
      refine AllReady.cons rfl (fun K hK => ?_) ?_
      · go_simp
        refine hK _ _ ?_; clear hK K
        refine wpAny_ready (rs := [4]) (by kernel_rfl) (by simp) ?_
        refine AllReady.cons rfl (fun K hK => ?_) ?_
        · go_simp
          refine (mul_num n1 n2 N1 N2 _ S.n1 S.n2).mono ?_; rintro e W2 ⟨hto, bq⟩; obtain rfl := hto.great Hx.out; have S := S.later bq; clear bq hto; obtain ⟨c0, c1, c2⟩ := S.cells
          go_wp2_with fail
          try (refine hK _ _ ?_; clear hK K)
          refine wpAny_take (i := 5) (v := ?_) rfl (by kernel_rfl) (by kernel_rfl) (by kernel_rfl) (fun _ _ _ h => h) (Or.inl ⟨by rfl, ?_⟩) ?_
          rotate_left
          · intro w; go_simp; try (with_reducible rfl)
          refine wpAny_take (i := 6) (v := ?_) rfl (by kernel_rfl) (by kernel_rfl) (by kernel_rfl) (fun _ _ _ h => h) (Or.inl ⟨by rfl, ?_⟩) ?_
          rotate_left
          · intro w; go_simp; try (with_reducible rfl)
          refine wpAny_ready (rs := [7]) (by kernel_rfl) (by simp) ?_
          refine AllReady.cons rfl (fun K hK => ?_) ?_
          · go_simp
            refine (must_over _ _).mono ?_; rintro e w' ⟨rfl, rfl⟩
            exact ⟨rfl, .inr ⟨hov.out, rfl⟩, S.bl⟩
          exact AllReady.nil
        exact AllReady.nil
      exact AllReady.nil
    exact AllReady.nil
end Go.Proofs.Ythmhljfaenekfaa
