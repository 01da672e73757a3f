/- The law RoundBack. -/
import Derived.Test.YtlkadnaoacoicaaDoorRoundBackM
import Derived.Deep.DeepCutAuto
namespace Go.Proofs.YtlkadnaoacoicaaDoor
open Go.RowKit NM

theorem validb.lt {size : Int} {S H E mant least b : Nat} (h : validb S H E b) (F : Form3 size S H E mant least) : b < 18446744073709551616 := by
  have := F.facts.2.2.2.2.2.1
  have := h.1
  omega
theorem same_rat_above {w : World} {v u : Value} {x y : Rat} (h1 : RatN w v x) (h2 : RatN w u y) {o : Obj} : ∀ W, Below (w.alloc o).heap.size (w.alloc o) W →
    Calls Tryd.prog 8 #[v, u] W fun e w' => e = .returned (.bool (decide (x = y))) ∧ Below W.heap.size W w' := fun W hb => by
  have b4 : Below w.heap.size w (w.alloc o) := (Below.refl _ _).alloc (Nat.le_refl _) _
  have b5 : Below w.heap.size w W := b4.trans (hb.mono b4.size)
  exact same_rat (h1.below b5) (h2.below b5)
set_option maxHeartbeats 100000000 in
set_option maxRecDepth 100000 in
theorem back3_walk (bits : Int) (s0 : Bool) (a0 : Option Addr) (len0 cap0 : Nat) (z0 : List Int) (a1 : Option Addr) (len1 cap1 : Nat) (z1 : List Int) (sz : Int) (w : World)
    (hbits : (Lit.int .u64 bits).wf = true) (w0 : IsRow .u32 w a0 len0 cap0 z0) (w1 : IsRow .u32 w a1 len1 cap1 z1) (hsz : (Lit.int .i64 sz).wf = true) (hT : Tab64 w) :
    Calls Tryd.prog 4 #[.int .u64 bits, .agg #[.bool s0, .slice a0 len0 cap0, .slice a1 len1 cap1], .int .i64 sz] w fun e w' => e = .returned (.bool true) ∧ Below w.heap.size w w' := by
  obtain ⟨b, rfl, hb64⟩ : ∃ b : Nat, bits = (b : Int) ∧ b < 18446744073709551616 := by
    have h1 : (0 : Int) ≤ bits ∧ bits ≤ 18446744073709551615 := by simpa [Lit.wf, IntKind.min, IntKind.max, IntKind.signed, IntKind.bits] using hbits
    exact ⟨bits.toNat, by omega, by omega⟩
  have B : Below w.heap.size w (w.alloc (.cells #[.bool s0, .slice a0 len0 cap0, .slice a1 len1 cap1] 26)) := (Below.refl _ _).alloc (Nat.le_refl _) _
  have hr := BlockAt.new w #[.bool s0, .slice a0 len0 cap0, .slice a1 len1 cap1] 26
  have FW := Lib.hid (fun (W : World) (B : Below w.heap.size w W) => fewO s0 a0 len0 cap0 z0 a1 len1 cap1 z1 W (w0.later B) (w1.later B))
  have HT := Lib.hid hT
  have Hsz := Lib.hid hsz
  have Hb64 := Lib.hid hb64
  clear w0 w1 hT hsz hbits
  obtain ⟨c0, c1, c2⟩ := block3 hr
  have cl := hr.lt
  go_enter Tryd.func4, Tryd.ntmps4
  go_wp2_with fail
  refine (FW.out _ B).mono ?_
  rintro e W1 ⟨⟨n1, d1, xs, ys, rfl, x1, x2⟩, bq⟩
  obtain ⟨o1, m1, k1, rfl⟩ := x1.form
  obtain ⟨o2, m2, k2, rfl⟩ := x2.form
  have hr := hr.below bq
  have B := B.trans (bq.mono B.size)
  clear bq FW c0 c1 c2 cl
  have y1 := Sl.set3any (a := s0) (o1 := o1) (n1 := m1) (c1 := k1) (o2 := o2) (n2 := m2) (c2 := k2) x1 hr
  have y2 := Sl.set3any (a := s0) (o1 := o1) (n1 := m1) (c1 := k1) (o2 := o2) (n2 := m2) (c2 := k2) x2 hr
  have HX := Lib.hid (rat_ways _ s0 _ _ _ _ y1 y2)
  have hr2 := ((hr.set 0 (.bool s0)).set 1 (.slice o1 m1 k1)).set 2 (.slice o2 m2 k2)
  have B2 := ((B.setCell (p := ⟨w.heap.size, 0, none⟩) (Nat.le_refl _) (.bool s0)).setCell (p := ⟨w.heap.size, 1, none⟩) (Nat.le_refl _) (.slice o1 m1 k1)).setCell (p := ⟨w.heap.size, 2, none⟩) (Nat.le_refl _) (.slice o2 m2 k2)
  obtain ⟨c0, c1, c2⟩ := block3 hr
  have f0 := hr.free 0
  have f1 := hr.free 1
  have f2 := hr.free 2
  have cl := hr.lt
  clear x1 x2 y1 y2
  go_wp2_with fail
  clear c0 c1 c2 f0 f1 f2 cl hr B
  generalize ((W1.setCell ⟨w.heap.size, 0, none⟩ (.bool s0)).setCell ⟨w.heap.size, 1, none⟩ (.slice o1 m1 k1)).setCell ⟨w.heap.size, 2, none⟩ (.slice o2 m2 k2) = V0 at *
  simp at hr2
  have hr := hr2
  have B := B2
  clear hr2 B2
  obtain ⟨c0, c1, c2⟩ := block3 hr
  have cl := hr.lt
  by_cases hF : sz = 32 ∨ sz = 64
  · obtain ⟨S, H, E, mant, least, F⟩ : ∃ S H E mant least, Form3 sz S H E mant least := by
      rcases hF with rfl | rfl
      · exact ⟨_, _, _, _, _, .inl ⟨rfl, rfl, rfl, rfl, rfl, rfl⟩⟩
      · exact ⟨_, _, _, _, _, .inr ⟨rfl, rfl, rfl, rfl, rfl, rfl⟩⟩
    have F := Lib.hid F
    clear hF
    refine (value_res F.out b _ Hb64.out (HT.out.below B)).mono ?_
    rintro e W2 ⟨⟨v, k, rfl, hv⟩, bq⟩
    have HX := Lib.hid (AnyR.below HX.out bq)
    have hr := hr.below bq
    have B := B.trans (bq.mono B.size)
    clear bq c0 c1 c2 cl
    obtain ⟨c0, c1, c2⟩ := block3 hr
    have cl := hr.lt
    have hk : (k = 0 ∧ validb S H E b ∧ RatN W2 v (fval (decide (S ≤ b)) (b % S) mant least)) ∨ ((k == 0) = false ∧ v = nilR) := by
      rcases hv with h | ⟨rfl, -, h⟩ | ⟨rfl, h, -⟩
      · exact .inl h
      · exact .inr ⟨rfl, h⟩
      · exact .inr ⟨rfl, h⟩
    clear hv
    rcases hk with ⟨rfl, hvb, hrat⟩ | ⟨hk, rfl⟩
    · have HB := Lib.hid (fun (W : World) (B : Below W2.heap.size W2 W) => bits_fval F.out b v W Hsz.out hvb (hrat.below B))
      have HR := Lib.hid (fun (W : World) (B : Below W2.heap.size W2 W) => right_rat (hrat.below B))
      obtain ⟨s5, o5, n5, c5, u5, m5, d5, rfl⟩ := RawN.form hrat
      clear hvb hrat
      have b4 : Below W2.heap.size W2 (W2.alloc (.cells #[.bool s5, .slice o5 n5 c5, .slice u5 m5 d5] 26)) := (Below.refl _ _).alloc (Nat.le_refl _) _
      have hn := BlockAt.new W2 #[.bool s5, .slice o5 n5 c5, .slice u5 m5 d5] 26
      have hr := hr.below b4
      have B := B.trans (b4.mono B.size)
      have HX := Lib.hid (AnyR.below HX.out b4)
      have C := b4
      clear b4 c0 c1 c2 cl
      obtain ⟨c0, c1, c2⟩ := block3 hr
      obtain ⟨p0, p1, p2⟩ := block3 hn
      have cl := hr.lt
      go_wp2_with fail
      refine (HB.out _ C).mono ?_
      rintro e W3 ⟨rfl, bq⟩
      have HX := Lib.hid (AnyR.below HX.out bq)
      have hn := hn.below bq
      have C := C.trans (bq.mono C.size)
      clear p0 p1 p2
      obtain ⟨p0, p1, p2⟩ := block3 hn
      have hr := hr.below bq
      have B := B.trans (bq.mono B.size)
      clear bq c0 c1 c2 cl
      obtain ⟨c0, c1, c2⟩ := block3 hr
      have cl := hr.lt
      have hbb : ((b : Int) != b) = false := by simp
      go_wp2_with fail
      refine (HR.out _ C).mono ?_
      rintro e W3a ⟨rfl, bq⟩
      have HX := Lib.hid (AnyR.below HX.out bq)
      clear p0 p1 p2 hn HR HB C
      have hr := hr.below bq
      have B := B.trans (bq.mono B.size)
      clear bq c0 c1 c2 cl
      obtain ⟨c0, c1, c2⟩ := block3 hr
      have cl := hr.lt
      go_wp2_with fail
      rcases HX.out with ⟨x, hx⟩ | hbx
      · refine (bits_back F.out _ x _ Hsz.out hx).mono ?_
        rintro e W4 ⟨⟨b2, ex, k2, rfl, hk2⟩, bq⟩
        have hx := hx.below bq
        have hr := hr.below bq
        have B := B.trans (bq.mono B.size)
        clear bq c0 c1 c2 cl
        obtain ⟨c0, c1, c2⟩ := block3 hr
        have cl := hr.lt
        rcases hk2 with ⟨rfl, rfl⟩ | ⟨rfl, hvb, hex⟩
        · clear HX
          go_wp2_with fail
          refine (alive3 _).mono ?_
          rintro e W9 ⟨rfl, bq⟩
          have B := B.trans (bq.mono B.size)
          go_wp2_with fail
          go_ret
          exact ⟨rfl, B⟩
        · have hb64 := hvb.lt F.out
          have Hvb := Lib.hid hvb
          have Hex := Lib.hid hex
          clear hvb hex HX
          go_wp2_with fail
          refine (value_res F.out b2 _ hb64 (HT.out.below B)).mono ?_
          rintro e W5 ⟨⟨v2, k3, rfl, hv2⟩, bq⟩
          have hx := hx.below bq
          have hr := hr.below bq
          have B := B.trans (bq.mono B.size)
          clear bq c0 c1 c2 cl
          obtain ⟨c0, c1, c2⟩ := block3 hr
          have cl := hr.lt
          rcases hv2 with ⟨rfl, -, hrat⟩ | ⟨-, hno, -⟩ | ⟨rfl, rfl, -, -⟩
          · obtain ⟨s5, o5, n5, c5, u5, m5, d5, rfl⟩ := RawN.form hrat
            have HS := Lib.hid (same_rat_above (o := .cells #[.bool s5, .slice o5 n5 c5, .slice u5 m5 d5] 26) hrat hx)
            have b4 : Below W5.heap.size W5 (W5.alloc (.cells #[.bool s5, .slice o5 n5 c5, .slice u5 m5 d5] 26)) := (Below.refl _ _).alloc (Nat.le_refl _) _
            have hn := BlockAt.new W5 #[.bool s5, .slice o5 n5 c5, .slice u5 m5 d5] 26
            have hr := hr.below b4
            have B := B.trans (b4.mono B.size)
            clear hrat hx b4 c0 c1 c2 cl
            go_wp2_with fail
            refine (alive3 _).mono ?_
            rintro e W9 ⟨rfl, bq⟩
            have HS := Lib.hid (HS.out W9 bq)
            have B := B.trans (bq.mono B.size)
            have hr := hr.below bq
            have hn := hn.below bq
            obtain ⟨c0, c1, c2⟩ := block3 hr
            obtain ⟨c3, c4, c5⟩ := block3 hn
            clear bq
            go_wp2_with fail
            refine HS.out.mono ?_
            rintro e W10 ⟨rfl, bq⟩
            have B := B.trans (bq.mono B.size)
            rw [← Hex.out]
            clear bq c0 c1 c2 c3 c4 c5 HS
            go_wp2_with fail
            go_ret
            exact ⟨ret_bool (by simp), B⟩
          · exact absurd Hvb.out hno
          · unfold nilR
            go_wp2_with fail
            refine (alive3 _).mono ?_
            rintro e W9 ⟨rfl, bq⟩
            have b4 : Below W5.heap.size W5 (W5.alloc (.cells #[.bool false, .slice none 0 0, .slice none 0 0] 26)) := (Below.refl _ _).alloc (Nat.le_refl _) _
            have B := (B.trans (b4.mono B.size)).trans (bq.mono (B.trans (b4.mono B.size)).size)
            go_wp2_with fail
            go_ret
            exact ⟨rfl, B⟩
      · clear HX
        refine (bits_badr _ sz _ Hsz.out F.out.size hbx).mono ?_
        rintro e W4 ⟨rfl, bq⟩
        have hr := hr.below bq
        have B := B.trans (bq.mono B.size)
        clear bq c0 c1 c2 cl
        obtain ⟨c0, c1, c2⟩ := block3 hr
        have cl := hr.lt
        go_wp2_with fail
        refine (alive3 _).mono ?_
        rintro e W9 ⟨rfl, bq⟩
        have B := B.trans (bq.mono B.size)
        go_wp2_with fail
        go_ret
        exact ⟨rfl, B⟩
    · unfold nilR
      have b4 : Below W2.heap.size W2 (W2.alloc (.cells #[.bool false, .slice none 0 0, .slice none 0 0] 26)) := (Below.refl _ _).alloc (Nat.le_refl _) _
      have hr := hr.below b4
      have B := B.trans (b4.mono B.size)
      have HX := Lib.hid (AnyR.below HX.out b4)
      clear b4 c0 c1 c2 cl
      obtain ⟨c0, c1, c2⟩ := block3 hr
      have cl := hr.lt
      go_wp2_with fail
      rcases HX.out with ⟨x, hx⟩ | hbx
      · refine (bits_back F.out _ x _ Hsz.out hx).mono ?_
        rintro e W4 ⟨⟨b2, ex, k2, rfl, hk2⟩, bq⟩
        have hx := hx.below bq
        have hr := hr.below bq
        have B := B.trans (bq.mono B.size)
        clear bq c0 c1 c2 cl
        obtain ⟨c0, c1, c2⟩ := block3 hr
        have cl := hr.lt
        rcases hk2 with ⟨rfl, rfl⟩ | ⟨rfl, hvb, hex⟩
        · clear HX
          go_wp2_with fail
          refine (alive3 _).mono ?_
          rintro e W9 ⟨rfl, bq⟩
          have B := B.trans (bq.mono B.size)
          go_wp2_with fail
          go_ret
          exact ⟨rfl, B⟩
        · have hb64 := hvb.lt F.out
          have Hvb := Lib.hid hvb
          have Hex := Lib.hid hex
          clear hvb hex HX
          go_wp2_with fail
          refine (value_res F.out b2 _ hb64 (HT.out.below B)).mono ?_
          rintro e W5 ⟨⟨v2, k3, rfl, hv2⟩, bq⟩
          have hx := hx.below bq
          have hr := hr.below bq
          have B := B.trans (bq.mono B.size)
          clear bq c0 c1 c2 cl
          obtain ⟨c0, c1, c2⟩ := block3 hr
          have cl := hr.lt
          rcases hv2 with ⟨rfl, -, hrat⟩ | ⟨-, hno, -⟩ | ⟨rfl, rfl, -, -⟩
          · obtain ⟨s5, o5, n5, c5, u5, m5, d5, rfl⟩ := RawN.form hrat
            have HS := Lib.hid (same_rat_above (o := .cells #[.bool s5, .slice o5 n5 c5, .slice u5 m5 d5] 26) hrat hx)
            have b4 : Below W5.heap.size W5 (W5.alloc (.cells #[.bool s5, .slice o5 n5 c5, .slice u5 m5 d5] 26)) := (Below.refl _ _).alloc (Nat.le_refl _) _
            have hn := BlockAt.new W5 #[.bool s5, .slice o5 n5 c5, .slice u5 m5 d5] 26
            have hr := hr.below b4
            have B := B.trans (b4.mono B.size)
            clear hrat hx b4 c0 c1 c2 cl
            go_wp2_with fail
            refine (alive3 _).mono ?_
            rintro e W9 ⟨rfl, bq⟩
            have HS := Lib.hid (HS.out W9 bq)
            have B := B.trans (bq.mono B.size)
            have hr := hr.below bq
            have hn := hn.below bq
            obtain ⟨c0, c1, c2⟩ := block3 hr
            obtain ⟨c3, c4, c5⟩ := block3 hn
            clear bq
            go_wp2_with fail
            refine HS.out.mono ?_
            rintro e W10 ⟨rfl, bq⟩
            have B := B.trans (bq.mono B.size)
            rw [← Hex.out]
            clear bq c0 c1 c2 c3 c4 c5 HS
            go_wp2_with fail
            go_ret
            exact ⟨ret_bool (by simp), B⟩
          · exact absurd Hvb.out hno
          · unfold nilR
            go_wp2_with fail
            refine (alive3 _).mono ?_
            rintro e W9 ⟨rfl, bq⟩
            have b4 : Below W5.heap.size W5 (W5.alloc (.cells #[.bool false, .slice none 0 0, .slice none 0 0] 26)) := (Below.refl _ _).alloc (Nat.le_refl _) _
            have B := (B.trans (b4.mono B.size)).trans (bq.mono (B.trans (b4.mono B.size)).size)
            go_wp2_with fail
            go_ret
            exact ⟨rfl, B⟩
      · clear HX
        refine (bits_badr _ sz _ Hsz.out F.out.size hbx).mono ?_
        rintro e W4 ⟨rfl, bq⟩
        have hr := hr.below bq
        have B := B.trans (bq.mono B.size)
        clear bq c0 c1 c2 cl
        obtain ⟨c0, c1, c2⟩ := block3 hr
        have cl := hr.lt
        go_wp2_with fail
        refine (alive3 _).mono ?_
        rintro e W9 ⟨rfl, bq⟩
        have B := B.trans (bq.mono B.size)
        go_wp2_with fail
        go_ret
        exact ⟨rfl, B⟩
  · have h32 : sz ≠ 32 := fun h => hF (.inl h)
    have h64 : sz ≠ 64 := fun h => hF (.inr h)
    clear hF
    refine (value_none b sz _ Hsz.out h32 h64).mono ?_
    rintro e W2 ⟨rfl, bq⟩
    have HX := Lib.hid (AnyR.below HX.out bq)
    have hr := hr.below bq
    have B := B.trans (bq.mono B.size)
    clear bq c0 c1 c2 cl
    obtain ⟨c0, c1, c2⟩ := block3 hr
    have cl := hr.lt
    have b4 : Below W2.heap.size W2 (W2.alloc (.cells #[.bool false, .slice none 0 0, .slice none 0 0] 26)) := (Below.refl _ _).alloc (Nat.le_refl _) _
    have hr := hr.below b4
    have B := B.trans (b4.mono B.size)
    have HX := Lib.hid (AnyR.below HX.out b4)
    clear b4 c0 c1 c2 cl
    obtain ⟨c0, c1, c2⟩ := block3 hr
    have cl := hr.lt
    go_wp2_with fail
    refine (bits_none _ sz _ Hsz.out h32 h64 (AnyR.form HX.out)).mono ?_
    rintro e W4 ⟨rfl, bq⟩
    have hr := hr.below bq
    have B := B.trans (bq.mono B.size)
    clear bq c0 c1 c2 cl
    obtain ⟨c0, c1, c2⟩ := block3 hr
    have cl := hr.lt
    go_wp2_with fail
    refine (alive3 _).mono ?_
    rintro e W9 ⟨rfl, bq⟩
    have B := B.trans (bq.mono B.size)
    go_wp2_with fail
    go_ret
    exact ⟨rfl, B⟩
end Go.Proofs.YtlkadnaoacoicaaDoor
