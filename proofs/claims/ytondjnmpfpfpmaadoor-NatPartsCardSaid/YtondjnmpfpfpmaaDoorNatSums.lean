/- The law NatSums. -/
import Derived.Test.YtondjnmpfpfpmaaDoorNatBack
import Derived.Test.YtondjnmpfpfpmaaDoorNatRefRight
namespace Go.Proofs.YtondjnmpfpfpmaaDoor
open Go.RowKit NM

set_option maxHeartbeats 16000000 in
set_option maxRecDepth 100000 in
theorem sums_walk (a0 : Option Addr) (len0 cap0 : Nat) (z0 : List Int) (a1 : Option Addr) (len1 cap1 : Nat) (z1 : List Int) (w : World) (w0 : IsRow .u32 w a0 len0 cap0 z0) (w1 : IsRow .u32 w a1 len1 cap1 z1) (hB : Bases w) :
    Calls Tryd.prog 3 #[.slice a0 len0 cap0, .slice a1 len1 cap1] w fun e w' => e = .returned (.bool true) ∧ Below w.heap.size w w' := by
  have F := Lib.hid (few_row a0 len0 cap0 z0 w w0)
  have G := Lib.hid (few_row a1 len1 cap1 z1 w w1)
  clear w0 w1
  go_enter Tryd.func3, Tryd.ntmps3
  go_wp2_with fail
  refine F.out.mono ?_
  rintro e w' ⟨⟨v, xs, rfl, hsl, hl18⟩, rfl⟩
  go_wp2_with fail
  refine G.out.mono ?_
  rintro e w' ⟨⟨u, ys, rfl, htl, hl19⟩, rfl⟩
  clear F G
  have B := Below.refl w.heap.size w
  cases hrx : rightB xs
  ·
    have hb2 : Bad2 w v u := ⟨xs, ys, hsl, htl, by rw [hrx]; rfl⟩
    have hbb : Bad1 w v := ⟨xs, hsl, hrx⟩
    clear hsl htl hrx hl18 hl19
    go_wp2_with fail
    refine (cmp_bad v u w hb2).mono ?_
    rintro e w' ⟨rfl, rfl⟩
    go_wp2_with fail
    refine (add_bad v u w hb2).mono ?_
    rintro e w' ⟨rfl, rfl⟩
    go_wp2_with fail
    refine (sub_bad v u w hb2).mono ?_
    rintro e w' ⟨rfl, rfl⟩
    go_wp2_with fail
    refine (mul_bad v u w hb2).mono ?_
    rintro e w' ⟨rfl, rfl⟩
    clear hb2
    have HC := Lib.hid (right_bad hbb)
    go_wp2_with fail
    refine (HC.out).mono ?_
    rintro e w' ⟨rfl, rfl⟩
    clear HC
    have HC := Lib.hid (refright_bad hbb)
    go_wp2_with fail
    refine (HC.out).mono ?_
    rintro e w' ⟨rfl, rfl⟩
    clear HC
    go_wp2_with fail
    refine (alive_any w hB).mono ?_
    rintro e w1 ⟨rfl, b1⟩
    have hbb := hbb.below b1
    have hB := hB.below b1
    have B := B.trans (b1.mono B.size)
    clear b1
    have HC := Lib.hid (refright_bad hbb)
    go_wp2_with fail
    refine (HC.out).mono ?_
    rintro e w' ⟨rfl, rfl⟩
    clear HC
    go_wp2_with fail
    go_ret
    exact ⟨rfl, B⟩
  · cases hry : rightB ys
    ·
      have hb2 : Bad2 w v u := ⟨xs, ys, hsl, htl, by rw [hrx, hry]; rfl⟩
      have ha : Num w v (val xs) := ⟨xs, hsl, hrx, rfl⟩
      obtain ⟨N, hN⟩ : ∃ N, val xs = N := ⟨_, rfl⟩
      rw [hN] at ha
      have hbb : Bad1 w u := ⟨ys, htl, hry⟩
      clear hsl htl hrx hry hN hl18 hl19
      go_wp2_with fail
      refine (cmp_bad v u w hb2).mono ?_
      rintro e w' ⟨rfl, rfl⟩
      go_wp2_with fail
      refine (add_bad v u w hb2).mono ?_
      rintro e w' ⟨rfl, rfl⟩
      go_wp2_with fail
      refine (sub_bad v u w hb2).mono ?_
      rintro e w' ⟨rfl, rfl⟩
      go_wp2_with fail
      refine (mul_bad v u w hb2).mono ?_
      rintro e w' ⟨rfl, rfl⟩
      clear hb2
      have HC := Lib.hid (right_num ha)
      go_wp2_with fail
      refine (HC.out).mono ?_
      rintro e w' ⟨rfl, rfl⟩
      clear HC
      have HC := Lib.hid (refright_num ha)
      go_wp2_with fail
      refine (HC.out).mono ?_
      rintro e w' ⟨rfl, rfl⟩
      clear HC
      go_wp2_with fail
      refine (alive_any w hB).mono ?_
      rintro e w1 ⟨rfl, b1⟩
      have hbb := hbb.below b1
      have ha := ha.below b1
      have hB := hB.below b1
      have B := B.trans (b1.mono B.size)
      clear b1
      have HC := Lib.hid (refright_num ha)
      go_wp2_with fail
      refine (HC.out).mono ?_
      rintro e w' ⟨rfl, rfl⟩
      clear HC
      have HC := Lib.hid (refright_bad hbb)
      go_wp2_with fail
      refine (HC.out).mono ?_
      rintro e w' ⟨rfl, rfl⟩
      clear HC
      go_wp2_with fail
      go_ret
      exact ⟨rfl, B⟩
    · obtain ⟨N, hN⟩ : ∃ N, val xs = N := ⟨_, rfl⟩
      obtain ⟨M, hM⟩ : ∃ M, val ys = M := ⟨_, rfl⟩
      have ha : Num w v N := ⟨xs, hsl, hrx, hN⟩
      have hb : Num w u M := ⟨ys, htl, hry, hM⟩
      clear hsl htl hrx hry hN hM hl18 hl19
      have hrg := ha.range
      have hrm := hb.range
      have h16 : pw 16 ≤ big := pw_big (by omega)
      have h32 : pw 16 + pw 16 < big ∧ pw 16 * pw 16 < big := by unfold big; decide +kernel
      have hmul : N * M ≤ pw 16 * pw 16 := Int.mul_le_mul (by omega) (by omega) hrm.1 (by omega)
      have HN16 := Lib.hid hrg.2
      have HM16 := Lib.hid hrm.2
      have HN0 := Lib.hid hrg.1
      have HNb := Lib.hid (show N < big by omega)
      have HMb := Lib.hid (show M < big by omega)
      have HAb := Lib.hid (show N + M < big by omega)
      have HPb := Lib.hid (show N * M < big by omega)
      clear hrg hrm h16 h32 hmul
      by_cases hS : M ≤ N
      · have HS := Lib.hid hS
        have hsg : ¬ sgn N M < 0 := by rw [sgn]; split <;> (try split) <;> omega
        by_cases hA : N + M < pw 16
        · have HA := Lib.hid hA
          by_cases hM : N * M < pw 16
          · have HM := Lib.hid hM
            clear hS hA hM
            have HC := Lib.hid (cmp_num ha hb)
            go_wp2_with fail
            refine (HC.out).mono ?_
            rintro e w1 ⟨rfl, b1⟩
            have ha := ha.below b1
            have hb := hb.below b1
            have hB := hB.below b1
            have B := B.trans (b1.mono B.size)
            clear b1
            clear HC
            go_wp2_with fail
            refine (add_num v u N M w1 ha hb).mono ?_
            rintro e w2 ⟨hto, b2⟩
            obtain ⟨s, rfl, hs⟩ := hto.ok HA.out
            have ha := ha.below b2
            have hb := hb.below b2
            have hB := hB.below b2
            have B := B.trans (b2.mono B.size)
            clear b2
            go_wp2_with fail
            refine (sub_num v u N M w2 ha hb HS.out).mono ?_
            rintro e w3 ⟨⟨d, rfl, hd⟩, b3⟩
            have ha := ha.below b3
            have hb := hb.below b3
            have hs := hs.below b3
            have hB := hB.below b3
            have B := B.trans (b3.mono B.size)
            clear b3
            go_wp2_with fail
            refine (mul_num v u N M w3 ha hb).mono ?_
            rintro e w4 ⟨hto, b4⟩
            obtain ⟨q, rfl, hp⟩ := hto.ok HM.out
            have ha := ha.below b4
            have hb := hb.below b4
            have hs := hs.below b4
            have hd := hd.below b4
            have hB := hB.below b4
            have B := B.trans (b4.mono B.size)
            clear b4
            have HC := Lib.hid (right_num ha)
            go_wp2_with fail
            refine (HC.out).mono ?_
            rintro e w' ⟨rfl, rfl⟩
            clear HC
            have HC := Lib.hid (refright_num ha)
            go_wp2_with fail
            refine (HC.out).mono ?_
            rintro e w' ⟨rfl, rfl⟩
            clear HC
            go_wp2_with fail
            refine (alive_any w4 hB).mono ?_
            rintro e w5 ⟨rfl, b5⟩
            have ha := ha.below b5
            have hb := hb.below b5
            have hs := hs.below b5
            have hd := hd.below b5
            have hp := hp.below b5
            have hB := hB.below b5
            have B := B.trans (b5.mono B.size)
            clear b5
            have HC := Lib.hid (refright_num ha)
            go_wp2_with fail
            refine (HC.out).mono ?_
            rintro e w' ⟨rfl, rfl⟩
            clear HC
            have HC := Lib.hid (refright_num hb)
            go_wp2_with fail
            refine (HC.out).mono ?_
            rintro e w' ⟨rfl, rfl⟩
            clear HC
            have HC := Lib.hid (reftext_num ha)
            go_wp2_with fail
            refine (HC.out).mono ?_
            rintro e w6 ⟨⟨x, rfl, hx⟩, b6⟩
            have ha := ha.below b6
            have hb := hb.below b6
            have hs := hs.below b6
            have hd := hd.below b6
            have hp := hp.below b6
            have hB := hB.below b6
            have B := B.trans (b6.mono B.size)
            clear b6
            clear HC
            have HC := Lib.hid (reftext_num hb)
            go_wp2_with fail
            refine (HC.out).mono ?_
            rintro e w7 ⟨⟨y, rfl, hy⟩, b7⟩
            have ha := ha.below b7
            have hb := hb.below b7
            have hs := hs.below b7
            have hd := hd.below b7
            have hp := hp.below b7
            have hB := hB.below b7
            have B := B.trans (b7.mono B.size)
            clear b7
            clear HC
            go_wp2_with fail
            refine (cmp_dec x y N M w7 hx hy HNb.out HMb.out).mono ?_
            rintro e w' ⟨rfl, rfl⟩
            go_wp2_with fail
            refine (refadd_str x y N M w7 hx hy HNb.out HMb.out).mono ?_
            rintro e w8 ⟨⟨z, rfl, hz⟩, b8⟩
            have ha := ha.below b8
            have hb := hb.below b8
            have hs := hs.below b8
            have hd := hd.below b8
            have hp := hp.below b8
            have hB := hB.below b8
            have B := B.trans (b8.mono B.size)
            clear b8
            go_wp2_with fail
            refine (is_ok s z (N + M) w8 hz hs).mono ?_
            rintro e w9 ⟨rfl, b9⟩
            clear hs
            have ha := ha.below b9
            have hb := hb.below b9
            have hd := hd.below b9
            have hp := hp.below b9
            have hB := hB.below b9
            have B := B.trans (b9.mono B.size)
            clear b9
            go_wp2_with fail
            refine (refmul_str x y N M w9 hx hy HN0.out HN16.out HM16.out).mono ?_
            rintro e w10 ⟨⟨z2, rfl, hz2⟩, b10⟩
            have ha := ha.below b10
            have hb := hb.below b10
            have hd := hd.below b10
            have hp := hp.below b10
            have hB := hB.below b10
            have B := B.trans (b10.mono B.size)
            clear b10
            go_wp2_with fail
            refine (is_ok q z2 (N * M) w10 hz2 hp).mono ?_
            rintro e w11 ⟨rfl, b11⟩
            clear hp
            have ha := ha.below b11
            have hb := hb.below b11
            have hd := hd.below b11
            have hB := hB.below b11
            have B := B.trans (b11.mono B.size)
            clear b11
            go_wp2_with fail
            refine (refsub_str x y N M w11 hx hy HNb.out HS.out).mono ?_
            rintro e w12 ⟨⟨z3, rfl, hz3⟩, b12⟩
            have ha := ha.below b12
            have hb := hb.below b12
            have hd := hd.below b12
            have hB := hB.below b12
            have B := B.trans (b12.mono B.size)
            clear b12
            go_wp2_with fail
            refine (is_ok d z3 (N - M) w12 hz3 hd).mono ?_
            rintro e w13 ⟨rfl, b13⟩
            have ha := ha.below b13
            have hb := hb.below b13
            have hd := hd.below b13
            have hB := hB.below b13
            have B := B.trans (b13.mono B.size)
            clear b13
            go_wp2_with fail
            go_ret
            exact ⟨rfl, B⟩
          · have HM := Lib.hid (Int.not_lt.1 hM)
            clear hS hA hM
            have HC := Lib.hid (cmp_num ha hb)
            go_wp2_with fail
            refine (HC.out).mono ?_
            rintro e w1 ⟨rfl, b1⟩
            have ha := ha.below b1
            have hb := hb.below b1
            have hB := hB.below b1
            have B := B.trans (b1.mono B.size)
            clear b1
            clear HC
            go_wp2_with fail
            refine (add_num v u N M w1 ha hb).mono ?_
            rintro e w2 ⟨hto, b2⟩
            obtain ⟨s, rfl, hs⟩ := hto.ok HA.out
            have ha := ha.below b2
            have hb := hb.below b2
            have hB := hB.below b2
            have B := B.trans (b2.mono B.size)
            clear b2
            go_wp2_with fail
            refine (sub_num v u N M w2 ha hb HS.out).mono ?_
            rintro e w3 ⟨⟨d, rfl, hd⟩, b3⟩
            have ha := ha.below b3
            have hb := hb.below b3
            have hs := hs.below b3
            have hB := hB.below b3
            have B := B.trans (b3.mono B.size)
            clear b3
            go_wp2_with fail
            refine (mul_num v u N M w3 ha hb).mono ?_
            rintro e w4 ⟨hto, b4⟩
            obtain rfl := hto.over HM.out
            have ha := ha.below b4
            have hb := hb.below b4
            have hs := hs.below b4
            have hd := hd.below b4
            have hB := hB.below b4
            have B := B.trans (b4.mono B.size)
            clear b4
            have HC := Lib.hid (right_num ha)
            go_wp2_with fail
            refine (HC.out).mono ?_
            rintro e w' ⟨rfl, rfl⟩
            clear HC
            have HC := Lib.hid (refright_num ha)
            go_wp2_with fail
            refine (HC.out).mono ?_
            rintro e w' ⟨rfl, rfl⟩
            clear HC
            go_wp2_with fail
            refine (alive_any w4 hB).mono ?_
            rintro e w5 ⟨rfl, b5⟩
            have ha := ha.below b5
            have hb := hb.below b5
            have hs := hs.below b5
            have hd := hd.below b5
            have hB := hB.below b5
            have B := B.trans (b5.mono B.size)
            clear b5
            have HC := Lib.hid (refright_num ha)
            go_wp2_with fail
            refine (HC.out).mono ?_
            rintro e w' ⟨rfl, rfl⟩
            clear HC
            have HC := Lib.hid (refright_num hb)
            go_wp2_with fail
            refine (HC.out).mono ?_
            rintro e w' ⟨rfl, rfl⟩
            clear HC
            have HC := Lib.hid (reftext_num ha)
            go_wp2_with fail
            refine (HC.out).mono ?_
            rintro e w6 ⟨⟨x, rfl, hx⟩, b6⟩
            have ha := ha.below b6
            have hb := hb.below b6
            have hs := hs.below b6
            have hd := hd.below b6
            have hB := hB.below b6
            have B := B.trans (b6.mono B.size)
            clear b6
            clear HC
            have HC := Lib.hid (reftext_num hb)
            go_wp2_with fail
            refine (HC.out).mono ?_
            rintro e w7 ⟨⟨y, rfl, hy⟩, b7⟩
            have ha := ha.below b7
            have hb := hb.below b7
            have hs := hs.below b7
            have hd := hd.below b7
            have hB := hB.below b7
            have B := B.trans (b7.mono B.size)
            clear b7
            clear HC
            go_wp2_with fail
            refine (cmp_dec x y N M w7 hx hy HNb.out HMb.out).mono ?_
            rintro e w' ⟨rfl, rfl⟩
            go_wp2_with fail
            refine (refadd_str x y N M w7 hx hy HNb.out HMb.out).mono ?_
            rintro e w8 ⟨⟨z, rfl, hz⟩, b8⟩
            have ha := ha.below b8
            have hb := hb.below b8
            have hs := hs.below b8
            have hd := hd.below b8
            have hB := hB.below b8
            have B := B.trans (b8.mono B.size)
            clear b8
            go_wp2_with fail
            refine (is_ok s z (N + M) w8 hz hs).mono ?_
            rintro e w9 ⟨rfl, b9⟩
            clear hs
            have ha := ha.below b9
            have hb := hb.below b9
            have hd := hd.below b9
            have hB := hB.below b9
            have B := B.trans (b9.mono B.size)
            clear b9
            go_wp2_with fail
            refine (refmul_str x y N M w9 hx hy HN0.out HN16.out HM16.out).mono ?_
            rintro e w10 ⟨⟨z2, rfl, hz2⟩, b10⟩
            have ha := ha.below b10
            have hb := hb.below b10
            have hd := hd.below b10
            have hB := hB.below b10
            have B := B.trans (b10.mono B.size)
            clear b10
            go_wp2_with fail
            refine (is_over z2 (N * M) w10 hz2 HPb.out HM.out).mono ?_
            rintro e w11 ⟨rfl, b11⟩
            have ha := ha.below b11
            have hb := hb.below b11
            have hd := hd.below b11
            have hB := hB.below b11
            have B := B.trans (b11.mono B.size)
            clear b11
            go_wp2_with fail
            refine (refsub_str x y N M w11 hx hy HNb.out HS.out).mono ?_
            rintro e w12 ⟨⟨z3, rfl, hz3⟩, b12⟩
            have ha := ha.below b12
            have hb := hb.below b12
            have hd := hd.below b12
            have hB := hB.below b12
            have B := B.trans (b12.mono B.size)
            clear b12
            go_wp2_with fail
            refine (is_ok d z3 (N - M) w12 hz3 hd).mono ?_
            rintro e w13 ⟨rfl, b13⟩
            have ha := ha.below b13
            have hb := hb.below b13
            have hd := hd.below b13
            have hB := hB.below b13
            have B := B.trans (b13.mono B.size)
            clear b13
            go_wp2_with fail
            go_ret
            exact ⟨rfl, B⟩
        · have HA := Lib.hid (Int.not_lt.1 hA)
          by_cases hM : N * M < pw 16
          · have HM := Lib.hid hM
            clear hS hA hM
            have HC := Lib.hid (cmp_num ha hb)
            go_wp2_with fail
            refine (HC.out).mono ?_
            rintro e w1 ⟨rfl, b1⟩
            have ha := ha.below b1
            have hb := hb.below b1
            have hB := hB.below b1
            have B := B.trans (b1.mono B.size)
            clear b1
            clear HC
            go_wp2_with fail
            refine (add_num v u N M w1 ha hb).mono ?_
            rintro e w2 ⟨hto, b2⟩
            obtain rfl := hto.over HA.out
            have ha := ha.below b2
            have hb := hb.below b2
            have hB := hB.below b2
            have B := B.trans (b2.mono B.size)
            clear b2
            go_wp2_with fail
            refine (sub_num v u N M w2 ha hb HS.out).mono ?_
            rintro e w3 ⟨⟨d, rfl, hd⟩, b3⟩
            have ha := ha.below b3
            have hb := hb.below b3
            have hB := hB.below b3
            have B := B.trans (b3.mono B.size)
            clear b3
            go_wp2_with fail
            refine (mul_num v u N M w3 ha hb).mono ?_
            rintro e w4 ⟨hto, b4⟩
            obtain ⟨q, rfl, hp⟩ := hto.ok HM.out
            have ha := ha.below b4
            have hb := hb.below b4
            have hd := hd.below b4
            have hB := hB.below b4
            have B := B.trans (b4.mono B.size)
            clear b4
            have HC := Lib.hid (right_num ha)
            go_wp2_with fail
            refine (HC.out).mono ?_
            rintro e w' ⟨rfl, rfl⟩
            clear HC
            have HC := Lib.hid (refright_num ha)
            go_wp2_with fail
            refine (HC.out).mono ?_
            rintro e w' ⟨rfl, rfl⟩
            clear HC
            go_wp2_with fail
            refine (alive_any w4 hB).mono ?_
            rintro e w5 ⟨rfl, b5⟩
            have ha := ha.below b5
            have hb := hb.below b5
            have hd := hd.below b5
            have hp := hp.below b5
            have hB := hB.below b5
            have B := B.trans (b5.mono B.size)
            clear b5
            have HC := Lib.hid (refright_num ha)
            go_wp2_with fail
            refine (HC.out).mono ?_
            rintro e w' ⟨rfl, rfl⟩
            clear HC
            have HC := Lib.hid (refright_num hb)
            go_wp2_with fail
            refine (HC.out).mono ?_
            rintro e w' ⟨rfl, rfl⟩
            clear HC
            have HC := Lib.hid (reftext_num ha)
            go_wp2_with fail
            refine (HC.out).mono ?_
            rintro e w6 ⟨⟨x, rfl, hx⟩, b6⟩
            have ha := ha.below b6
            have hb := hb.below b6
            have hd := hd.below b6
            have hp := hp.below b6
            have hB := hB.below b6
            have B := B.trans (b6.mono B.size)
            clear b6
            clear HC
            have HC := Lib.hid (reftext_num hb)
            go_wp2_with fail
            refine (HC.out).mono ?_
            rintro e w7 ⟨⟨y, rfl, hy⟩, b7⟩
            have ha := ha.below b7
            have hb := hb.below b7
            have hd := hd.below b7
            have hp := hp.below b7
            have hB := hB.below b7
            have B := B.trans (b7.mono B.size)
            clear b7
            clear HC
            go_wp2_with fail
            refine (cmp_dec x y N M w7 hx hy HNb.out HMb.out).mono ?_
            rintro e w' ⟨rfl, rfl⟩
            go_wp2_with fail
            refine (refadd_str x y N M w7 hx hy HNb.out HMb.out).mono ?_
            rintro e w8 ⟨⟨z, rfl, hz⟩, b8⟩
            have ha := ha.below b8
            have hb := hb.below b8
            have hd := hd.below b8
            have hp := hp.below b8
            have hB := hB.below b8
            have B := B.trans (b8.mono B.size)
            clear b8
            go_wp2_with fail
            refine (is_over z (N + M) w8 hz HAb.out HA.out).mono ?_
            rintro e w9 ⟨rfl, b9⟩
            have ha := ha.below b9
            have hb := hb.below b9
            have hd := hd.below b9
            have hp := hp.below b9
            have hB := hB.below b9
            have B := B.trans (b9.mono B.size)
            clear b9
            go_wp2_with fail
            refine (refmul_str x y N M w9 hx hy HN0.out HN16.out HM16.out).mono ?_
            rintro e w10 ⟨⟨z2, rfl, hz2⟩, b10⟩
            have ha := ha.below b10
            have hb := hb.below b10
            have hd := hd.below b10
            have hp := hp.below b10
            have hB := hB.below b10
            have B := B.trans (b10.mono B.size)
            clear b10
            go_wp2_with fail
            refine (is_ok q z2 (N * M) w10 hz2 hp).mono ?_
            rintro e w11 ⟨rfl, b11⟩
            clear hp
            have ha := ha.below b11
            have hb := hb.below b11
            have hd := hd.below b11
            have hB := hB.below b11
            have B := B.trans (b11.mono B.size)
            clear b11
            go_wp2_with fail
            refine (refsub_str x y N M w11 hx hy HNb.out HS.out).mono ?_
            rintro e w12 ⟨⟨z3, rfl, hz3⟩, b12⟩
            have ha := ha.below b12
            have hb := hb.below b12
            have hd := hd.below b12
            have hB := hB.below b12
            have B := B.trans (b12.mono B.size)
            clear b12
            go_wp2_with fail
            refine (is_ok d z3 (N - M) w12 hz3 hd).mono ?_
            rintro e w13 ⟨rfl, b13⟩
            have ha := ha.below b13
            have hb := hb.below b13
            have hd := hd.below b13
            have hB := hB.below b13
            have B := B.trans (b13.mono B.size)
            clear b13
            go_wp2_with fail
            go_ret
            exact ⟨rfl, B⟩
          · have HM := Lib.hid (Int.not_lt.1 hM)
            clear hS hA hM
            have HC := Lib.hid (cmp_num ha hb)
            go_wp2_with fail
            refine (HC.out).mono ?_
            rintro e w1 ⟨rfl, b1⟩
            have ha := ha.below b1
            have hb := hb.below b1
            have hB := hB.below b1
            have B := B.trans (b1.mono B.size)
            clear b1
            clear HC
            go_wp2_with fail
            refine (add_num v u N M w1 ha hb).mono ?_
            rintro e w2 ⟨hto, b2⟩
            obtain rfl := hto.over HA.out
            have ha := ha.below b2
            have hb := hb.below b2
            have hB := hB.below b2
            have B := B.trans (b2.mono B.size)
            clear b2
            go_wp2_with fail
            refine (sub_num v u N M w2 ha hb HS.out).mono ?_
            rintro e w3 ⟨⟨d, rfl, hd⟩, b3⟩
            have ha := ha.below b3
            have hb := hb.below b3
            have hB := hB.below b3
            have B := B.trans (b3.mono B.size)
            clear b3
            go_wp2_with fail
            refine (mul_num v u N M w3 ha hb).mono ?_
            rintro e w4 ⟨hto, b4⟩
            obtain rfl := hto.over HM.out
            have ha := ha.below b4
            have hb := hb.below b4
            have hd := hd.below b4
            have hB := hB.below b4
            have B := B.trans (b4.mono B.size)
            clear b4
            have HC := Lib.hid (right_num ha)
            go_wp2_with fail
            refine (HC.out).mono ?_
            rintro e w' ⟨rfl, rfl⟩
            clear HC
            have HC := Lib.hid (refright_num ha)
            go_wp2_with fail
            refine (HC.out).mono ?_
            rintro e w' ⟨rfl, rfl⟩
            clear HC
            go_wp2_with fail
            refine (alive_any w4 hB).mono ?_
            rintro e w5 ⟨rfl, b5⟩
            have ha := ha.below b5
            have hb := hb.below b5
            have hd := hd.below b5
            have hB := hB.below b5
            have B := B.trans (b5.mono B.size)
            clear b5
            have HC := Lib.hid (refright_num ha)
            go_wp2_with fail
            refine (HC.out).mono ?_
            rintro e w' ⟨rfl, rfl⟩
            clear HC
            have HC := Lib.hid (refright_num hb)
            go_wp2_with fail
            refine (HC.out).mono ?_
            rintro e w' ⟨rfl, rfl⟩
            clear HC
            have HC := Lib.hid (reftext_num ha)
            go_wp2_with fail
            refine (HC.out).mono ?_
            rintro e w6 ⟨⟨x, rfl, hx⟩, b6⟩
            have ha := ha.below b6
            have hb := hb.below b6
            have hd := hd.below b6
            have hB := hB.below b6
            have B := B.trans (b6.mono B.size)
            clear b6
            clear HC
            have HC := Lib.hid (reftext_num hb)
            go_wp2_with fail
            refine (HC.out).mono ?_
            rintro e w7 ⟨⟨y, rfl, hy⟩, b7⟩
            have ha := ha.below b7
            have hb := hb.below b7
            have hd := hd.below b7
            have hB := hB.below b7
            have B := B.trans (b7.mono B.size)
            clear b7
            clear HC
            go_wp2_with fail
            refine (cmp_dec x y N M w7 hx hy HNb.out HMb.out).mono ?_
            rintro e w' ⟨rfl, rfl⟩
            go_wp2_with fail
            refine (refadd_str x y N M w7 hx hy HNb.out HMb.out).mono ?_
            rintro e w8 ⟨⟨z, rfl, hz⟩, b8⟩
            have ha := ha.below b8
            have hb := hb.below b8
            have hd := hd.below b8
            have hB := hB.below b8
            have B := B.trans (b8.mono B.size)
            clear b8
            go_wp2_with fail
            refine (is_over z (N + M) w8 hz HAb.out HA.out).mono ?_
            rintro e w9 ⟨rfl, b9⟩
            have ha := ha.below b9
            have hb := hb.below b9
            have hd := hd.below b9
            have hB := hB.below b9
            have B := B.trans (b9.mono B.size)
            clear b9
            go_wp2_with fail
            refine (refmul_str x y N M w9 hx hy HN0.out HN16.out HM16.out).mono ?_
            rintro e w10 ⟨⟨z2, rfl, hz2⟩, b10⟩
            have ha := ha.below b10
            have hb := hb.below b10
            have hd := hd.below b10
            have hB := hB.below b10
            have B := B.trans (b10.mono B.size)
            clear b10
            go_wp2_with fail
            refine (is_over z2 (N * M) w10 hz2 HPb.out HM.out).mono ?_
            rintro e w11 ⟨rfl, b11⟩
            have ha := ha.below b11
            have hb := hb.below b11
            have hd := hd.below b11
            have hB := hB.below b11
            have B := B.trans (b11.mono B.size)
            clear b11
            go_wp2_with fail
            refine (refsub_str x y N M w11 hx hy HNb.out HS.out).mono ?_
            rintro e w12 ⟨⟨z3, rfl, hz3⟩, b12⟩
            have ha := ha.below b12
            have hb := hb.below b12
            have hd := hd.below b12
            have hB := hB.below b12
            have B := B.trans (b12.mono B.size)
            clear b12
            go_wp2_with fail
            refine (is_ok d z3 (N - M) w12 hz3 hd).mono ?_
            rintro e w13 ⟨rfl, b13⟩
            have ha := ha.below b13
            have hb := hb.below b13
            have hd := hd.below b13
            have hB := hB.below b13
            have B := B.trans (b13.mono B.size)
            clear b13
            go_wp2_with fail
            go_ret
            exact ⟨rfl, B⟩
      · have HS := Lib.hid (show N < M by omega)
        have hsg : sgn N M = -1 := by rw [sgn, if_pos HS.out]
        by_cases hA : N + M < pw 16
        · have HA := Lib.hid hA
          by_cases hM : N * M < pw 16
          · have HM := Lib.hid hM
            clear hS hA hM
            have HC := Lib.hid (cmp_num ha hb)
            go_wp2_with fail
            refine (HC.out).mono ?_
            rintro e w1 ⟨rfl, b1⟩
            have ha := ha.below b1
            have hb := hb.below b1
            have hB := hB.below b1
            have B := B.trans (b1.mono B.size)
            clear b1
            clear HC
            go_wp2_with fail
            refine (add_num v u N M w1 ha hb).mono ?_
            rintro e w2 ⟨hto, b2⟩
            obtain ⟨s, rfl, hs⟩ := hto.ok HA.out
            have ha := ha.below b2
            have hb := hb.below b2
            have hB := hB.below b2
            have B := B.trans (b2.mono B.size)
            clear b2
            go_wp2_with fail
            refine (sub_less v u N M w2 ha hb HS.out).mono ?_
            rintro e w3 ⟨rfl, b3⟩
            have ha := ha.below b3
            have hb := hb.below b3
            have hs := hs.below b3
            have hB := hB.below b3
            have B := B.trans (b3.mono B.size)
            clear b3
            go_wp2_with fail
            refine (mul_num v u N M w3 ha hb).mono ?_
            rintro e w4 ⟨hto, b4⟩
            obtain ⟨q, rfl, hp⟩ := hto.ok HM.out
            have ha := ha.below b4
            have hb := hb.below b4
            have hs := hs.below b4
            have hB := hB.below b4
            have B := B.trans (b4.mono B.size)
            clear b4
            have HC := Lib.hid (right_num ha)
            go_wp2_with fail
            refine (HC.out).mono ?_
            rintro e w' ⟨rfl, rfl⟩
            clear HC
            have HC := Lib.hid (refright_num ha)
            go_wp2_with fail
            refine (HC.out).mono ?_
            rintro e w' ⟨rfl, rfl⟩
            clear HC
            go_wp2_with fail
            refine (alive_any w4 hB).mono ?_
            rintro e w5 ⟨rfl, b5⟩
            have ha := ha.below b5
            have hb := hb.below b5
            have hs := hs.below b5
            have hp := hp.below b5
            have hB := hB.below b5
            have B := B.trans (b5.mono B.size)
            clear b5
            have HC := Lib.hid (refright_num ha)
            go_wp2_with fail
            refine (HC.out).mono ?_
            rintro e w' ⟨rfl, rfl⟩
            clear HC
            have HC := Lib.hid (refright_num hb)
            go_wp2_with fail
            refine (HC.out).mono ?_
            rintro e w' ⟨rfl, rfl⟩
            clear HC
            have HC := Lib.hid (reftext_num ha)
            go_wp2_with fail
            refine (HC.out).mono ?_
            rintro e w6 ⟨⟨x, rfl, hx⟩, b6⟩
            have ha := ha.below b6
            have hb := hb.below b6
            have hs := hs.below b6
            have hp := hp.below b6
            have hB := hB.below b6
            have B := B.trans (b6.mono B.size)
            clear b6
            clear HC
            have HC := Lib.hid (reftext_num hb)
            go_wp2_with fail
            refine (HC.out).mono ?_
            rintro e w7 ⟨⟨y, rfl, hy⟩, b7⟩
            have ha := ha.below b7
            have hb := hb.below b7
            have hs := hs.below b7
            have hp := hp.below b7
            have hB := hB.below b7
            have B := B.trans (b7.mono B.size)
            clear b7
            clear HC
            go_wp2_with fail
            refine (cmp_dec x y N M w7 hx hy HNb.out HMb.out).mono ?_
            rintro e w' ⟨rfl, rfl⟩
            go_wp2_with fail
            refine (refadd_str x y N M w7 hx hy HNb.out HMb.out).mono ?_
            rintro e w8 ⟨⟨z, rfl, hz⟩, b8⟩
            have ha := ha.below b8
            have hb := hb.below b8
            have hs := hs.below b8
            have hp := hp.below b8
            have hB := hB.below b8
            have B := B.trans (b8.mono B.size)
            clear b8
            go_wp2_with fail
            refine (is_ok s z (N + M) w8 hz hs).mono ?_
            rintro e w9 ⟨rfl, b9⟩
            clear hs
            have ha := ha.below b9
            have hb := hb.below b9
            have hp := hp.below b9
            have hB := hB.below b9
            have B := B.trans (b9.mono B.size)
            clear b9
            go_wp2_with fail
            refine (refmul_str x y N M w9 hx hy HN0.out HN16.out HM16.out).mono ?_
            rintro e w10 ⟨⟨z2, rfl, hz2⟩, b10⟩
            have ha := ha.below b10
            have hb := hb.below b10
            have hp := hp.below b10
            have hB := hB.below b10
            have B := B.trans (b10.mono B.size)
            clear b10
            go_wp2_with fail
            refine (is_ok q z2 (N * M) w10 hz2 hp).mono ?_
            rintro e w11 ⟨rfl, b11⟩
            clear hp
            have ha := ha.below b11
            have hb := hb.below b11
            have hB := hB.below b11
            have B := B.trans (b11.mono B.size)
            clear b11
            go_wp2_with fail
            go_ret
            exact ⟨rfl, B⟩
          · have HM := Lib.hid (Int.not_lt.1 hM)
            clear hS hA hM
            have HC := Lib.hid (cmp_num ha hb)
            go_wp2_with fail
            refine (HC.out).mono ?_
            rintro e w1 ⟨rfl, b1⟩
            have ha := ha.below b1
            have hb := hb.below b1
            have hB := hB.below b1
            have B := B.trans (b1.mono B.size)
            clear b1
            clear HC
            go_wp2_with fail
            refine (add_num v u N M w1 ha hb).mono ?_
            rintro e w2 ⟨hto, b2⟩
            obtain ⟨s, rfl, hs⟩ := hto.ok HA.out
            have ha := ha.below b2
            have hb := hb.below b2
            have hB := hB.below b2
            have B := B.trans (b2.mono B.size)
            clear b2
            go_wp2_with fail
            refine (sub_less v u N M w2 ha hb HS.out).mono ?_
            rintro e w3 ⟨rfl, b3⟩
            have ha := ha.below b3
            have hb := hb.below b3
            have hs := hs.below b3
            have hB := hB.below b3
            have B := B.trans (b3.mono B.size)
            clear b3
            go_wp2_with fail
            refine (mul_num v u N M w3 ha hb).mono ?_
            rintro e w4 ⟨hto, b4⟩
            obtain rfl := hto.over HM.out
            have ha := ha.below b4
            have hb := hb.below b4
            have hs := hs.below b4
            have hB := hB.below b4
            have B := B.trans (b4.mono B.size)
            clear b4
            have HC := Lib.hid (right_num ha)
            go_wp2_with fail
            refine (HC.out).mono ?_
            rintro e w' ⟨rfl, rfl⟩
            clear HC
            have HC := Lib.hid (refright_num ha)
            go_wp2_with fail
            refine (HC.out).mono ?_
            rintro e w' ⟨rfl, rfl⟩
            clear HC
            go_wp2_with fail
            refine (alive_any w4 hB).mono ?_
            rintro e w5 ⟨rfl, b5⟩
            have ha := ha.below b5
            have hb := hb.below b5
            have hs := hs.below b5
            have hB := hB.below b5
            have B := B.trans (b5.mono B.size)
            clear b5
            have HC := Lib.hid (refright_num ha)
            go_wp2_with fail
            refine (HC.out).mono ?_
            rintro e w' ⟨rfl, rfl⟩
            clear HC
            have HC := Lib.hid (refright_num hb)
            go_wp2_with fail
            refine (HC.out).mono ?_
            rintro e w' ⟨rfl, rfl⟩
            clear HC
            have HC := Lib.hid (reftext_num ha)
            go_wp2_with fail
            refine (HC.out).mono ?_
            rintro e w6 ⟨⟨x, rfl, hx⟩, b6⟩
            have ha := ha.below b6
            have hb := hb.below b6
            have hs := hs.below b6
            have hB := hB.below b6
            have B := B.trans (b6.mono B.size)
            clear b6
            clear HC
            have HC := Lib.hid (reftext_num hb)
            go_wp2_with fail
            refine (HC.out).mono ?_
            rintro e w7 ⟨⟨y, rfl, hy⟩, b7⟩
            have ha := ha.below b7
            have hb := hb.below b7
            have hs := hs.below b7
            have hB := hB.below b7
            have B := B.trans (b7.mono B.size)
            clear b7
            clear HC
            go_wp2_with fail
            refine (cmp_dec x y N M w7 hx hy HNb.out HMb.out).mono ?_
            rintro e w' ⟨rfl, rfl⟩
            go_wp2_with fail
            refine (refadd_str x y N M w7 hx hy HNb.out HMb.out).mono ?_
            rintro e w8 ⟨⟨z, rfl, hz⟩, b8⟩
            have ha := ha.below b8
            have hb := hb.below b8
            have hs := hs.below b8
            have hB := hB.below b8
            have B := B.trans (b8.mono B.size)
            clear b8
            go_wp2_with fail
            refine (is_ok s z (N + M) w8 hz hs).mono ?_
            rintro e w9 ⟨rfl, b9⟩
            clear hs
            have ha := ha.below b9
            have hb := hb.below b9
            have hB := hB.below b9
            have B := B.trans (b9.mono B.size)
            clear b9
            go_wp2_with fail
            refine (refmul_str x y N M w9 hx hy HN0.out HN16.out HM16.out).mono ?_
            rintro e w10 ⟨⟨z2, rfl, hz2⟩, b10⟩
            have ha := ha.below b10
            have hb := hb.below b10
            have hB := hB.below b10
            have B := B.trans (b10.mono B.size)
            clear b10
            go_wp2_with fail
            refine (is_over z2 (N * M) w10 hz2 HPb.out HM.out).mono ?_
            rintro e w11 ⟨rfl, b11⟩
            have ha := ha.below b11
            have hb := hb.below b11
            have hB := hB.below b11
            have B := B.trans (b11.mono B.size)
            clear b11
            go_wp2_with fail
            go_ret
            exact ⟨rfl, B⟩
        · have HA := Lib.hid (Int.not_lt.1 hA)
          by_cases hM : N * M < pw 16
          · have HM := Lib.hid hM
            clear hS hA hM
            have HC := Lib.hid (cmp_num ha hb)
            go_wp2_with fail
            refine (HC.out).mono ?_
            rintro e w1 ⟨rfl, b1⟩
            have ha := ha.below b1
            have hb := hb.below b1
            have hB := hB.below b1
            have B := B.trans (b1.mono B.size)
            clear b1
            clear HC
            go_wp2_with fail
            refine (add_num v u N M w1 ha hb).mono ?_
            rintro e w2 ⟨hto, b2⟩
            obtain rfl := hto.over HA.out
            have ha := ha.below b2
            have hb := hb.below b2
            have hB := hB.below b2
            have B := B.trans (b2.mono B.size)
            clear b2
            go_wp2_with fail
            refine (sub_less v u N M w2 ha hb HS.out).mono ?_
            rintro e w3 ⟨rfl, b3⟩
            have ha := ha.below b3
            have hb := hb.below b3
            have hB := hB.below b3
            have B := B.trans (b3.mono B.size)
            clear b3
            go_wp2_with fail
            refine (mul_num v u N M w3 ha hb).mono ?_
            rintro e w4 ⟨hto, b4⟩
            obtain ⟨q, rfl, hp⟩ := hto.ok HM.out
            have ha := ha.below b4
            have hb := hb.below b4
            have hB := hB.below b4
            have B := B.trans (b4.mono B.size)
            clear b4
            have HC := Lib.hid (right_num ha)
            go_wp2_with fail
            refine (HC.out).mono ?_
            rintro e w' ⟨rfl, rfl⟩
            clear HC
            have HC := Lib.hid (refright_num ha)
            go_wp2_with fail
            refine (HC.out).mono ?_
            rintro e w' ⟨rfl, rfl⟩
            clear HC
            go_wp2_with fail
            refine (alive_any w4 hB).mono ?_
            rintro e w5 ⟨rfl, b5⟩
            have ha := ha.below b5
            have hb := hb.below b5
            have hp := hp.below b5
            have hB := hB.below b5
            have B := B.trans (b5.mono B.size)
            clear b5
            have HC := Lib.hid (refright_num ha)
            go_wp2_with fail
            refine (HC.out).mono ?_
            rintro e w' ⟨rfl, rfl⟩
            clear HC
            have HC := Lib.hid (refright_num hb)
            go_wp2_with fail
            refine (HC.out).mono ?_
            rintro e w' ⟨rfl, rfl⟩
            clear HC
            have HC := Lib.hid (reftext_num ha)
            go_wp2_with fail
            refine (HC.out).mono ?_
            rintro e w6 ⟨⟨x, rfl, hx⟩, b6⟩
            have ha := ha.below b6
            have hb := hb.below b6
            have hp := hp.below b6
            have hB := hB.below b6
            have B := B.trans (b6.mono B.size)
            clear b6
            clear HC
            have HC := Lib.hid (reftext_num hb)
            go_wp2_with fail
            refine (HC.out).mono ?_
            rintro e w7 ⟨⟨y, rfl, hy⟩, b7⟩
            have ha := ha.below b7
            have hb := hb.below b7
            have hp := hp.below b7
            have hB := hB.below b7
            have B := B.trans (b7.mono B.size)
            clear b7
            clear HC
            go_wp2_with fail
            refine (cmp_dec x y N M w7 hx hy HNb.out HMb.out).mono ?_
            rintro e w' ⟨rfl, rfl⟩
            go_wp2_with fail
            refine (refadd_str x y N M w7 hx hy HNb.out HMb.out).mono ?_
            rintro e w8 ⟨⟨z, rfl, hz⟩, b8⟩
            have ha := ha.below b8
            have hb := hb.below b8
            have hp := hp.below b8
            have hB := hB.below b8
            have B := B.trans (b8.mono B.size)
            clear b8
            go_wp2_with fail
            refine (is_over z (N + M) w8 hz HAb.out HA.out).mono ?_
            rintro e w9 ⟨rfl, b9⟩
            have ha := ha.below b9
            have hb := hb.below b9
            have hp := hp.below b9
            have hB := hB.below b9
            have B := B.trans (b9.mono B.size)
            clear b9
            go_wp2_with fail
            refine (refmul_str x y N M w9 hx hy HN0.out HN16.out HM16.out).mono ?_
            rintro e w10 ⟨⟨z2, rfl, hz2⟩, b10⟩
            have ha := ha.below b10
            have hb := hb.below b10
            have hp := hp.below b10
            have hB := hB.below b10
            have B := B.trans (b10.mono B.size)
            clear b10
            go_wp2_with fail
            refine (is_ok q z2 (N * M) w10 hz2 hp).mono ?_
            rintro e w11 ⟨rfl, b11⟩
            clear hp
            have ha := ha.below b11
            have hb := hb.below b11
            have hB := hB.below b11
            have B := B.trans (b11.mono B.size)
            clear b11
            go_wp2_with fail
            go_ret
            exact ⟨rfl, B⟩
          · have HM := Lib.hid (Int.not_lt.1 hM)
            clear hS hA hM
            have HC := Lib.hid (cmp_num ha hb)
            go_wp2_with fail
            refine (HC.out).mono ?_
            rintro e w1 ⟨rfl, b1⟩
            have ha := ha.below b1
            have hb := hb.below b1
            have hB := hB.below b1
            have B := B.trans (b1.mono B.size)
            clear b1
            clear HC
            go_wp2_with fail
            refine (add_num v u N M w1 ha hb).mono ?_
            rintro e w2 ⟨hto, b2⟩
            obtain rfl := hto.over HA.out
            have ha := ha.below b2
            have hb := hb.below b2
            have hB := hB.below b2
            have B := B.trans (b2.mono B.size)
            clear b2
            go_wp2_with fail
            refine (sub_less v u N M w2 ha hb HS.out).mono ?_
            rintro e w3 ⟨rfl, b3⟩
            have ha := ha.below b3
            have hb := hb.below b3
            have hB := hB.below b3
            have B := B.trans (b3.mono B.size)
            clear b3
            go_wp2_with fail
            refine (mul_num v u N M w3 ha hb).mono ?_
            rintro e w4 ⟨hto, b4⟩
            obtain rfl := hto.over HM.out
            have ha := ha.below b4
            have hb := hb.below b4
            have hB := hB.below b4
            have B := B.trans (b4.mono B.size)
            clear b4
            have HC := Lib.hid (right_num ha)
            go_wp2_with fail
            refine (HC.out).mono ?_
            rintro e w' ⟨rfl, rfl⟩
            clear HC
            have HC := Lib.hid (refright_num ha)
            go_wp2_with fail
            refine (HC.out).mono ?_
            rintro e w' ⟨rfl, rfl⟩
            clear HC
            go_wp2_with fail
            refine (alive_any w4 hB).mono ?_
            rintro e w5 ⟨rfl, b5⟩
            have ha := ha.below b5
            have hb := hb.below b5
            have hB := hB.below b5
            have B := B.trans (b5.mono B.size)
            clear b5
            have HC := Lib.hid (refright_num ha)
            go_wp2_with fail
            refine (HC.out).mono ?_
            rintro e w' ⟨rfl, rfl⟩
            clear HC
            have HC := Lib.hid (refright_num hb)
            go_wp2_with fail
            refine (HC.out).mono ?_
            rintro e w' ⟨rfl, rfl⟩
            clear HC
            have HC := Lib.hid (reftext_num ha)
            go_wp2_with fail
            refine (HC.out).mono ?_
            rintro e w6 ⟨⟨x, rfl, hx⟩, b6⟩
            have ha := ha.below b6
            have hb := hb.below b6
            have hB := hB.below b6
            have B := B.trans (b6.mono B.size)
            clear b6
            clear HC
            have HC := Lib.hid (reftext_num hb)
            go_wp2_with fail
            refine (HC.out).mono ?_
            rintro e w7 ⟨⟨y, rfl, hy⟩, b7⟩
            have ha := ha.below b7
            have hb := hb.below b7
            have hB := hB.below b7
            have B := B.trans (b7.mono B.size)
            clear b7
            clear HC
            go_wp2_with fail
            refine (cmp_dec x y N M w7 hx hy HNb.out HMb.out).mono ?_
            rintro e w' ⟨rfl, rfl⟩
            go_wp2_with fail
            refine (refadd_str x y N M w7 hx hy HNb.out HMb.out).mono ?_
            rintro e w8 ⟨⟨z, rfl, hz⟩, b8⟩
            have ha := ha.below b8
            have hb := hb.below b8
            have hB := hB.below b8
            have B := B.trans (b8.mono B.size)
            clear b8
            go_wp2_with fail
            refine (is_over z (N + M) w8 hz HAb.out HA.out).mono ?_
            rintro e w9 ⟨rfl, b9⟩
            have ha := ha.below b9
            have hb := hb.below b9
            have hB := hB.below b9
            have B := B.trans (b9.mono B.size)
            clear b9
            go_wp2_with fail
            refine (refmul_str x y N M w9 hx hy HN0.out HN16.out HM16.out).mono ?_
            rintro e w10 ⟨⟨z2, rfl, hz2⟩, b10⟩
            have ha := ha.below b10
            have hb := hb.below b10
            have hB := hB.below b10
            have B := B.trans (b10.mono B.size)
            clear b10
            go_wp2_with fail
            refine (is_over z2 (N * M) w10 hz2 HPb.out HM.out).mono ?_
            rintro e w11 ⟨rfl, b11⟩
            have ha := ha.below b11
            have hb := hb.below b11
            have hB := hB.below b11
            have B := B.trans (b11.mono B.size)
            clear b11
            go_wp2_with fail
            go_ret
            exact ⟨rfl, B⟩
end Go.Proofs.YtondjnmpfpfpmaaDoor
