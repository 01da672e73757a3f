/- The law NatParts. -/
import Derived.Test.YtondjnmpfpfpmaaDoorNatRefMore
import Derived.Test.YtondjnmpfpfpmaaDoorNatSums
namespace Go.Proofs.YtondjnmpfpfpmaaDoor
open Go.RowKit NM

theorem bits_zero {N : Int} {k : Nat} (hN : N = 0) (h : IsBits N k) : k = 0 := by
  rcases h with ⟨_, h⟩ | ⟨h, _⟩
  · exact h
  · omega
theorem bits_pos {N : Int} {k : Nat} (hN : 0 < N) (h : IsBits N k) : ∃ j, k = j + 1 ∧ 2 ^ j ≤ N ∧ N < 2 ^ (j + 1) := by
  rcases h with ⟨h, _⟩ | ⟨_, h1, h2, h3⟩
  · omega
  · exact ⟨k - 1, by omega, h2, by rw [show k - 1 + 1 = k by omega]; exact h3⟩
theorem fieldQ (x y : Value) (w : World) : (Instr.field 43 (.agg #[x, y]) 0).run Tryd.prog w = .ok x w := by kernel_rfl
theorem fieldR (x y : Value) (w : World) : (Instr.field 43 (.agg #[x, y]) 1).run Tryd.prog w = .ok y w := by kernel_rfl
theorem two_cell0 {w : World} {b : Nat} {x y : Value} {t : TypeId} (h : w.heap[b]? = some (.cells #[x, y] t (0, 0))) : w.cell? ⟨b, 0, none⟩ = some x := by simp [World.cell?, h]
theorem two_cell1 {w : World} {b : Nat} {x y : Value} {t : TypeId} (h : w.heap[b]? = some (.cells #[x, y] t (0, 0))) : w.cell? ⟨b, 1, none⟩ = some y := by simp [World.cell?, h]
/-- Two values in a block of the call's own. -/
def TwoAt (w : World) (b : Nat) (x y : Value) : Prop := b < w.heap.size ∧ w.cell? ⟨b, 0, none⟩ = some x ∧ w.cell? ⟨b, 1, none⟩ = some y
theorem TwoAt.below {w w' : World} {b : Nat} {x y : Value} (h : TwoAt w b x y) (hb : Below w.heap.size w w') : TwoAt w' b x y :=
  ⟨Nat.lt_of_lt_of_le h.1 hb.size, by rw [hb.cell (p := ⟨b, 0, none⟩) h.1]; exact h.2.1, by rw [hb.cell (p := ⟨b, 1, none⟩) h.1]; exact h.2.2⟩
theorem TwoAt.new (w : World) (x y : Value) (t : TypeId) : TwoAt (w.alloc (.cells #[x, y] t)) w.heap.size x y := by
  have h : (w.alloc (.cells #[x, y] t)).heap[w.heap.size]? = some (.cells #[x, y] t (0, 0)) := by
    simp only [World.alloc]
    exact Array.getElem?_push_size
  exact ⟨lt_of_block h, two_cell0 h, two_cell1 h⟩
/-- What is asked of the number by which is shifted. -/
theorem by_ways (y : Int) (h0 : -9223372036854775808 ≤ y) (h1 : y ≤ 9223372036854775807) : (∃ s : Nat, y = s ∧ s ≤ 9223372036854775807) ∨ (∃ s : Nat, y = -(s : Int) ∧ 0 < s ∧ s ≤ 9223372036854775808) := by
  rcases Int.lt_or_le y 0 with h | h
  · exact .inr ⟨y.natAbs, by omega, by omega, by omega⟩
  · exact .inl ⟨y.toNat, by omega, by omega⟩

set_option maxHeartbeats 16000000 in
set_option maxRecDepth 100000 in
theorem parts_walk (a0 : Option Addr) (len0 cap0 : Nat) (z0 : List Int) (a1 : Option Addr) (len1 cap1 : Nat) (z1 : List Int) (y : Int) (w : World) (w0 : IsRow .u32 w a0 len0 cap0 z0) (w1 : IsRow .u32 w a1 len1 cap1 z1) (y0 : -9223372036854775808 ≤ y) (y1 : y ≤ 9223372036854775807) (hB : Bases w) :
    Calls Tryd.prog 4 #[.slice a0 len0 cap0, .slice a1 len1 cap1, .int .i64 y] w fun e w' => e = .returned (.bool true) ∧ Below w.heap.size w w' := by
  have F := Lib.hid (few_row a0 len0 cap0 z0 w w0)
  have G := Lib.hid (few_row a1 len1 cap1 z1 w w1)
  clear w0 w1
  go_enter Tryd.func4, Tryd.ntmps4
  go_wp2_with fail
  refine F.out.mono ?_
  rintro e w' ⟨⟨v, xs, rfl, hsl, hl18⟩, rfl⟩
  go_wp2_with fail
  refine G.out.mono ?_
  rintro e w' ⟨⟨u, ys, rfl, htl, hl19⟩, rfl⟩
  clear F G
  have B := Below.refl w.heap.size w
  have fQ := fieldQ
  have fR := fieldR
  cases hrx : rightB xs
  · as_aux_lemma =>
    have hb2 : Bad2 w v u := ⟨xs, ys, hsl, htl, by rw [hrx]; rfl⟩
    have hbb : Bad1 w v := ⟨xs, hsl, hrx⟩
    clear hsl htl hrx hl18 hl19
    go_wp2_with fail
    refine (div_bad v u w hb2).mono ?_
    rintro e w' ⟨rfl, rfl⟩
    go_wp2_with fail
    refine (shift_bad v y w hbb).mono ?_
    rintro e w' ⟨rfl, rfl⟩
    go_wp2_with fail
    refine (bits_bad v w hbb).mono ?_
    rintro e w' ⟨rfl, rfl⟩
    clear hb2
    have HC := Lib.hid (refright_bad hbb)
    go_wp2_with fail
    refine (HC.out).mono ?_
    rintro e w' ⟨rfl, rfl⟩
    clear HC
    go_wp2_with fail
    refine (alive_any w hB).mono ?_
    rintro e w1 ⟨rfl, b1⟩
    have hbb := hbb.below b1
    have hB := hB.below b1
    have B := B.trans (b1.mono B.size)
    clear b1
    go_wp2_with fail
    go_ret
    exact ⟨rfl, B⟩
  obtain ⟨N, hN⟩ : ∃ N, val xs = N := ⟨_, rfl⟩
  have ha : Num w v N := ⟨xs, hsl, hrx, hN⟩
  have hrg := ha.range
  have h20 : pw 16 < pw 20 := by decide +kernel
  have hbig := pw_big'
  have hpp : pw 16 * pw 20 < big := by unfold big; decide +kernel
  have h20b : pw 20 < big := by unfold big; decide +kernel
  have HN0 := Lib.hid hrg.1
  have HN20 := Lib.hid (show N < pw 20 by omega)
  have HNb := Lib.hid (show N < big by omega)
  have hways := by_ways y y0 y1
  clear hl18 hl19 hN y0 y1 hbig
  cases hry : rightB ys
  · have hb2 : Bad2 w v u := ⟨xs, ys, hsl, htl, by rw [hrx, hry]; rfl⟩
    have hbb : Bad1 w u := ⟨ys, htl, hry⟩
    clear hsl htl hrx hry
    rcases hways with ⟨s, rfl, hs63⟩ | ⟨s, rfl, hs0, hs64⟩
    · have hs63 := Lib.hid hs63
      by_cases hN : N = 0
      · have hs6j : ¬ (s : Int) < -600 := by omega
        by_cases hs6i : (600 : Int) < s
        · have HN := Lib.hid hN
          have HT := Lib.hid (show N * 2 ^ s < pw 16 by rw [hN, Int.zero_mul]; exact pw_pos 16)
          have HT0 := Lib.hid (show N * 2 ^ s = 0 by rw [hN, Int.zero_mul])
          have hs63b : (s : Int) ≤ 9223372036854775807 := by have := hs63.out; omega
          clear hN hrg h20 hpp h20b
          as_aux_lemma =>
            go_wp2_with fail
            refine (div_bad v u w hb2).mono ?_
            rintro e w' ⟨rfl, rfl⟩
            clear hb2
            go_wp2_with fail
            refine (shift_up v N s w ha hs63.out).mono ?_
            rintro e w1 ⟨hto, b1⟩
            obtain ⟨t, rfl, hs⟩ := hto.ok HT.out
            rw [HT0.out] at hs
            obtain ⟨so, sc, rfl⟩ := hs.of_zero
            have ha := ha.below b1
            have hbb := hbb.below b1
            have hB := hB.below b1
            have B := B.trans (b1.mono B.size)
            clear b1
            have HC := Lib.hid (bits_num v N w1 ha)
            go_wp2_with fail
            refine (HC.out).mono ?_
            rintro e w' ⟨⟨k, rfl, hbits, hk⟩, rfl⟩
            clear HC
            obtain rfl := bits_zero HN.out hbits
            clear hbits hk
            have HC := Lib.hid (refright_num ha)
            go_wp2_with fail
            refine (HC.out).mono ?_
            rintro e w' ⟨rfl, rfl⟩
            clear HC
            have HC := Lib.hid (reftext_fun ha)
            go_wp2_with fail
            refine (HC.out).mono ?_
            rintro e w2 ⟨rfl, b2⟩
            have ha := ha.below b2
            have hbb := hbb.below b2
            have hs := hs.below b2
            have hB := hB.below b2
            have B := B.trans (b2.mono B.size)
            clear b2
            clear HC
            go_wp2_with fail
            refine (power_fun 0 w2 (by omega)).mono ?_
            rintro e w3 ⟨rfl, b3⟩
            have ha := ha.below b3
            have hbb := hbb.below b3
            have hs := hs.below b3
            have hB := hB.below b3
            have B := B.trans (b3.mono B.size)
            clear b3
            have HC := Lib.hid (cmp_fun N (2 ^ 0) w3 HN0.out (Int.le_of_lt (pow_pos2 0)) HNb.out (pow_big (by omega)))
            rw [sgn_less (show N < 2 ^ 0 by rw [HN.out]; decide)] at HC
            go_wp2_with fail
            refine (HC.out).mono ?_
            rintro e w' ⟨rfl, rfl⟩
            clear HC
            have HC := Lib.hid (refright_bad hbb)
            go_wp2_with fail
            refine (HC.out).mono ?_
            rintro e w' ⟨rfl, rfl⟩
            clear HC
            go_wp2_with fail
            refine (alive_any w3 hB).mono ?_
            rintro e w4 ⟨rfl, b4⟩
            have ha := ha.below b4
            have hbb := hbb.below b4
            have hs := hs.below b4
            have hB := hB.below b4
            have B := B.trans (b4.mono B.size)
            clear b4
            go_wp2_with fail
            go_ret
            exact ⟨rfl, B⟩
        · have HN := Lib.hid hN
          have HT := Lib.hid (show N * 2 ^ s < pw 16 by rw [hN, Int.zero_mul]; exact pw_pos 16)
          have HT0 := Lib.hid (show N * 2 ^ s = 0 by rw [hN, Int.zero_mul])
          have hs63b : (s : Int) ≤ 9223372036854775807 := by have := hs63.out; omega
          clear hN hrg h20 hpp h20b
          as_aux_lemma =>
            go_wp2_with fail
            refine (div_bad v u w hb2).mono ?_
            rintro e w' ⟨rfl, rfl⟩
            clear hb2
            go_wp2_with fail
            refine (shift_up v N s w ha hs63.out).mono ?_
            rintro e w1 ⟨hto, b1⟩
            obtain ⟨t, rfl, hs⟩ := hto.ok HT.out
            rw [HT0.out] at hs
            obtain ⟨so, sc, rfl⟩ := hs.of_zero
            have ha := ha.below b1
            have hbb := hbb.below b1
            have hB := hB.below b1
            have B := B.trans (b1.mono B.size)
            clear b1
            have HC := Lib.hid (bits_num v N w1 ha)
            go_wp2_with fail
            refine (HC.out).mono ?_
            rintro e w' ⟨⟨k, rfl, hbits, hk⟩, rfl⟩
            clear HC
            obtain rfl := bits_zero HN.out hbits
            clear hbits hk
            have HC := Lib.hid (refright_num ha)
            go_wp2_with fail
            refine (HC.out).mono ?_
            rintro e w' ⟨rfl, rfl⟩
            clear HC
            have HC := Lib.hid (reftext_fun ha)
            go_wp2_with fail
            refine (HC.out).mono ?_
            rintro e w2 ⟨rfl, b2⟩
            have ha := ha.below b2
            have hbb := hbb.below b2
            have hs := hs.below b2
            have hB := hB.below b2
            have B := B.trans (b2.mono B.size)
            clear b2
            clear HC
            go_wp2_with fail
            refine (power_fun 0 w2 (by omega)).mono ?_
            rintro e w3 ⟨rfl, b3⟩
            have ha := ha.below b3
            have hbb := hbb.below b3
            have hs := hs.below b3
            have hB := hB.below b3
            have B := B.trans (b3.mono B.size)
            clear b3
            have HC := Lib.hid (cmp_fun N (2 ^ 0) w3 HN0.out (Int.le_of_lt (pow_pos2 0)) HNb.out (pow_big (by omega)))
            rw [sgn_less (show N < 2 ^ 0 by rw [HN.out]; decide)] at HC
            go_wp2_with fail
            refine (HC.out).mono ?_
            rintro e w' ⟨rfl, rfl⟩
            clear HC
            have HC := Lib.hid (refright_bad hbb)
            go_wp2_with fail
            refine (HC.out).mono ?_
            rintro e w' ⟨rfl, rfl⟩
            clear HC
            go_wp2_with fail
            refine (alive_any w3 hB).mono ?_
            rintro e w4 ⟨rfl, b4⟩
            have ha := ha.below b4
            have hbb := hbb.below b4
            have hs := hs.below b4
            have hB := hB.below b4
            have B := B.trans (b4.mono B.size)
            clear b4
            go_wp2_with fail
            go_ret
            exact ⟨rfl, B⟩
      have HN := Lib.hid (show 0 < N by omega)
      by_cases hs6 : 600 < s
      · have HT := Lib.hid (shift_more (t := s) HN.out (by omega))
        have hs6b : (600 : Int) < s := by omega
        clear hN hrg h20 hpp h20b
        as_aux_lemma =>
          go_wp2_with fail
          refine (div_bad v u w hb2).mono ?_
          rintro e w' ⟨rfl, rfl⟩
          clear hb2
          go_wp2_with fail
          refine (shift_up v N s w ha hs63.out).mono ?_
          rintro e w1 ⟨hto, b1⟩
          obtain rfl := hto.over HT.out
          have ha := ha.below b1
          have hbb := hbb.below b1
          have hB := hB.below b1
          have B := B.trans (b1.mono B.size)
          clear b1
          have HC := Lib.hid (bits_num v N w1 ha)
          go_wp2_with fail
          refine (HC.out).mono ?_
          rintro e w' ⟨⟨k, rfl, hbits, hk⟩, rfl⟩
          clear HC
          obtain ⟨j, rfl, hk1, hk2⟩ := bits_pos HN.out hbits
          have hj0 : (0 : Int) < (j : Int) + 1 := by omega
          have hjn : (((j : Int) + 1) == 0) = false := by rw [beq_eq_false_iff_ne]; omega
          have hj : j ≤ 511 := by omega
          have Hk1 := Lib.hid hk1
          have Hk2 := Lib.hid hk2
          clear hbits hk hk1 hk2
          have HC := Lib.hid (refright_num ha)
          go_wp2_with fail
          refine (HC.out).mono ?_
          rintro e w' ⟨rfl, rfl⟩
          clear HC
          have HC := Lib.hid (reftext_fun ha)
          go_wp2_with fail
          refine (HC.out).mono ?_
          rintro e w2 ⟨rfl, b2⟩
          have ha := ha.below b2
          have hbb := hbb.below b2
          have hB := hB.below b2
          have B := B.trans (b2.mono B.size)
          clear b2
          clear HC
          go_wp2_with fail
          refine (power_fun j w2 (by omega)).mono ?_
          rintro e w3 ⟨rfl, b3⟩
          have ha := ha.below b3
          have hbb := hbb.below b3
          have hB := hB.below b3
          have B := B.trans (b3.mono B.size)
          clear b3
          obtain ⟨g, hg, hg0⟩ : ∃ g, sgn N (2 ^ j) = g ∧ 0 ≤ g := ⟨_, rfl, sgn_ge Hk1.out⟩
          have HC := Lib.hid (cmp_fun N (2 ^ j) w3 HN0.out (Int.le_of_lt (pow_pos2 j)) HNb.out (pow_big (by omega)))
          rw [hg] at HC
          clear hg
          go_wp2_with fail
          refine (HC.out).mono ?_
          rintro e w' ⟨rfl, rfl⟩
          clear HC
          go_wp2_with fail
          refine (power_fun (j + 1) w3 (by omega)).mono ?_
          rintro e w4 ⟨rfl, b4⟩
          have ha := ha.below b4
          have hbb := hbb.below b4
          have hB := hB.below b4
          have B := B.trans (b4.mono B.size)
          clear b4
          have HC := Lib.hid (cmp_fun N (2 ^ (j + 1)) w4 HN0.out (Int.le_of_lt (pow_pos2 (j + 1))) HNb.out (pow_big (by omega)))
          rw [sgn_less Hk2.out] at HC
          go_wp2_with fail
          refine (HC.out).mono ?_
          rintro e w' ⟨rfl, rfl⟩
          clear HC
          have HC := Lib.hid (refright_bad hbb)
          go_wp2_with fail
          refine (HC.out).mono ?_
          rintro e w' ⟨rfl, rfl⟩
          clear HC
          go_wp2_with fail
          refine (alive_any w4 hB).mono ?_
          rintro e w5 ⟨rfl, b5⟩
          have ha := ha.below b5
          have hbb := hbb.below b5
          have hB := hB.below b5
          have B := B.trans (b5.mono B.size)
          clear b5
          go_wp2_with fail
          go_ret
          exact ⟨rfl, B⟩
      have hs6b : ¬ (600 : Int) < s := by omega
      have hs6c : ¬ (s : Int) < -600 := by omega
      have hs6d : (0 : Int) ≤ s := by omega
      have HT1 := Lib.hid (show 0 ≤ N * 2 ^ s from Int.mul_nonneg hrg.1 (Int.le_of_lt (pow_pos2 s)))
      have HTb := Lib.hid (show N * 2 ^ s < big by have := Int.mul_le_mul (show N ≤ pw 16 by omega) (Int.le_of_lt (pow_pw (n := s) (by omega))) (Int.le_of_lt (pow_pos2 s)) (show 0 ≤ pw 16 by omega); omega)
      by_cases hT : N * 2 ^ s < pw 16
      · have HT := Lib.hid hT
        clear hN hrg h20 hpp h20b hT
        as_aux_lemma =>
          go_wp2_with fail
          refine (div_bad v u w hb2).mono ?_
          rintro e w' ⟨rfl, rfl⟩
          clear hb2
          go_wp2_with fail
          refine (shift_up v N s w ha hs63.out).mono ?_
          rintro e w1 ⟨hto, b1⟩
          obtain ⟨t, rfl, hs⟩ := hto.ok HT.out
          have ha := ha.below b1
          have hbb := hbb.below b1
          have hB := hB.below b1
          have B := B.trans (b1.mono B.size)
          clear b1
          have HC := Lib.hid (bits_num v N w1 ha)
          go_wp2_with fail
          refine (HC.out).mono ?_
          rintro e w' ⟨⟨k, rfl, hbits, hk⟩, rfl⟩
          clear HC
          obtain ⟨j, rfl, hk1, hk2⟩ := bits_pos HN.out hbits
          have hj0 : (0 : Int) < (j : Int) + 1 := by omega
          have hjn : (((j : Int) + 1) == 0) = false := by rw [beq_eq_false_iff_ne]; omega
          have hj : j ≤ 511 := by omega
          have Hk1 := Lib.hid hk1
          have Hk2 := Lib.hid hk2
          clear hbits hk hk1 hk2
          have HC := Lib.hid (refright_num ha)
          go_wp2_with fail
          refine (HC.out).mono ?_
          rintro e w' ⟨rfl, rfl⟩
          clear HC
          have HC := Lib.hid (reftext_fun ha)
          go_wp2_with fail
          refine (HC.out).mono ?_
          rintro e w2 ⟨rfl, b2⟩
          have ha := ha.below b2
          have hbb := hbb.below b2
          have hs := hs.below b2
          have hB := hB.below b2
          have B := B.trans (b2.mono B.size)
          clear b2
          clear HC
          go_wp2_with fail
          refine (power_fun j w2 (by omega)).mono ?_
          rintro e w3 ⟨rfl, b3⟩
          have ha := ha.below b3
          have hbb := hbb.below b3
          have hs := hs.below b3
          have hB := hB.below b3
          have B := B.trans (b3.mono B.size)
          clear b3
          obtain ⟨g, hg, hg0⟩ : ∃ g, sgn N (2 ^ j) = g ∧ 0 ≤ g := ⟨_, rfl, sgn_ge Hk1.out⟩
          have HC := Lib.hid (cmp_fun N (2 ^ j) w3 HN0.out (Int.le_of_lt (pow_pos2 j)) HNb.out (pow_big (by omega)))
          rw [hg] at HC
          clear hg
          go_wp2_with fail
          refine (HC.out).mono ?_
          rintro e w' ⟨rfl, rfl⟩
          clear HC
          go_wp2_with fail
          refine (power_fun (j + 1) w3 (by omega)).mono ?_
          rintro e w4 ⟨rfl, b4⟩
          have ha := ha.below b4
          have hbb := hbb.below b4
          have hs := hs.below b4
          have hB := hB.below b4
          have B := B.trans (b4.mono B.size)
          clear b4
          have HC := Lib.hid (cmp_fun N (2 ^ (j + 1)) w4 HN0.out (Int.le_of_lt (pow_pos2 (j + 1))) HNb.out (pow_big (by omega)))
          rw [sgn_less Hk2.out] at HC
          go_wp2_with fail
          refine (HC.out).mono ?_
          rintro e w' ⟨rfl, rfl⟩
          clear HC
          go_wp2_with fail
          refine (power_fun s w4 (by omega)).mono ?_
          rintro e w5 ⟨rfl, b5⟩
          have ha := ha.below b5
          have hbb := hbb.below b5
          have hs := hs.below b5
          have hB := hB.below b5
          have B := B.trans (b5.mono B.size)
          clear b5
          go_wp2_with fail
          refine (refmul_wide N (2 ^ s) w5 HN0.out (Int.le_of_lt (pow_pos2 s)) HN20.out (pow_pw (by omega))).mono ?_
          rintro e w6 ⟨rfl, b6⟩
          have ha := ha.below b6
          have hbb := hbb.below b6
          have hs := hs.below b6
          have hB := hB.below b6
          have B := B.trans (b6.mono B.size)
          clear b6
          go_wp2_with fail
          refine (is_ok t _ _ w6 (numStr_dec HT1.out) hs).mono ?_
          rintro e w7 ⟨rfl, b7⟩
          clear hs
          have ha := ha.below b7
          have hbb := hbb.below b7
          have hB := hB.below b7
          have B := B.trans (b7.mono B.size)
          clear b7
          have HC := Lib.hid (refright_bad hbb)
          go_wp2_with fail
          refine (HC.out).mono ?_
          rintro e w' ⟨rfl, rfl⟩
          clear HC
          go_wp2_with fail
          refine (alive_any w7 hB).mono ?_
          rintro e w8 ⟨rfl, b8⟩
          have ha := ha.below b8
          have hbb := hbb.below b8
          have hB := hB.below b8
          have B := B.trans (b8.mono B.size)
          clear b8
          go_wp2_with fail
          go_ret
          exact ⟨rfl, B⟩
      · have HT := Lib.hid (Int.not_lt.1 hT)
        clear hN hrg h20 hpp h20b hT
        as_aux_lemma =>
          go_wp2_with fail
          refine (div_bad v u w hb2).mono ?_
          rintro e w' ⟨rfl, rfl⟩
          clear hb2
          go_wp2_with fail
          refine (shift_up v N s w ha hs63.out).mono ?_
          rintro e w1 ⟨hto, b1⟩
          obtain rfl := hto.over HT.out
          have ha := ha.below b1
          have hbb := hbb.below b1
          have hB := hB.below b1
          have B := B.trans (b1.mono B.size)
          clear b1
          have HC := Lib.hid (bits_num v N w1 ha)
          go_wp2_with fail
          refine (HC.out).mono ?_
          rintro e w' ⟨⟨k, rfl, hbits, hk⟩, rfl⟩
          clear HC
          obtain ⟨j, rfl, hk1, hk2⟩ := bits_pos HN.out hbits
          have hj0 : (0 : Int) < (j : Int) + 1 := by omega
          have hjn : (((j : Int) + 1) == 0) = false := by rw [beq_eq_false_iff_ne]; omega
          have hj : j ≤ 511 := by omega
          have Hk1 := Lib.hid hk1
          have Hk2 := Lib.hid hk2
          clear hbits hk hk1 hk2
          have HC := Lib.hid (refright_num ha)
          go_wp2_with fail
          refine (HC.out).mono ?_
          rintro e w' ⟨rfl, rfl⟩
          clear HC
          have HC := Lib.hid (reftext_fun ha)
          go_wp2_with fail
          refine (HC.out).mono ?_
          rintro e w2 ⟨rfl, b2⟩
          have ha := ha.below b2
          have hbb := hbb.below b2
          have hB := hB.below b2
          have B := B.trans (b2.mono B.size)
          clear b2
          clear HC
          go_wp2_with fail
          refine (power_fun j w2 (by omega)).mono ?_
          rintro e w3 ⟨rfl, b3⟩
          have ha := ha.below b3
          have hbb := hbb.below b3
          have hB := hB.below b3
          have B := B.trans (b3.mono B.size)
          clear b3
          obtain ⟨g, hg, hg0⟩ : ∃ g, sgn N (2 ^ j) = g ∧ 0 ≤ g := ⟨_, rfl, sgn_ge Hk1.out⟩
          have HC := Lib.hid (cmp_fun N (2 ^ j) w3 HN0.out (Int.le_of_lt (pow_pos2 j)) HNb.out (pow_big (by omega)))
          rw [hg] at HC
          clear hg
          go_wp2_with fail
          refine (HC.out).mono ?_
          rintro e w' ⟨rfl, rfl⟩
          clear HC
          go_wp2_with fail
          refine (power_fun (j + 1) w3 (by omega)).mono ?_
          rintro e w4 ⟨rfl, b4⟩
          have ha := ha.below b4
          have hbb := hbb.below b4
          have hB := hB.below b4
          have B := B.trans (b4.mono B.size)
          clear b4
          have HC := Lib.hid (cmp_fun N (2 ^ (j + 1)) w4 HN0.out (Int.le_of_lt (pow_pos2 (j + 1))) HNb.out (pow_big (by omega)))
          rw [sgn_less Hk2.out] at HC
          go_wp2_with fail
          refine (HC.out).mono ?_
          rintro e w' ⟨rfl, rfl⟩
          clear HC
          go_wp2_with fail
          refine (power_fun s w4 (by omega)).mono ?_
          rintro e w5 ⟨rfl, b5⟩
          have ha := ha.below b5
          have hbb := hbb.below b5
          have hB := hB.below b5
          have B := B.trans (b5.mono B.size)
          clear b5
          go_wp2_with fail
          refine (refmul_wide N (2 ^ s) w5 HN0.out (Int.le_of_lt (pow_pos2 s)) HN20.out (pow_pw (by omega))).mono ?_
          rintro e w6 ⟨rfl, b6⟩
          have ha := ha.below b6
          have hbb := hbb.below b6
          have hB := hB.below b6
          have B := B.trans (b6.mono B.size)
          clear b6
          go_wp2_with fail
          refine (is_over _ _ w6 (numStr_dec HT1.out) HTb.out HT.out).mono ?_
          rintro e w7 ⟨rfl, b7⟩
          have ha := ha.below b7
          have hbb := hbb.below b7
          have hB := hB.below b7
          have B := B.trans (b7.mono B.size)
          clear b7
          have HC := Lib.hid (refright_bad hbb)
          go_wp2_with fail
          refine (HC.out).mono ?_
          rintro e w' ⟨rfl, rfl⟩
          clear HC
          go_wp2_with fail
          refine (alive_any w7 hB).mono ?_
          rintro e w8 ⟨rfl, b8⟩
          have ha := ha.below b8
          have hbb := hbb.below b8
          have hB := hB.below b8
          have B := B.trans (b8.mono B.size)
          clear b8
          go_wp2_with fail
          go_ret
          exact ⟨rfl, B⟩
    · have hs64 := Lib.hid hs64
      have hs0i : (0 : Int) < s := by omega
      have hs0j : ¬ (600 : Int) < -(s : Int) := by omega
      have hs0k : ¬ (0 : Int) ≤ -(s : Int) := by omega
      have hs0l : -(s : Int) < 0 := by omega
      have hs0 := Lib.hid hs0
      by_cases hN : N = 0
      · by_cases hs6i : -(s : Int) < -600
        · have HN := Lib.hid hN
          have HT0 := Lib.hid (show N / 2 ^ s = 0 by rw [hN, Int.zero_ediv])
          clear hN hrg h20 hpp h20b
          as_aux_lemma =>
            go_wp2_with fail
            refine (div_bad v u w hb2).mono ?_
            rintro e w' ⟨rfl, rfl⟩
            clear hb2
            go_wp2_with fail
            refine (shift_down v N s w ha hs0.out hs64.out).mono ?_
            rintro e w1 ⟨⟨t, rfl, hs⟩, b1⟩
            rw [HT0.out] at hs
            obtain ⟨so, sc, rfl⟩ := hs.of_zero
            have ha := ha.below b1
            have hbb := hbb.below b1
            have hB := hB.below b1
            have B := B.trans (b1.mono B.size)
            clear b1
            have HC := Lib.hid (bits_num v N w1 ha)
            go_wp2_with fail
            refine (HC.out).mono ?_
            rintro e w' ⟨⟨k, rfl, hbits, hk⟩, rfl⟩
            clear HC
            obtain rfl := bits_zero HN.out hbits
            clear hbits hk
            have HC := Lib.hid (refright_num ha)
            go_wp2_with fail
            refine (HC.out).mono ?_
            rintro e w' ⟨rfl, rfl⟩
            clear HC
            have HC := Lib.hid (reftext_fun ha)
            go_wp2_with fail
            refine (HC.out).mono ?_
            rintro e w2 ⟨rfl, b2⟩
            have ha := ha.below b2
            have hbb := hbb.below b2
            have hs := hs.below b2
            have hB := hB.below b2
            have B := B.trans (b2.mono B.size)
            clear b2
            clear HC
            go_wp2_with fail
            refine (power_fun 0 w2 (by omega)).mono ?_
            rintro e w3 ⟨rfl, b3⟩
            have ha := ha.below b3
            have hbb := hbb.below b3
            have hs := hs.below b3
            have hB := hB.below b3
            have B := B.trans (b3.mono B.size)
            clear b3
            have HC := Lib.hid (cmp_fun N (2 ^ 0) w3 HN0.out (Int.le_of_lt (pow_pos2 0)) HNb.out (pow_big (by omega)))
            rw [sgn_less (show N < 2 ^ 0 by rw [HN.out]; decide)] at HC
            go_wp2_with fail
            refine (HC.out).mono ?_
            rintro e w' ⟨rfl, rfl⟩
            clear HC
            have HC := Lib.hid (refright_bad hbb)
            go_wp2_with fail
            refine (HC.out).mono ?_
            rintro e w' ⟨rfl, rfl⟩
            clear HC
            go_wp2_with fail
            refine (alive_any w3 hB).mono ?_
            rintro e w4 ⟨rfl, b4⟩
            have ha := ha.below b4
            have hbb := hbb.below b4
            have hs := hs.below b4
            have hB := hB.below b4
            have B := B.trans (b4.mono B.size)
            clear b4
            go_wp2_with fail
            go_ret
            exact ⟨rfl, B⟩
        · have HN := Lib.hid hN
          have HT0 := Lib.hid (show N / 2 ^ s = 0 by rw [hN, Int.zero_ediv])
          clear hN hrg h20 hpp h20b
          as_aux_lemma =>
            go_wp2_with fail
            refine (div_bad v u w hb2).mono ?_
            rintro e w' ⟨rfl, rfl⟩
            clear hb2
            go_wp2_with fail
            refine (shift_down v N s w ha hs0.out hs64.out).mono ?_
            rintro e w1 ⟨⟨t, rfl, hs⟩, b1⟩
            rw [HT0.out] at hs
            obtain ⟨so, sc, rfl⟩ := hs.of_zero
            have ha := ha.below b1
            have hbb := hbb.below b1
            have hB := hB.below b1
            have B := B.trans (b1.mono B.size)
            clear b1
            have HC := Lib.hid (bits_num v N w1 ha)
            go_wp2_with fail
            refine (HC.out).mono ?_
            rintro e w' ⟨⟨k, rfl, hbits, hk⟩, rfl⟩
            clear HC
            obtain rfl := bits_zero HN.out hbits
            clear hbits hk
            have HC := Lib.hid (refright_num ha)
            go_wp2_with fail
            refine (HC.out).mono ?_
            rintro e w' ⟨rfl, rfl⟩
            clear HC
            have HC := Lib.hid (reftext_fun ha)
            go_wp2_with fail
            refine (HC.out).mono ?_
            rintro e w2 ⟨rfl, b2⟩
            have ha := ha.below b2
            have hbb := hbb.below b2
            have hs := hs.below b2
            have hB := hB.below b2
            have B := B.trans (b2.mono B.size)
            clear b2
            clear HC
            go_wp2_with fail
            refine (power_fun 0 w2 (by omega)).mono ?_
            rintro e w3 ⟨rfl, b3⟩
            have ha := ha.below b3
            have hbb := hbb.below b3
            have hs := hs.below b3
            have hB := hB.below b3
            have B := B.trans (b3.mono B.size)
            clear b3
            have HC := Lib.hid (cmp_fun N (2 ^ 0) w3 HN0.out (Int.le_of_lt (pow_pos2 0)) HNb.out (pow_big (by omega)))
            rw [sgn_less (show N < 2 ^ 0 by rw [HN.out]; decide)] at HC
            go_wp2_with fail
            refine (HC.out).mono ?_
            rintro e w' ⟨rfl, rfl⟩
            clear HC
            have HC := Lib.hid (refright_bad hbb)
            go_wp2_with fail
            refine (HC.out).mono ?_
            rintro e w' ⟨rfl, rfl⟩
            clear HC
            go_wp2_with fail
            refine (alive_any w3 hB).mono ?_
            rintro e w4 ⟨rfl, b4⟩
            have ha := ha.below b4
            have hbb := hbb.below b4
            have hs := hs.below b4
            have hB := hB.below b4
            have B := B.trans (b4.mono B.size)
            clear b4
            go_wp2_with fail
            go_ret
            exact ⟨rfl, B⟩
      have HN := Lib.hid (show 0 < N by omega)
      by_cases hs6 : 600 < s
      · have HT0 := Lib.hid (shift_far (t := s) hrg.1 hrg.2 (by omega))
        have hs6b : -(s : Int) < -600 := by omega
        clear hN hrg h20 hpp h20b
        as_aux_lemma =>
          go_wp2_with fail
          refine (div_bad v u w hb2).mono ?_
          rintro e w' ⟨rfl, rfl⟩
          clear hb2
          go_wp2_with fail
          refine (shift_down v N s w ha hs0.out hs64.out).mono ?_
          rintro e w1 ⟨⟨t, rfl, hs⟩, b1⟩
          rw [HT0.out] at hs
          obtain ⟨so, sc, rfl⟩ := hs.of_zero
          have ha := ha.below b1
          have hbb := hbb.below b1
          have hB := hB.below b1
          have B := B.trans (b1.mono B.size)
          clear b1
          have HC := Lib.hid (bits_num v N w1 ha)
          go_wp2_with fail
          refine (HC.out).mono ?_
          rintro e w' ⟨⟨k, rfl, hbits, hk⟩, rfl⟩
          clear HC
          obtain ⟨j, rfl, hk1, hk2⟩ := bits_pos HN.out hbits
          have hj0 : (0 : Int) < (j : Int) + 1 := by omega
          have hjn : (((j : Int) + 1) == 0) = false := by rw [beq_eq_false_iff_ne]; omega
          have hj : j ≤ 511 := by omega
          have Hk1 := Lib.hid hk1
          have Hk2 := Lib.hid hk2
          clear hbits hk hk1 hk2
          have HC := Lib.hid (refright_num ha)
          go_wp2_with fail
          refine (HC.out).mono ?_
          rintro e w' ⟨rfl, rfl⟩
          clear HC
          have HC := Lib.hid (reftext_fun ha)
          go_wp2_with fail
          refine (HC.out).mono ?_
          rintro e w2 ⟨rfl, b2⟩
          have ha := ha.below b2
          have hbb := hbb.below b2
          have hs := hs.below b2
          have hB := hB.below b2
          have B := B.trans (b2.mono B.size)
          clear b2
          clear HC
          go_wp2_with fail
          refine (power_fun j w2 (by omega)).mono ?_
          rintro e w3 ⟨rfl, b3⟩
          have ha := ha.below b3
          have hbb := hbb.below b3
          have hs := hs.below b3
          have hB := hB.below b3
          have B := B.trans (b3.mono B.size)
          clear b3
          obtain ⟨g, hg, hg0⟩ : ∃ g, sgn N (2 ^ j) = g ∧ 0 ≤ g := ⟨_, rfl, sgn_ge Hk1.out⟩
          have HC := Lib.hid (cmp_fun N (2 ^ j) w3 HN0.out (Int.le_of_lt (pow_pos2 j)) HNb.out (pow_big (by omega)))
          rw [hg] at HC
          clear hg
          go_wp2_with fail
          refine (HC.out).mono ?_
          rintro e w' ⟨rfl, rfl⟩
          clear HC
          go_wp2_with fail
          refine (power_fun (j + 1) w3 (by omega)).mono ?_
          rintro e w4 ⟨rfl, b4⟩
          have ha := ha.below b4
          have hbb := hbb.below b4
          have hs := hs.below b4
          have hB := hB.below b4
          have B := B.trans (b4.mono B.size)
          clear b4
          have HC := Lib.hid (cmp_fun N (2 ^ (j + 1)) w4 HN0.out (Int.le_of_lt (pow_pos2 (j + 1))) HNb.out (pow_big (by omega)))
          rw [sgn_less Hk2.out] at HC
          go_wp2_with fail
          refine (HC.out).mono ?_
          rintro e w' ⟨rfl, rfl⟩
          clear HC
          have HC := Lib.hid (refright_bad hbb)
          go_wp2_with fail
          refine (HC.out).mono ?_
          rintro e w' ⟨rfl, rfl⟩
          clear HC
          go_wp2_with fail
          refine (alive_any w4 hB).mono ?_
          rintro e w5 ⟨rfl, b5⟩
          have ha := ha.below b5
          have hbb := hbb.below b5
          have hs := hs.below b5
          have hB := hB.below b5
          have B := B.trans (b5.mono B.size)
          clear b5
          go_wp2_with fail
          go_ret
          exact ⟨rfl, B⟩
      have hs6b : ¬ -(s : Int) < -600 := by omega
      have HT1 := Lib.hid (show 0 ≤ N / 2 ^ s from Int.ediv_nonneg hrg.1 (Int.le_of_lt (pow_pos2 s)))
      · clear hN hrg h20 hpp h20b
        as_aux_lemma =>
          go_wp2_with fail
          refine (div_bad v u w hb2).mono ?_
          rintro e w' ⟨rfl, rfl⟩
          clear hb2
          go_wp2_with fail
          refine (shift_down v N s w ha hs0.out hs64.out).mono ?_
          rintro e w1 ⟨⟨t, rfl, hs⟩, b1⟩
          have ha := ha.below b1
          have hbb := hbb.below b1
          have hB := hB.below b1
          have B := B.trans (b1.mono B.size)
          clear b1
          have HC := Lib.hid (bits_num v N w1 ha)
          go_wp2_with fail
          refine (HC.out).mono ?_
          rintro e w' ⟨⟨k, rfl, hbits, hk⟩, rfl⟩
          clear HC
          obtain ⟨j, rfl, hk1, hk2⟩ := bits_pos HN.out hbits
          have hj0 : (0 : Int) < (j : Int) + 1 := by omega
          have hjn : (((j : Int) + 1) == 0) = false := by rw [beq_eq_false_iff_ne]; omega
          have hj : j ≤ 511 := by omega
          have Hk1 := Lib.hid hk1
          have Hk2 := Lib.hid hk2
          clear hbits hk hk1 hk2
          have HC := Lib.hid (refright_num ha)
          go_wp2_with fail
          refine (HC.out).mono ?_
          rintro e w' ⟨rfl, rfl⟩
          clear HC
          have HC := Lib.hid (reftext_fun ha)
          go_wp2_with fail
          refine (HC.out).mono ?_
          rintro e w2 ⟨rfl, b2⟩
          have ha := ha.below b2
          have hbb := hbb.below b2
          have hs := hs.below b2
          have hB := hB.below b2
          have B := B.trans (b2.mono B.size)
          clear b2
          clear HC
          go_wp2_with fail
          refine (power_fun j w2 (by omega)).mono ?_
          rintro e w3 ⟨rfl, b3⟩
          have ha := ha.below b3
          have hbb := hbb.below b3
          have hs := hs.below b3
          have hB := hB.below b3
          have B := B.trans (b3.mono B.size)
          clear b3
          obtain ⟨g, hg, hg0⟩ : ∃ g, sgn N (2 ^ j) = g ∧ 0 ≤ g := ⟨_, rfl, sgn_ge Hk1.out⟩
          have HC := Lib.hid (cmp_fun N (2 ^ j) w3 HN0.out (Int.le_of_lt (pow_pos2 j)) HNb.out (pow_big (by omega)))
          rw [hg] at HC
          clear hg
          go_wp2_with fail
          refine (HC.out).mono ?_
          rintro e w' ⟨rfl, rfl⟩
          clear HC
          go_wp2_with fail
          refine (power_fun (j + 1) w3 (by omega)).mono ?_
          rintro e w4 ⟨rfl, b4⟩
          have ha := ha.below b4
          have hbb := hbb.below b4
          have hs := hs.below b4
          have hB := hB.below b4
          have B := B.trans (b4.mono B.size)
          clear b4
          have HC := Lib.hid (cmp_fun N (2 ^ (j + 1)) w4 HN0.out (Int.le_of_lt (pow_pos2 (j + 1))) HNb.out (pow_big (by omega)))
          rw [sgn_less Hk2.out] at HC
          go_wp2_with fail
          refine (HC.out).mono ?_
          rintro e w' ⟨rfl, rfl⟩
          clear HC
          go_wp2_with fail
          refine (power_fun s w4 (by omega)).mono ?_
          rintro e w5 ⟨rfl, b5⟩
          have ha := ha.below b5
          have hbb := hbb.below b5
          have hs := hs.below b5
          have hB := hB.below b5
          have B := B.trans (b5.mono B.size)
          clear b5
          go_wp2_with fail
          refine (refdiv_fun N (2 ^ s) w5 HN0.out HNb.out (pow_pos2 s) (pow_pw (by omega))).mono ?_
          rintro e w6 ⟨rfl, b6⟩
          have ha := ha.below b6
          have hbb := hbb.below b6
          have hs := hs.below b6
          have hB := hB.below b6
          have B := B.trans (b6.mono B.size)
          clear b6
          go_wp2_with fail
          refine (is_ok t _ _ w6 (numStr_dec HT1.out) hs).mono ?_
          rintro e w7 ⟨rfl, b7⟩
          clear hs
          have ha := ha.below b7
          have hbb := hbb.below b7
          have hB := hB.below b7
          have B := B.trans (b7.mono B.size)
          clear b7
          have HC := Lib.hid (refright_bad hbb)
          go_wp2_with fail
          refine (HC.out).mono ?_
          rintro e w' ⟨rfl, rfl⟩
          clear HC
          go_wp2_with fail
          refine (alive_any w7 hB).mono ?_
          rintro e w8 ⟨rfl, b8⟩
          have ha := ha.below b8
          have hbb := hbb.below b8
          have hB := hB.below b8
          have B := B.trans (b8.mono B.size)
          clear b8
          go_wp2_with fail
          go_ret
          exact ⟨rfl, B⟩
  obtain ⟨M, hM⟩ : ∃ M, val ys = M := ⟨_, rfl⟩
  have hb : Num w u M := ⟨ys, htl, hry, hM⟩
  have hrm := hb.range
  clear hsl htl hrx hry hM
  by_cases hM0 : M = 0
  · subst hM0
    obtain ⟨uo, uc, rfl⟩ := hb.of_zero
    rcases hways with ⟨s, rfl, hs63⟩ | ⟨s, rfl, hs0, hs64⟩
    · have hs63 := Lib.hid hs63
      by_cases hN : N = 0
      · have hs6j : ¬ (s : Int) < -600 := by omega
        by_cases hs6i : (600 : Int) < s
        · have HN := Lib.hid hN
          have HT := Lib.hid (show N * 2 ^ s < pw 16 by rw [hN, Int.zero_mul]; exact pw_pos 16)
          have HT0 := Lib.hid (show N * 2 ^ s = 0 by rw [hN, Int.zero_mul])
          have hs63b : (s : Int) ≤ 9223372036854775807 := by have := hs63.out; omega
          clear hN hrg h20 hpp h20b
          as_aux_lemma =>
            go_wp2_with fail
            refine (div_zero v _ N w ha hb).mono ?_
            rintro e w1 ⟨rfl, b1⟩
            have ha := ha.below b1
            have hb := hb.below b1
            have hB := hB.below b1
            have B := B.trans (b1.mono B.size)
            clear b1
            go_wp2_with fail
            refine (shift_up v N s w1 ha hs63.out).mono ?_
            rintro e w2 ⟨hto, b2⟩
            obtain ⟨t, rfl, hs⟩ := hto.ok HT.out
            rw [HT0.out] at hs
            obtain ⟨so, sc, rfl⟩ := hs.of_zero
            have ha := ha.below b2
            have hb := hb.below b2
            have hB := hB.below b2
            have B := B.trans (b2.mono B.size)
            clear b2
            have HC := Lib.hid (bits_num v N w2 ha)
            go_wp2_with fail
            refine (HC.out).mono ?_
            rintro e w' ⟨⟨k, rfl, hbits, hk⟩, rfl⟩
            clear HC
            obtain rfl := bits_zero HN.out hbits
            clear hbits hk
            have HC := Lib.hid (refright_num ha)
            go_wp2_with fail
            refine (HC.out).mono ?_
            rintro e w' ⟨rfl, rfl⟩
            clear HC
            have HC := Lib.hid (reftext_fun ha)
            go_wp2_with fail
            refine (HC.out).mono ?_
            rintro e w3 ⟨rfl, b3⟩
            have ha := ha.below b3
            have hb := hb.below b3
            have hs := hs.below b3
            have hB := hB.below b3
            have B := B.trans (b3.mono B.size)
            clear b3
            clear HC
            go_wp2_with fail
            refine (power_fun 0 w3 (by omega)).mono ?_
            rintro e w4 ⟨rfl, b4⟩
            have ha := ha.below b4
            have hb := hb.below b4
            have hs := hs.below b4
            have hB := hB.below b4
            have B := B.trans (b4.mono B.size)
            clear b4
            have HC := Lib.hid (cmp_fun N (2 ^ 0) w4 HN0.out (Int.le_of_lt (pow_pos2 0)) HNb.out (pow_big (by omega)))
            rw [sgn_less (show N < 2 ^ 0 by rw [HN.out]; decide)] at HC
            go_wp2_with fail
            refine (HC.out).mono ?_
            rintro e w' ⟨rfl, rfl⟩
            clear HC
            have HC := Lib.hid (refright_num hb)
            go_wp2_with fail
            refine (HC.out).mono ?_
            rintro e w' ⟨rfl, rfl⟩
            clear HC
            go_wp2_with fail
            refine (alive_any w4 hB).mono ?_
            rintro e w5 ⟨rfl, b5⟩
            have ha := ha.below b5
            have hb := hb.below b5
            have hs := hs.below b5
            have hB := hB.below b5
            have B := B.trans (b5.mono B.size)
            clear b5
            go_wp2_with fail
            go_ret
            exact ⟨rfl, B⟩
        · have HN := Lib.hid hN
          have HT := Lib.hid (show N * 2 ^ s < pw 16 by rw [hN, Int.zero_mul]; exact pw_pos 16)
          have HT0 := Lib.hid (show N * 2 ^ s = 0 by rw [hN, Int.zero_mul])
          have hs63b : (s : Int) ≤ 9223372036854775807 := by have := hs63.out; omega
          clear hN hrg h20 hpp h20b
          as_aux_lemma =>
            go_wp2_with fail
            refine (div_zero v _ N w ha hb).mono ?_
            rintro e w1 ⟨rfl, b1⟩
            have ha := ha.below b1
            have hb := hb.below b1
            have hB := hB.below b1
            have B := B.trans (b1.mono B.size)
            clear b1
            go_wp2_with fail
            refine (shift_up v N s w1 ha hs63.out).mono ?_
            rintro e w2 ⟨hto, b2⟩
            obtain ⟨t, rfl, hs⟩ := hto.ok HT.out
            rw [HT0.out] at hs
            obtain ⟨so, sc, rfl⟩ := hs.of_zero
            have ha := ha.below b2
            have hb := hb.below b2
            have hB := hB.below b2
            have B := B.trans (b2.mono B.size)
            clear b2
            have HC := Lib.hid (bits_num v N w2 ha)
            go_wp2_with fail
            refine (HC.out).mono ?_
            rintro e w' ⟨⟨k, rfl, hbits, hk⟩, rfl⟩
            clear HC
            obtain rfl := bits_zero HN.out hbits
            clear hbits hk
            have HC := Lib.hid (refright_num ha)
            go_wp2_with fail
            refine (HC.out).mono ?_
            rintro e w' ⟨rfl, rfl⟩
            clear HC
            have HC := Lib.hid (reftext_fun ha)
            go_wp2_with fail
            refine (HC.out).mono ?_
            rintro e w3 ⟨rfl, b3⟩
            have ha := ha.below b3
            have hb := hb.below b3
            have hs := hs.below b3
            have hB := hB.below b3
            have B := B.trans (b3.mono B.size)
            clear b3
            clear HC
            go_wp2_with fail
            refine (power_fun 0 w3 (by omega)).mono ?_
            rintro e w4 ⟨rfl, b4⟩
            have ha := ha.below b4
            have hb := hb.below b4
            have hs := hs.below b4
            have hB := hB.below b4
            have B := B.trans (b4.mono B.size)
            clear b4
            have HC := Lib.hid (cmp_fun N (2 ^ 0) w4 HN0.out (Int.le_of_lt (pow_pos2 0)) HNb.out (pow_big (by omega)))
            rw [sgn_less (show N < 2 ^ 0 by rw [HN.out]; decide)] at HC
            go_wp2_with fail
            refine (HC.out).mono ?_
            rintro e w' ⟨rfl, rfl⟩
            clear HC
            have HC := Lib.hid (refright_num hb)
            go_wp2_with fail
            refine (HC.out).mono ?_
            rintro e w' ⟨rfl, rfl⟩
            clear HC
            go_wp2_with fail
            refine (alive_any w4 hB).mono ?_
            rintro e w5 ⟨rfl, b5⟩
            have ha := ha.below b5
            have hb := hb.below b5
            have hs := hs.below b5
            have hB := hB.below b5
            have B := B.trans (b5.mono B.size)
            clear b5
            go_wp2_with fail
            go_ret
            exact ⟨rfl, B⟩
      have HN := Lib.hid (show 0 < N by omega)
      by_cases hs6 : 600 < s
      · have HT := Lib.hid (shift_more (t := s) HN.out (by omega))
        have hs6b : (600 : Int) < s := by omega
        clear hN hrg h20 hpp h20b
        as_aux_lemma =>
          go_wp2_with fail
          refine (div_zero v _ N w ha hb).mono ?_
          rintro e w1 ⟨rfl, b1⟩
          have ha := ha.below b1
          have hb := hb.below b1
          have hB := hB.below b1
          have B := B.trans (b1.mono B.size)
          clear b1
          go_wp2_with fail
          refine (shift_up v N s w1 ha hs63.out).mono ?_
          rintro e w2 ⟨hto, b2⟩
          obtain rfl := hto.over HT.out
          have ha := ha.below b2
          have hb := hb.below b2
          have hB := hB.below b2
          have B := B.trans (b2.mono B.size)
          clear b2
          have HC := Lib.hid (bits_num v N w2 ha)
          go_wp2_with fail
          refine (HC.out).mono ?_
          rintro e w' ⟨⟨k, rfl, hbits, hk⟩, rfl⟩
          clear HC
          obtain ⟨j, rfl, hk1, hk2⟩ := bits_pos HN.out hbits
          have hj0 : (0 : Int) < (j : Int) + 1 := by omega
          have hjn : (((j : Int) + 1) == 0) = false := by rw [beq_eq_false_iff_ne]; omega
          have hj : j ≤ 511 := by omega
          have Hk1 := Lib.hid hk1
          have Hk2 := Lib.hid hk2
          clear hbits hk hk1 hk2
          have HC := Lib.hid (refright_num ha)
          go_wp2_with fail
          refine (HC.out).mono ?_
          rintro e w' ⟨rfl, rfl⟩
          clear HC
          have HC := Lib.hid (reftext_fun ha)
          go_wp2_with fail
          refine (HC.out).mono ?_
          rintro e w3 ⟨rfl, b3⟩
          have ha := ha.below b3
          have hb := hb.below b3
          have hB := hB.below b3
          have B := B.trans (b3.mono B.size)
          clear b3
          clear HC
          go_wp2_with fail
          refine (power_fun j w3 (by omega)).mono ?_
          rintro e w4 ⟨rfl, b4⟩
          have ha := ha.below b4
          have hb := hb.below b4
          have hB := hB.below b4
          have B := B.trans (b4.mono B.size)
          clear b4
          obtain ⟨g, hg, hg0⟩ : ∃ g, sgn N (2 ^ j) = g ∧ 0 ≤ g := ⟨_, rfl, sgn_ge Hk1.out⟩
          have HC := Lib.hid (cmp_fun N (2 ^ j) w4 HN0.out (Int.le_of_lt (pow_pos2 j)) HNb.out (pow_big (by omega)))
          rw [hg] at HC
          clear hg
          go_wp2_with fail
          refine (HC.out).mono ?_
          rintro e w' ⟨rfl, rfl⟩
          clear HC
          go_wp2_with fail
          refine (power_fun (j + 1) w4 (by omega)).mono ?_
          rintro e w5 ⟨rfl, b5⟩
          have ha := ha.below b5
          have hb := hb.below b5
          have hB := hB.below b5
          have B := B.trans (b5.mono B.size)
          clear b5
          have HC := Lib.hid (cmp_fun N (2 ^ (j + 1)) w5 HN0.out (Int.le_of_lt (pow_pos2 (j + 1))) HNb.out (pow_big (by omega)))
          rw [sgn_less Hk2.out] at HC
          go_wp2_with fail
          refine (HC.out).mono ?_
          rintro e w' ⟨rfl, rfl⟩
          clear HC
          have HC := Lib.hid (refright_num hb)
          go_wp2_with fail
          refine (HC.out).mono ?_
          rintro e w' ⟨rfl, rfl⟩
          clear HC
          go_wp2_with fail
          refine (alive_any w5 hB).mono ?_
          rintro e w6 ⟨rfl, b6⟩
          have ha := ha.below b6
          have hb := hb.below b6
          have hB := hB.below b6
          have B := B.trans (b6.mono B.size)
          clear b6
          go_wp2_with fail
          go_ret
          exact ⟨rfl, B⟩
      have hs6b : ¬ (600 : Int) < s := by omega
      have hs6c : ¬ (s : Int) < -600 := by omega
      have hs6d : (0 : Int) ≤ s := by omega
      have HT1 := Lib.hid (show 0 ≤ N * 2 ^ s from Int.mul_nonneg hrg.1 (Int.le_of_lt (pow_pos2 s)))
      have HTb := Lib.hid (show N * 2 ^ s < big by have := Int.mul_le_mul (show N ≤ pw 16 by omega) (Int.le_of_lt (pow_pw (n := s) (by omega))) (Int.le_of_lt (pow_pos2 s)) (show 0 ≤ pw 16 by omega); omega)
      by_cases hT : N * 2 ^ s < pw 16
      · have HT := Lib.hid hT
        clear hN hrg h20 hpp h20b hT
        as_aux_lemma =>
          go_wp2_with fail
          refine (div_zero v _ N w ha hb).mono ?_
          rintro e w1 ⟨rfl, b1⟩
          have ha := ha.below b1
          have hb := hb.below b1
          have hB := hB.below b1
          have B := B.trans (b1.mono B.size)
          clear b1
          go_wp2_with fail
          refine (shift_up v N s w1 ha hs63.out).mono ?_
          rintro e w2 ⟨hto, b2⟩
          obtain ⟨t, rfl, hs⟩ := hto.ok HT.out
          have ha := ha.below b2
          have hb := hb.below b2
          have hB := hB.below b2
          have B := B.trans (b2.mono B.size)
          clear b2
          have HC := Lib.hid (bits_num v N w2 ha)
          go_wp2_with fail
          refine (HC.out).mono ?_
          rintro e w' ⟨⟨k, rfl, hbits, hk⟩, rfl⟩
          clear HC
          obtain ⟨j, rfl, hk1, hk2⟩ := bits_pos HN.out hbits
          have hj0 : (0 : Int) < (j : Int) + 1 := by omega
          have hjn : (((j : Int) + 1) == 0) = false := by rw [beq_eq_false_iff_ne]; omega
          have hj : j ≤ 511 := by omega
          have Hk1 := Lib.hid hk1
          have Hk2 := Lib.hid hk2
          clear hbits hk hk1 hk2
          have HC := Lib.hid (refright_num ha)
          go_wp2_with fail
          refine (HC.out).mono ?_
          rintro e w' ⟨rfl, rfl⟩
          clear HC
          have HC := Lib.hid (reftext_fun ha)
          go_wp2_with fail
          refine (HC.out).mono ?_
          rintro e w3 ⟨rfl, b3⟩
          have ha := ha.below b3
          have hb := hb.below b3
          have hs := hs.below b3
          have hB := hB.below b3
          have B := B.trans (b3.mono B.size)
          clear b3
          clear HC
          go_wp2_with fail
          refine (power_fun j w3 (by omega)).mono ?_
          rintro e w4 ⟨rfl, b4⟩
          have ha := ha.below b4
          have hb := hb.below b4
          have hs := hs.below b4
          have hB := hB.below b4
          have B := B.trans (b4.mono B.size)
          clear b4
          obtain ⟨g, hg, hg0⟩ : ∃ g, sgn N (2 ^ j) = g ∧ 0 ≤ g := ⟨_, rfl, sgn_ge Hk1.out⟩
          have HC := Lib.hid (cmp_fun N (2 ^ j) w4 HN0.out (Int.le_of_lt (pow_pos2 j)) HNb.out (pow_big (by omega)))
          rw [hg] at HC
          clear hg
          go_wp2_with fail
          refine (HC.out).mono ?_
          rintro e w' ⟨rfl, rfl⟩
          clear HC
          go_wp2_with fail
          refine (power_fun (j + 1) w4 (by omega)).mono ?_
          rintro e w5 ⟨rfl, b5⟩
          have ha := ha.below b5
          have hb := hb.below b5
          have hs := hs.below b5
          have hB := hB.below b5
          have B := B.trans (b5.mono B.size)
          clear b5
          have HC := Lib.hid (cmp_fun N (2 ^ (j + 1)) w5 HN0.out (Int.le_of_lt (pow_pos2 (j + 1))) HNb.out (pow_big (by omega)))
          rw [sgn_less Hk2.out] at HC
          go_wp2_with fail
          refine (HC.out).mono ?_
          rintro e w' ⟨rfl, rfl⟩
          clear HC
          go_wp2_with fail
          refine (power_fun s w5 (by omega)).mono ?_
          rintro e w6 ⟨rfl, b6⟩
          have ha := ha.below b6
          have hb := hb.below b6
          have hs := hs.below b6
          have hB := hB.below b6
          have B := B.trans (b6.mono B.size)
          clear b6
          go_wp2_with fail
          refine (refmul_wide N (2 ^ s) w6 HN0.out (Int.le_of_lt (pow_pos2 s)) HN20.out (pow_pw (by omega))).mono ?_
          rintro e w7 ⟨rfl, b7⟩
          have ha := ha.below b7
          have hb := hb.below b7
          have hs := hs.below b7
          have hB := hB.below b7
          have B := B.trans (b7.mono B.size)
          clear b7
          go_wp2_with fail
          refine (is_ok t _ _ w7 (numStr_dec HT1.out) hs).mono ?_
          rintro e w8 ⟨rfl, b8⟩
          clear hs
          have ha := ha.below b8
          have hb := hb.below b8
          have hB := hB.below b8
          have B := B.trans (b8.mono B.size)
          clear b8
          have HC := Lib.hid (refright_num hb)
          go_wp2_with fail
          refine (HC.out).mono ?_
          rintro e w' ⟨rfl, rfl⟩
          clear HC
          go_wp2_with fail
          refine (alive_any w8 hB).mono ?_
          rintro e w9 ⟨rfl, b9⟩
          have ha := ha.below b9
          have hb := hb.below b9
          have hB := hB.below b9
          have B := B.trans (b9.mono B.size)
          clear b9
          go_wp2_with fail
          go_ret
          exact ⟨rfl, B⟩
      · have HT := Lib.hid (Int.not_lt.1 hT)
        clear hN hrg h20 hpp h20b hT
        as_aux_lemma =>
          go_wp2_with fail
          refine (div_zero v _ N w ha hb).mono ?_
          rintro e w1 ⟨rfl, b1⟩
          have ha := ha.below b1
          have hb := hb.below b1
          have hB := hB.below b1
          have B := B.trans (b1.mono B.size)
          clear b1
          go_wp2_with fail
          refine (shift_up v N s w1 ha hs63.out).mono ?_
          rintro e w2 ⟨hto, b2⟩
          obtain rfl := hto.over HT.out
          have ha := ha.below b2
          have hb := hb.below b2
          have hB := hB.below b2
          have B := B.trans (b2.mono B.size)
          clear b2
          have HC := Lib.hid (bits_num v N w2 ha)
          go_wp2_with fail
          refine (HC.out).mono ?_
          rintro e w' ⟨⟨k, rfl, hbits, hk⟩, rfl⟩
          clear HC
          obtain ⟨j, rfl, hk1, hk2⟩ := bits_pos HN.out hbits
          have hj0 : (0 : Int) < (j : Int) + 1 := by omega
          have hjn : (((j : Int) + 1) == 0) = false := by rw [beq_eq_false_iff_ne]; omega
          have hj : j ≤ 511 := by omega
          have Hk1 := Lib.hid hk1
          have Hk2 := Lib.hid hk2
          clear hbits hk hk1 hk2
          have HC := Lib.hid (refright_num ha)
          go_wp2_with fail
          refine (HC.out).mono ?_
          rintro e w' ⟨rfl, rfl⟩
          clear HC
          have HC := Lib.hid (reftext_fun ha)
          go_wp2_with fail
          refine (HC.out).mono ?_
          rintro e w3 ⟨rfl, b3⟩
          have ha := ha.below b3
          have hb := hb.below b3
          have hB := hB.below b3
          have B := B.trans (b3.mono B.size)
          clear b3
          clear HC
          go_wp2_with fail
          refine (power_fun j w3 (by omega)).mono ?_
          rintro e w4 ⟨rfl, b4⟩
          have ha := ha.below b4
          have hb := hb.below b4
          have hB := hB.below b4
          have B := B.trans (b4.mono B.size)
          clear b4
          obtain ⟨g, hg, hg0⟩ : ∃ g, sgn N (2 ^ j) = g ∧ 0 ≤ g := ⟨_, rfl, sgn_ge Hk1.out⟩
          have HC := Lib.hid (cmp_fun N (2 ^ j) w4 HN0.out (Int.le_of_lt (pow_pos2 j)) HNb.out (pow_big (by omega)))
          rw [hg] at HC
          clear hg
          go_wp2_with fail
          refine (HC.out).mono ?_
          rintro e w' ⟨rfl, rfl⟩
          clear HC
          go_wp2_with fail
          refine (power_fun (j + 1) w4 (by omega)).mono ?_
          rintro e w5 ⟨rfl, b5⟩
          have ha := ha.below b5
          have hb := hb.below b5
          have hB := hB.below b5
          have B := B.trans (b5.mono B.size)
          clear b5
          have HC := Lib.hid (cmp_fun N (2 ^ (j + 1)) w5 HN0.out (Int.le_of_lt (pow_pos2 (j + 1))) HNb.out (pow_big (by omega)))
          rw [sgn_less Hk2.out] at HC
          go_wp2_with fail
          refine (HC.out).mono ?_
          rintro e w' ⟨rfl, rfl⟩
          clear HC
          go_wp2_with fail
          refine (power_fun s w5 (by omega)).mono ?_
          rintro e w6 ⟨rfl, b6⟩
          have ha := ha.below b6
          have hb := hb.below b6
          have hB := hB.below b6
          have B := B.trans (b6.mono B.size)
          clear b6
          go_wp2_with fail
          refine (refmul_wide N (2 ^ s) w6 HN0.out (Int.le_of_lt (pow_pos2 s)) HN20.out (pow_pw (by omega))).mono ?_
          rintro e w7 ⟨rfl, b7⟩
          have ha := ha.below b7
          have hb := hb.below b7
          have hB := hB.below b7
          have B := B.trans (b7.mono B.size)
          clear b7
          go_wp2_with fail
          refine (is_over _ _ w7 (numStr_dec HT1.out) HTb.out HT.out).mono ?_
          rintro e w8 ⟨rfl, b8⟩
          have ha := ha.below b8
          have hb := hb.below b8
          have hB := hB.below b8
          have B := B.trans (b8.mono B.size)
          clear b8
          have HC := Lib.hid (refright_num hb)
          go_wp2_with fail
          refine (HC.out).mono ?_
          rintro e w' ⟨rfl, rfl⟩
          clear HC
          go_wp2_with fail
          refine (alive_any w8 hB).mono ?_
          rintro e w9 ⟨rfl, b9⟩
          have ha := ha.below b9
          have hb := hb.below b9
          have hB := hB.below b9
          have B := B.trans (b9.mono B.size)
          clear b9
          go_wp2_with fail
          go_ret
          exact ⟨rfl, B⟩
    · have hs64 := Lib.hid hs64
      have hs0i : (0 : Int) < s := by omega
      have hs0j : ¬ (600 : Int) < -(s : Int) := by omega
      have hs0k : ¬ (0 : Int) ≤ -(s : Int) := by omega
      have hs0l : -(s : Int) < 0 := by omega
      have hs0 := Lib.hid hs0
      by_cases hN : N = 0
      · by_cases hs6i : -(s : Int) < -600
        · have HN := Lib.hid hN
          have HT0 := Lib.hid (show N / 2 ^ s = 0 by rw [hN, Int.zero_ediv])
          clear hN hrg h20 hpp h20b
          as_aux_lemma =>
            go_wp2_with fail
            refine (div_zero v _ N w ha hb).mono ?_
            rintro e w1 ⟨rfl, b1⟩
            have ha := ha.below b1
            have hb := hb.below b1
            have hB := hB.below b1
            have B := B.trans (b1.mono B.size)
            clear b1
            go_wp2_with fail
            refine (shift_down v N s w1 ha hs0.out hs64.out).mono ?_
            rintro e w2 ⟨⟨t, rfl, hs⟩, b2⟩
            rw [HT0.out] at hs
            obtain ⟨so, sc, rfl⟩ := hs.of_zero
            have ha := ha.below b2
            have hb := hb.below b2
            have hB := hB.below b2
            have B := B.trans (b2.mono B.size)
            clear b2
            have HC := Lib.hid (bits_num v N w2 ha)
            go_wp2_with fail
            refine (HC.out).mono ?_
            rintro e w' ⟨⟨k, rfl, hbits, hk⟩, rfl⟩
            clear HC
            obtain rfl := bits_zero HN.out hbits
            clear hbits hk
            have HC := Lib.hid (refright_num ha)
            go_wp2_with fail
            refine (HC.out).mono ?_
            rintro e w' ⟨rfl, rfl⟩
            clear HC
            have HC := Lib.hid (reftext_fun ha)
            go_wp2_with fail
            refine (HC.out).mono ?_
            rintro e w3 ⟨rfl, b3⟩
            have ha := ha.below b3
            have hb := hb.below b3
            have hs := hs.below b3
            have hB := hB.below b3
            have B := B.trans (b3.mono B.size)
            clear b3
            clear HC
            go_wp2_with fail
            refine (power_fun 0 w3 (by omega)).mono ?_
            rintro e w4 ⟨rfl, b4⟩
            have ha := ha.below b4
            have hb := hb.below b4
            have hs := hs.below b4
            have hB := hB.below b4
            have B := B.trans (b4.mono B.size)
            clear b4
            have HC := Lib.hid (cmp_fun N (2 ^ 0) w4 HN0.out (Int.le_of_lt (pow_pos2 0)) HNb.out (pow_big (by omega)))
            rw [sgn_less (show N < 2 ^ 0 by rw [HN.out]; decide)] at HC
            go_wp2_with fail
            refine (HC.out).mono ?_
            rintro e w' ⟨rfl, rfl⟩
            clear HC
            have HC := Lib.hid (refright_num hb)
            go_wp2_with fail
            refine (HC.out).mono ?_
            rintro e w' ⟨rfl, rfl⟩
            clear HC
            go_wp2_with fail
            refine (alive_any w4 hB).mono ?_
            rintro e w5 ⟨rfl, b5⟩
            have ha := ha.below b5
            have hb := hb.below b5
            have hs := hs.below b5
            have hB := hB.below b5
            have B := B.trans (b5.mono B.size)
            clear b5
            go_wp2_with fail
            go_ret
            exact ⟨rfl, B⟩
        · have HN := Lib.hid hN
          have HT0 := Lib.hid (show N / 2 ^ s = 0 by rw [hN, Int.zero_ediv])
          clear hN hrg h20 hpp h20b
          as_aux_lemma =>
            go_wp2_with fail
            refine (div_zero v _ N w ha hb).mono ?_
            rintro e w1 ⟨rfl, b1⟩
            have ha := ha.below b1
            have hb := hb.below b1
            have hB := hB.below b1
            have B := B.trans (b1.mono B.size)
            clear b1
            go_wp2_with fail
            refine (shift_down v N s w1 ha hs0.out hs64.out).mono ?_
            rintro e w2 ⟨⟨t, rfl, hs⟩, b2⟩
            rw [HT0.out] at hs
            obtain ⟨so, sc, rfl⟩ := hs.of_zero
            have ha := ha.below b2
            have hb := hb.below b2
            have hB := hB.below b2
            have B := B.trans (b2.mono B.size)
            clear b2
            have HC := Lib.hid (bits_num v N w2 ha)
            go_wp2_with fail
            refine (HC.out).mono ?_
            rintro e w' ⟨⟨k, rfl, hbits, hk⟩, rfl⟩
            clear HC
            obtain rfl := bits_zero HN.out hbits
            clear hbits hk
            have HC := Lib.hid (refright_num ha)
            go_wp2_with fail
            refine (HC.out).mono ?_
            rintro e w' ⟨rfl, rfl⟩
            clear HC
            have HC := Lib.hid (reftext_fun ha)
            go_wp2_with fail
            refine (HC.out).mono ?_
            rintro e w3 ⟨rfl, b3⟩
            have ha := ha.below b3
            have hb := hb.below b3
            have hs := hs.below b3
            have hB := hB.below b3
            have B := B.trans (b3.mono B.size)
            clear b3
            clear HC
            go_wp2_with fail
            refine (power_fun 0 w3 (by omega)).mono ?_
            rintro e w4 ⟨rfl, b4⟩
            have ha := ha.below b4
            have hb := hb.below b4
            have hs := hs.below b4
            have hB := hB.below b4
            have B := B.trans (b4.mono B.size)
            clear b4
            have HC := Lib.hid (cmp_fun N (2 ^ 0) w4 HN0.out (Int.le_of_lt (pow_pos2 0)) HNb.out (pow_big (by omega)))
            rw [sgn_less (show N < 2 ^ 0 by rw [HN.out]; decide)] at HC
            go_wp2_with fail
            refine (HC.out).mono ?_
            rintro e w' ⟨rfl, rfl⟩
            clear HC
            have HC := Lib.hid (refright_num hb)
            go_wp2_with fail
            refine (HC.out).mono ?_
            rintro e w' ⟨rfl, rfl⟩
            clear HC
            go_wp2_with fail
            refine (alive_any w4 hB).mono ?_
            rintro e w5 ⟨rfl, b5⟩
            have ha := ha.below b5
            have hb := hb.below b5
            have hs := hs.below b5
            have hB := hB.below b5
            have B := B.trans (b5.mono B.size)
            clear b5
            go_wp2_with fail
            go_ret
            exact ⟨rfl, B⟩
      have HN := Lib.hid (show 0 < N by omega)
      by_cases hs6 : 600 < s
      · have HT0 := Lib.hid (shift_far (t := s) hrg.1 hrg.2 (by omega))
        have hs6b : -(s : Int) < -600 := by omega
        clear hN hrg h20 hpp h20b
        as_aux_lemma =>
          go_wp2_with fail
          refine (div_zero v _ N w ha hb).mono ?_
          rintro e w1 ⟨rfl, b1⟩
          have ha := ha.below b1
          have hb := hb.below b1
          have hB := hB.below b1
          have B := B.trans (b1.mono B.size)
          clear b1
          go_wp2_with fail
          refine (shift_down v N s w1 ha hs0.out hs64.out).mono ?_
          rintro e w2 ⟨⟨t, rfl, hs⟩, b2⟩
          rw [HT0.out] at hs
          obtain ⟨so, sc, rfl⟩ := hs.of_zero
          have ha := ha.below b2
          have hb := hb.below b2
          have hB := hB.below b2
          have B := B.trans (b2.mono B.size)
          clear b2
          have HC := Lib.hid (bits_num v N w2 ha)
          go_wp2_with fail
          refine (HC.out).mono ?_
          rintro e w' ⟨⟨k, rfl, hbits, hk⟩, rfl⟩
          clear HC
          obtain ⟨j, rfl, hk1, hk2⟩ := bits_pos HN.out hbits
          have hj0 : (0 : Int) < (j : Int) + 1 := by omega
          have hjn : (((j : Int) + 1) == 0) = false := by rw [beq_eq_false_iff_ne]; omega
          have hj : j ≤ 511 := by omega
          have Hk1 := Lib.hid hk1
          have Hk2 := Lib.hid hk2
          clear hbits hk hk1 hk2
          have HC := Lib.hid (refright_num ha)
          go_wp2_with fail
          refine (HC.out).mono ?_
          rintro e w' ⟨rfl, rfl⟩
          clear HC
          have HC := Lib.hid (reftext_fun ha)
          go_wp2_with fail
          refine (HC.out).mono ?_
          rintro e w3 ⟨rfl, b3⟩
          have ha := ha.below b3
          have hb := hb.below b3
          have hs := hs.below b3
          have hB := hB.below b3
          have B := B.trans (b3.mono B.size)
          clear b3
          clear HC
          go_wp2_with fail
          refine (power_fun j w3 (by omega)).mono ?_
          rintro e w4 ⟨rfl, b4⟩
          have ha := ha.below b4
          have hb := hb.below b4
          have hs := hs.below b4
          have hB := hB.below b4
          have B := B.trans (b4.mono B.size)
          clear b4
          obtain ⟨g, hg, hg0⟩ : ∃ g, sgn N (2 ^ j) = g ∧ 0 ≤ g := ⟨_, rfl, sgn_ge Hk1.out⟩
          have HC := Lib.hid (cmp_fun N (2 ^ j) w4 HN0.out (Int.le_of_lt (pow_pos2 j)) HNb.out (pow_big (by omega)))
          rw [hg] at HC
          clear hg
          go_wp2_with fail
          refine (HC.out).mono ?_
          rintro e w' ⟨rfl, rfl⟩
          clear HC
          go_wp2_with fail
          refine (power_fun (j + 1) w4 (by omega)).mono ?_
          rintro e w5 ⟨rfl, b5⟩
          have ha := ha.below b5
          have hb := hb.below b5
          have hs := hs.below b5
          have hB := hB.below b5
          have B := B.trans (b5.mono B.size)
          clear b5
          have HC := Lib.hid (cmp_fun N (2 ^ (j + 1)) w5 HN0.out (Int.le_of_lt (pow_pos2 (j + 1))) HNb.out (pow_big (by omega)))
          rw [sgn_less Hk2.out] at HC
          go_wp2_with fail
          refine (HC.out).mono ?_
          rintro e w' ⟨rfl, rfl⟩
          clear HC
          have HC := Lib.hid (refright_num hb)
          go_wp2_with fail
          refine (HC.out).mono ?_
          rintro e w' ⟨rfl, rfl⟩
          clear HC
          go_wp2_with fail
          refine (alive_any w5 hB).mono ?_
          rintro e w6 ⟨rfl, b6⟩
          have ha := ha.below b6
          have hb := hb.below b6
          have hs := hs.below b6
          have hB := hB.below b6
          have B := B.trans (b6.mono B.size)
          clear b6
          go_wp2_with fail
          go_ret
          exact ⟨rfl, B⟩
      have hs6b : ¬ -(s : Int) < -600 := by omega
      have HT1 := Lib.hid (show 0 ≤ N / 2 ^ s from Int.ediv_nonneg hrg.1 (Int.le_of_lt (pow_pos2 s)))
      · clear hN hrg h20 hpp h20b
        as_aux_lemma =>
          go_wp2_with fail
          refine (div_zero v _ N w ha hb).mono ?_
          rintro e w1 ⟨rfl, b1⟩
          have ha := ha.below b1
          have hb := hb.below b1
          have hB := hB.below b1
          have B := B.trans (b1.mono B.size)
          clear b1
          go_wp2_with fail
          refine (shift_down v N s w1 ha hs0.out hs64.out).mono ?_
          rintro e w2 ⟨⟨t, rfl, hs⟩, b2⟩
          have ha := ha.below b2
          have hb := hb.below b2
          have hB := hB.below b2
          have B := B.trans (b2.mono B.size)
          clear b2
          have HC := Lib.hid (bits_num v N w2 ha)
          go_wp2_with fail
          refine (HC.out).mono ?_
          rintro e w' ⟨⟨k, rfl, hbits, hk⟩, rfl⟩
          clear HC
          obtain ⟨j, rfl, hk1, hk2⟩ := bits_pos HN.out hbits
          have hj0 : (0 : Int) < (j : Int) + 1 := by omega
          have hjn : (((j : Int) + 1) == 0) = false := by rw [beq_eq_false_iff_ne]; omega
          have hj : j ≤ 511 := by omega
          have Hk1 := Lib.hid hk1
          have Hk2 := Lib.hid hk2
          clear hbits hk hk1 hk2
          have HC := Lib.hid (refright_num ha)
          go_wp2_with fail
          refine (HC.out).mono ?_
          rintro e w' ⟨rfl, rfl⟩
          clear HC
          have HC := Lib.hid (reftext_fun ha)
          go_wp2_with fail
          refine (HC.out).mono ?_
          rintro e w3 ⟨rfl, b3⟩
          have ha := ha.below b3
          have hb := hb.below b3
          have hs := hs.below b3
          have hB := hB.below b3
          have B := B.trans (b3.mono B.size)
          clear b3
          clear HC
          go_wp2_with fail
          refine (power_fun j w3 (by omega)).mono ?_
          rintro e w4 ⟨rfl, b4⟩
          have ha := ha.below b4
          have hb := hb.below b4
          have hs := hs.below b4
          have hB := hB.below b4
          have B := B.trans (b4.mono B.size)
          clear b4
          obtain ⟨g, hg, hg0⟩ : ∃ g, sgn N (2 ^ j) = g ∧ 0 ≤ g := ⟨_, rfl, sgn_ge Hk1.out⟩
          have HC := Lib.hid (cmp_fun N (2 ^ j) w4 HN0.out (Int.le_of_lt (pow_pos2 j)) HNb.out (pow_big (by omega)))
          rw [hg] at HC
          clear hg
          go_wp2_with fail
          refine (HC.out).mono ?_
          rintro e w' ⟨rfl, rfl⟩
          clear HC
          go_wp2_with fail
          refine (power_fun (j + 1) w4 (by omega)).mono ?_
          rintro e w5 ⟨rfl, b5⟩
          have ha := ha.below b5
          have hb := hb.below b5
          have hs := hs.below b5
          have hB := hB.below b5
          have B := B.trans (b5.mono B.size)
          clear b5
          have HC := Lib.hid (cmp_fun N (2 ^ (j + 1)) w5 HN0.out (Int.le_of_lt (pow_pos2 (j + 1))) HNb.out (pow_big (by omega)))
          rw [sgn_less Hk2.out] at HC
          go_wp2_with fail
          refine (HC.out).mono ?_
          rintro e w' ⟨rfl, rfl⟩
          clear HC
          go_wp2_with fail
          refine (power_fun s w5 (by omega)).mono ?_
          rintro e w6 ⟨rfl, b6⟩
          have ha := ha.below b6
          have hb := hb.below b6
          have hs := hs.below b6
          have hB := hB.below b6
          have B := B.trans (b6.mono B.size)
          clear b6
          go_wp2_with fail
          refine (refdiv_fun N (2 ^ s) w6 HN0.out HNb.out (pow_pos2 s) (pow_pw (by omega))).mono ?_
          rintro e w7 ⟨rfl, b7⟩
          have ha := ha.below b7
          have hb := hb.below b7
          have hs := hs.below b7
          have hB := hB.below b7
          have B := B.trans (b7.mono B.size)
          clear b7
          go_wp2_with fail
          refine (is_ok t _ _ w7 (numStr_dec HT1.out) hs).mono ?_
          rintro e w8 ⟨rfl, b8⟩
          clear hs
          have ha := ha.below b8
          have hb := hb.below b8
          have hB := hB.below b8
          have B := B.trans (b8.mono B.size)
          clear b8
          have HC := Lib.hid (refright_num hb)
          go_wp2_with fail
          refine (HC.out).mono ?_
          rintro e w' ⟨rfl, rfl⟩
          clear HC
          go_wp2_with fail
          refine (alive_any w8 hB).mono ?_
          rintro e w9 ⟨rfl, b9⟩
          have ha := ha.below b9
          have hb := hb.below b9
          have hB := hB.below b9
          have B := B.trans (b9.mono B.size)
          clear b9
          go_wp2_with fail
          go_ret
          exact ⟨rfl, B⟩
  have HMp := Lib.hid (show 0 < M by omega)
  have HM20 := Lib.hid (show M < pw 20 by omega)
  have HQ0 := Lib.hid (show 0 ≤ N / M from Int.ediv_nonneg hrg.1 hrm.1)
  have HR0 := Lib.hid (show 0 ≤ N % M from Int.emod_nonneg _ hM0)
  obtain ⟨uo, un, uc, rfl, -, un0, -, -⟩ := hb.len
  have hun : ((un : Int) == 0) = false := by
    rw [beq_eq_false_iff_ne]; intro h; exact hM0 (un0.1 (by omega))
  clear hrm hM0 un0
  rcases hways with ⟨s, rfl, hs63⟩ | ⟨s, rfl, hs0, hs64⟩
  · have hs63 := Lib.hid hs63
    by_cases hN : N = 0
    · have hs6j : ¬ (s : Int) < -600 := by omega
      by_cases hs6i : (600 : Int) < s
      · have HN := Lib.hid hN
        have HT := Lib.hid (show N * 2 ^ s < pw 16 by rw [hN, Int.zero_mul]; exact pw_pos 16)
        have HT0 := Lib.hid (show N * 2 ^ s = 0 by rw [hN, Int.zero_mul])
        have hs63b : (s : Int) ≤ 9223372036854775807 := by have := hs63.out; omega
        clear hN hrg h20 hpp h20b
        as_aux_lemma =>
          go_wp2_with fail
          refine (div_num v _ N M w ha hb HMp.out).mono ?_
          rintro e w1 ⟨⟨q, r, rfl, hq, hr⟩, b1⟩
          have ha := ha.below b1
          have hb := hb.below b1
          have hB := hB.below b1
          have B := B.trans (b1.mono B.size)
          clear b1
          go_wp2_with fail
          refine (shift_up v N s w1 ha hs63.out).mono ?_
          rintro e w2 ⟨hto, b2⟩
          obtain ⟨t, rfl, hs⟩ := hto.ok HT.out
          rw [HT0.out] at hs
          obtain ⟨so, sc, rfl⟩ := hs.of_zero
          have ha := ha.below b2
          have hb := hb.below b2
          have hq := hq.below b2
          have hr := hr.below b2
          have hB := hB.below b2
          have B := B.trans (b2.mono B.size)
          clear b2
          have HC := Lib.hid (bits_num v N w2 ha)
          go_wp2_with fail
          refine (HC.out).mono ?_
          rintro e w' ⟨⟨k, rfl, hbits, hk⟩, rfl⟩
          clear HC
          obtain rfl := bits_zero HN.out hbits
          clear hbits hk
          have HC := Lib.hid (refright_num ha)
          go_wp2_with fail
          refine (HC.out).mono ?_
          rintro e w' ⟨rfl, rfl⟩
          clear HC
          have HC := Lib.hid (reftext_fun ha)
          go_wp2_with fail
          refine (HC.out).mono ?_
          rintro e w3 ⟨rfl, b3⟩
          have ha := ha.below b3
          have hb := hb.below b3
          have hq := hq.below b3
          have hr := hr.below b3
          have hs := hs.below b3
          have hB := hB.below b3
          have B := B.trans (b3.mono B.size)
          clear b3
          clear HC
          go_wp2_with fail
          refine (power_fun 0 w3 (by omega)).mono ?_
          rintro e w4 ⟨rfl, b4⟩
          have ha := ha.below b4
          have hb := hb.below b4
          have hq := hq.below b4
          have hr := hr.below b4
          have hs := hs.below b4
          have hB := hB.below b4
          have B := B.trans (b4.mono B.size)
          clear b4
          have HC := Lib.hid (cmp_fun N (2 ^ 0) w4 HN0.out (Int.le_of_lt (pow_pos2 0)) HNb.out (pow_big (by omega)))
          rw [sgn_less (show N < 2 ^ 0 by rw [HN.out]; decide)] at HC
          go_wp2_with fail
          refine (HC.out).mono ?_
          rintro e w' ⟨rfl, rfl⟩
          clear HC
          have HC := Lib.hid (refright_num hb)
          go_wp2_with fail
          refine (HC.out).mono ?_
          rintro e w' ⟨rfl, rfl⟩
          clear HC
          have HC := Lib.hid (reftext_fun hb)
          go_wp2_with fail
          refine (HC.out).mono ?_
          rintro e w5 ⟨rfl, b5⟩
          have ha := ha.below b5
          have hb := hb.below b5
          have hq := hq.below b5
          have hr := hr.below b5
          have hs := hs.below b5
          have hB := hB.below b5
          have B := B.trans (b5.mono B.size)
          clear b5
          clear HC
          go_wp2_with fail
          refine (refdiv_fun N M w5 HN0.out HNb.out HMp.out HM20.out).mono ?_
          rintro e w6 ⟨rfl, b6⟩
          have ha := ha.below b6
          have hb := hb.below b6
          have hq := hq.below b6
          have hr := hr.below b6
          have hs := hs.below b6
          have hB := hB.below b6
          have B := B.trans (b6.mono B.size)
          clear b6
          go_wp2_with fail
          have b0 := (Below.refl w6.heap.size w6).alloc (Nat.le_refl _) (.cells #[.string (numStr (N / M)), .string (numStr (N % M))] 43)
          have hD := TwoAt.new w6 (.string (numStr (N / M))) (.string (numStr (N % M))) 43
          have ha := ha.below b0
          have hb := hb.below b0
          have hq := hq.below b0
          have hr := hr.below b0
          have hs := hs.below b0
          have hB := hB.below b0
          have B := B.trans (b0.mono B.size)
          clear b0
          generalize w6.alloc (.cells #[.string (numStr (N / M)), .string (numStr (N % M))] 43) = wd at *
          obtain ⟨dl, hdl⟩ : ∃ dl, w6.heap.size = dl := ⟨_, rfl⟩
          rw [hdl] at hD ⊢
          clear hdl
          refine (alive_any wd hB).mono ?_
          rintro e w7 ⟨rfl, b0⟩
          have ha := ha.below b0
          have hb := hb.below b0
          have hq := hq.below b0
          have hr := hr.below b0
          have hs := hs.below b0
          have hD := hD.below b0
          have hB := hB.below b0
          have B := B.trans (b0.mono B.size)
          clear b0
          have hd0 := hD.2.1
          go_wp2_with fail
          refine (is_ok q _ _ w7 (numStr_dec HQ0.out) hq).mono ?_
          rintro e w8 ⟨rfl, b8⟩
          clear hq
          have ha := ha.below b8
          have hb := hb.below b8
          have hr := hr.below b8
          have hs := hs.below b8
          have hD := hD.below b8
          have hB := hB.below b8
          have B := B.trans (b8.mono B.size)
          clear b8
          have hd0 := hD.2.2
          go_wp2_with fail
          refine (is_ok r _ _ w8 (numStr_dec HR0.out) hr).mono ?_
          rintro e w9 ⟨rfl, b9⟩
          clear hr
          have ha := ha.below b9
          have hb := hb.below b9
          have hs := hs.below b9
          have hD := hD.below b9
          have hB := hB.below b9
          have B := B.trans (b9.mono B.size)
          clear b9
          go_wp2_with fail
          go_ret
          exact ⟨rfl, B⟩
      · have HN := Lib.hid hN
        have HT := Lib.hid (show N * 2 ^ s < pw 16 by rw [hN, Int.zero_mul]; exact pw_pos 16)
        have HT0 := Lib.hid (show N * 2 ^ s = 0 by rw [hN, Int.zero_mul])
        have hs63b : (s : Int) ≤ 9223372036854775807 := by have := hs63.out; omega
        clear hN hrg h20 hpp h20b
        as_aux_lemma =>
          go_wp2_with fail
          refine (div_num v _ N M w ha hb HMp.out).mono ?_
          rintro e w1 ⟨⟨q, r, rfl, hq, hr⟩, b1⟩
          have ha := ha.below b1
          have hb := hb.below b1
          have hB := hB.below b1
          have B := B.trans (b1.mono B.size)
          clear b1
          go_wp2_with fail
          refine (shift_up v N s w1 ha hs63.out).mono ?_
          rintro e w2 ⟨hto, b2⟩
          obtain ⟨t, rfl, hs⟩ := hto.ok HT.out
          rw [HT0.out] at hs
          obtain ⟨so, sc, rfl⟩ := hs.of_zero
          have ha := ha.below b2
          have hb := hb.below b2
          have hq := hq.below b2
          have hr := hr.below b2
          have hB := hB.below b2
          have B := B.trans (b2.mono B.size)
          clear b2
          have HC := Lib.hid (bits_num v N w2 ha)
          go_wp2_with fail
          refine (HC.out).mono ?_
          rintro e w' ⟨⟨k, rfl, hbits, hk⟩, rfl⟩
          clear HC
          obtain rfl := bits_zero HN.out hbits
          clear hbits hk
          have HC := Lib.hid (refright_num ha)
          go_wp2_with fail
          refine (HC.out).mono ?_
          rintro e w' ⟨rfl, rfl⟩
          clear HC
          have HC := Lib.hid (reftext_fun ha)
          go_wp2_with fail
          refine (HC.out).mono ?_
          rintro e w3 ⟨rfl, b3⟩
          have ha := ha.below b3
          have hb := hb.below b3
          have hq := hq.below b3
          have hr := hr.below b3
          have hs := hs.below b3
          have hB := hB.below b3
          have B := B.trans (b3.mono B.size)
          clear b3
          clear HC
          go_wp2_with fail
          refine (power_fun 0 w3 (by omega)).mono ?_
          rintro e w4 ⟨rfl, b4⟩
          have ha := ha.below b4
          have hb := hb.below b4
          have hq := hq.below b4
          have hr := hr.below b4
          have hs := hs.below b4
          have hB := hB.below b4
          have B := B.trans (b4.mono B.size)
          clear b4
          have HC := Lib.hid (cmp_fun N (2 ^ 0) w4 HN0.out (Int.le_of_lt (pow_pos2 0)) HNb.out (pow_big (by omega)))
          rw [sgn_less (show N < 2 ^ 0 by rw [HN.out]; decide)] at HC
          go_wp2_with fail
          refine (HC.out).mono ?_
          rintro e w' ⟨rfl, rfl⟩
          clear HC
          have HC := Lib.hid (refright_num hb)
          go_wp2_with fail
          refine (HC.out).mono ?_
          rintro e w' ⟨rfl, rfl⟩
          clear HC
          have HC := Lib.hid (reftext_fun hb)
          go_wp2_with fail
          refine (HC.out).mono ?_
          rintro e w5 ⟨rfl, b5⟩
          have ha := ha.below b5
          have hb := hb.below b5
          have hq := hq.below b5
          have hr := hr.below b5
          have hs := hs.below b5
          have hB := hB.below b5
          have B := B.trans (b5.mono B.size)
          clear b5
          clear HC
          go_wp2_with fail
          refine (refdiv_fun N M w5 HN0.out HNb.out HMp.out HM20.out).mono ?_
          rintro e w6 ⟨rfl, b6⟩
          have ha := ha.below b6
          have hb := hb.below b6
          have hq := hq.below b6
          have hr := hr.below b6
          have hs := hs.below b6
          have hB := hB.below b6
          have B := B.trans (b6.mono B.size)
          clear b6
          go_wp2_with fail
          have b0 := (Below.refl w6.heap.size w6).alloc (Nat.le_refl _) (.cells #[.string (numStr (N / M)), .string (numStr (N % M))] 43)
          have hD := TwoAt.new w6 (.string (numStr (N / M))) (.string (numStr (N % M))) 43
          have ha := ha.below b0
          have hb := hb.below b0
          have hq := hq.below b0
          have hr := hr.below b0
          have hs := hs.below b0
          have hB := hB.below b0
          have B := B.trans (b0.mono B.size)
          clear b0
          generalize w6.alloc (.cells #[.string (numStr (N / M)), .string (numStr (N % M))] 43) = wd at *
          obtain ⟨dl, hdl⟩ : ∃ dl, w6.heap.size = dl := ⟨_, rfl⟩
          rw [hdl] at hD ⊢
          clear hdl
          refine (alive_any wd hB).mono ?_
          rintro e w7 ⟨rfl, b0⟩
          have ha := ha.below b0
          have hb := hb.below b0
          have hq := hq.below b0
          have hr := hr.below b0
          have hs := hs.below b0
          have hD := hD.below b0
          have hB := hB.below b0
          have B := B.trans (b0.mono B.size)
          clear b0
          have hd0 := hD.2.1
          go_wp2_with fail
          refine (is_ok q _ _ w7 (numStr_dec HQ0.out) hq).mono ?_
          rintro e w8 ⟨rfl, b8⟩
          clear hq
          have ha := ha.below b8
          have hb := hb.below b8
          have hr := hr.below b8
          have hs := hs.below b8
          have hD := hD.below b8
          have hB := hB.below b8
          have B := B.trans (b8.mono B.size)
          clear b8
          have hd0 := hD.2.2
          go_wp2_with fail
          refine (is_ok r _ _ w8 (numStr_dec HR0.out) hr).mono ?_
          rintro e w9 ⟨rfl, b9⟩
          clear hr
          have ha := ha.below b9
          have hb := hb.below b9
          have hs := hs.below b9
          have hD := hD.below b9
          have hB := hB.below b9
          have B := B.trans (b9.mono B.size)
          clear b9
          go_wp2_with fail
          go_ret
          exact ⟨rfl, B⟩
    have HN := Lib.hid (show 0 < N by omega)
    by_cases hs6 : 600 < s
    · have HT := Lib.hid (shift_more (t := s) HN.out (by omega))
      have hs6b : (600 : Int) < s := by omega
      clear hN hrg h20 hpp h20b
      as_aux_lemma =>
        go_wp2_with fail
        refine (div_num v _ N M w ha hb HMp.out).mono ?_
        rintro e w1 ⟨⟨q, r, rfl, hq, hr⟩, b1⟩
        have ha := ha.below b1
        have hb := hb.below b1
        have hB := hB.below b1
        have B := B.trans (b1.mono B.size)
        clear b1
        go_wp2_with fail
        refine (shift_up v N s w1 ha hs63.out).mono ?_
        rintro e w2 ⟨hto, b2⟩
        obtain rfl := hto.over HT.out
        have ha := ha.below b2
        have hb := hb.below b2
        have hq := hq.below b2
        have hr := hr.below b2
        have hB := hB.below b2
        have B := B.trans (b2.mono B.size)
        clear b2
        have HC := Lib.hid (bits_num v N w2 ha)
        go_wp2_with fail
        refine (HC.out).mono ?_
        rintro e w' ⟨⟨k, rfl, hbits, hk⟩, rfl⟩
        clear HC
        obtain ⟨j, rfl, hk1, hk2⟩ := bits_pos HN.out hbits
        have hj0 : (0 : Int) < (j : Int) + 1 := by omega
        have hjn : (((j : Int) + 1) == 0) = false := by rw [beq_eq_false_iff_ne]; omega
        have hj : j ≤ 511 := by omega
        have Hk1 := Lib.hid hk1
        have Hk2 := Lib.hid hk2
        clear hbits hk hk1 hk2
        have HC := Lib.hid (refright_num ha)
        go_wp2_with fail
        refine (HC.out).mono ?_
        rintro e w' ⟨rfl, rfl⟩
        clear HC
        have HC := Lib.hid (reftext_fun ha)
        go_wp2_with fail
        refine (HC.out).mono ?_
        rintro e w3 ⟨rfl, b3⟩
        have ha := ha.below b3
        have hb := hb.below b3
        have hq := hq.below b3
        have hr := hr.below b3
        have hB := hB.below b3
        have B := B.trans (b3.mono B.size)
        clear b3
        clear HC
        go_wp2_with fail
        refine (power_fun j w3 (by omega)).mono ?_
        rintro e w4 ⟨rfl, b4⟩
        have ha := ha.below b4
        have hb := hb.below b4
        have hq := hq.below b4
        have hr := hr.below b4
        have hB := hB.below b4
        have B := B.trans (b4.mono B.size)
        clear b4
        obtain ⟨g, hg, hg0⟩ : ∃ g, sgn N (2 ^ j) = g ∧ 0 ≤ g := ⟨_, rfl, sgn_ge Hk1.out⟩
        have HC := Lib.hid (cmp_fun N (2 ^ j) w4 HN0.out (Int.le_of_lt (pow_pos2 j)) HNb.out (pow_big (by omega)))
        rw [hg] at HC
        clear hg
        go_wp2_with fail
        refine (HC.out).mono ?_
        rintro e w' ⟨rfl, rfl⟩
        clear HC
        go_wp2_with fail
        refine (power_fun (j + 1) w4 (by omega)).mono ?_
        rintro e w5 ⟨rfl, b5⟩
        have ha := ha.below b5
        have hb := hb.below b5
        have hq := hq.below b5
        have hr := hr.below b5
        have hB := hB.below b5
        have B := B.trans (b5.mono B.size)
        clear b5
        have HC := Lib.hid (cmp_fun N (2 ^ (j + 1)) w5 HN0.out (Int.le_of_lt (pow_pos2 (j + 1))) HNb.out (pow_big (by omega)))
        rw [sgn_less Hk2.out] at HC
        go_wp2_with fail
        refine (HC.out).mono ?_
        rintro e w' ⟨rfl, rfl⟩
        clear HC
        have HC := Lib.hid (refright_num hb)
        go_wp2_with fail
        refine (HC.out).mono ?_
        rintro e w' ⟨rfl, rfl⟩
        clear HC
        have HC := Lib.hid (reftext_fun hb)
        go_wp2_with fail
        refine (HC.out).mono ?_
        rintro e w6 ⟨rfl, b6⟩
        have ha := ha.below b6
        have hb := hb.below b6
        have hq := hq.below b6
        have hr := hr.below b6
        have hB := hB.below b6
        have B := B.trans (b6.mono B.size)
        clear b6
        clear HC
        go_wp2_with fail
        refine (refdiv_fun N M w6 HN0.out HNb.out HMp.out HM20.out).mono ?_
        rintro e w7 ⟨rfl, b7⟩
        have ha := ha.below b7
        have hb := hb.below b7
        have hq := hq.below b7
        have hr := hr.below b7
        have hB := hB.below b7
        have B := B.trans (b7.mono B.size)
        clear b7
        go_wp2_with fail
        have b0 := (Below.refl w7.heap.size w7).alloc (Nat.le_refl _) (.cells #[.string (numStr (N / M)), .string (numStr (N % M))] 43)
        have hD := TwoAt.new w7 (.string (numStr (N / M))) (.string (numStr (N % M))) 43
        have ha := ha.below b0
        have hb := hb.below b0
        have hq := hq.below b0
        have hr := hr.below b0
        have hB := hB.below b0
        have B := B.trans (b0.mono B.size)
        clear b0
        generalize w7.alloc (.cells #[.string (numStr (N / M)), .string (numStr (N % M))] 43) = wd at *
        obtain ⟨dl, hdl⟩ : ∃ dl, w7.heap.size = dl := ⟨_, rfl⟩
        rw [hdl] at hD ⊢
        clear hdl
        refine (alive_any wd hB).mono ?_
        rintro e w8 ⟨rfl, b0⟩
        have ha := ha.below b0
        have hb := hb.below b0
        have hq := hq.below b0
        have hr := hr.below b0
        have hD := hD.below b0
        have hB := hB.below b0
        have B := B.trans (b0.mono B.size)
        clear b0
        have hd0 := hD.2.1
        go_wp2_with fail
        refine (is_ok q _ _ w8 (numStr_dec HQ0.out) hq).mono ?_
        rintro e w9 ⟨rfl, b9⟩
        clear hq
        have ha := ha.below b9
        have hb := hb.below b9
        have hr := hr.below b9
        have hD := hD.below b9
        have hB := hB.below b9
        have B := B.trans (b9.mono B.size)
        clear b9
        have hd0 := hD.2.2
        go_wp2_with fail
        refine (is_ok r _ _ w9 (numStr_dec HR0.out) hr).mono ?_
        rintro e w10 ⟨rfl, b10⟩
        clear hr
        have ha := ha.below b10
        have hb := hb.below b10
        have hD := hD.below b10
        have hB := hB.below b10
        have B := B.trans (b10.mono B.size)
        clear b10
        go_wp2_with fail
        go_ret
        exact ⟨rfl, B⟩
    have hs6b : ¬ (600 : Int) < s := by omega
    have hs6c : ¬ (s : Int) < -600 := by omega
    have hs6d : (0 : Int) ≤ s := by omega
    have HT1 := Lib.hid (show 0 ≤ N * 2 ^ s from Int.mul_nonneg hrg.1 (Int.le_of_lt (pow_pos2 s)))
    have HTb := Lib.hid (show N * 2 ^ s < big by have := Int.mul_le_mul (show N ≤ pw 16 by omega) (Int.le_of_lt (pow_pw (n := s) (by omega))) (Int.le_of_lt (pow_pos2 s)) (show 0 ≤ pw 16 by omega); omega)
    by_cases hT : N * 2 ^ s < pw 16
    · have HT := Lib.hid hT
      clear hN hrg h20 hpp h20b hT
      as_aux_lemma =>
        go_wp2_with fail
        refine (div_num v _ N M w ha hb HMp.out).mono ?_
        rintro e w1 ⟨⟨q, r, rfl, hq, hr⟩, b1⟩
        have ha := ha.below b1
        have hb := hb.below b1
        have hB := hB.below b1
        have B := B.trans (b1.mono B.size)
        clear b1
        go_wp2_with fail
        refine (shift_up v N s w1 ha hs63.out).mono ?_
        rintro e w2 ⟨hto, b2⟩
        obtain ⟨t, rfl, hs⟩ := hto.ok HT.out
        have ha := ha.below b2
        have hb := hb.below b2
        have hq := hq.below b2
        have hr := hr.below b2
        have hB := hB.below b2
        have B := B.trans (b2.mono B.size)
        clear b2
        have HC := Lib.hid (bits_num v N w2 ha)
        go_wp2_with fail
        refine (HC.out).mono ?_
        rintro e w' ⟨⟨k, rfl, hbits, hk⟩, rfl⟩
        clear HC
        obtain ⟨j, rfl, hk1, hk2⟩ := bits_pos HN.out hbits
        have hj0 : (0 : Int) < (j : Int) + 1 := by omega
        have hjn : (((j : Int) + 1) == 0) = false := by rw [beq_eq_false_iff_ne]; omega
        have hj : j ≤ 511 := by omega
        have Hk1 := Lib.hid hk1
        have Hk2 := Lib.hid hk2
        clear hbits hk hk1 hk2
        have HC := Lib.hid (refright_num ha)
        go_wp2_with fail
        refine (HC.out).mono ?_
        rintro e w' ⟨rfl, rfl⟩
        clear HC
        have HC := Lib.hid (reftext_fun ha)
        go_wp2_with fail
        refine (HC.out).mono ?_
        rintro e w3 ⟨rfl, b3⟩
        have ha := ha.below b3
        have hb := hb.below b3
        have hq := hq.below b3
        have hr := hr.below b3
        have hs := hs.below b3
        have hB := hB.below b3
        have B := B.trans (b3.mono B.size)
        clear b3
        clear HC
        go_wp2_with fail
        refine (power_fun j w3 (by omega)).mono ?_
        rintro e w4 ⟨rfl, b4⟩
        have ha := ha.below b4
        have hb := hb.below b4
        have hq := hq.below b4
        have hr := hr.below b4
        have hs := hs.below b4
        have hB := hB.below b4
        have B := B.trans (b4.mono B.size)
        clear b4
        obtain ⟨g, hg, hg0⟩ : ∃ g, sgn N (2 ^ j) = g ∧ 0 ≤ g := ⟨_, rfl, sgn_ge Hk1.out⟩
        have HC := Lib.hid (cmp_fun N (2 ^ j) w4 HN0.out (Int.le_of_lt (pow_pos2 j)) HNb.out (pow_big (by omega)))
        rw [hg] at HC
        clear hg
        go_wp2_with fail
        refine (HC.out).mono ?_
        rintro e w' ⟨rfl, rfl⟩
        clear HC
        go_wp2_with fail
        refine (power_fun (j + 1) w4 (by omega)).mono ?_
        rintro e w5 ⟨rfl, b5⟩
        have ha := ha.below b5
        have hb := hb.below b5
        have hq := hq.below b5
        have hr := hr.below b5
        have hs := hs.below b5
        have hB := hB.below b5
        have B := B.trans (b5.mono B.size)
        clear b5
        have HC := Lib.hid (cmp_fun N (2 ^ (j + 1)) w5 HN0.out (Int.le_of_lt (pow_pos2 (j + 1))) HNb.out (pow_big (by omega)))
        rw [sgn_less Hk2.out] at HC
        go_wp2_with fail
        refine (HC.out).mono ?_
        rintro e w' ⟨rfl, rfl⟩
        clear HC
        go_wp2_with fail
        refine (power_fun s w5 (by omega)).mono ?_
        rintro e w6 ⟨rfl, b6⟩
        have ha := ha.below b6
        have hb := hb.below b6
        have hq := hq.below b6
        have hr := hr.below b6
        have hs := hs.below b6
        have hB := hB.below b6
        have B := B.trans (b6.mono B.size)
        clear b6
        go_wp2_with fail
        refine (refmul_wide N (2 ^ s) w6 HN0.out (Int.le_of_lt (pow_pos2 s)) HN20.out (pow_pw (by omega))).mono ?_
        rintro e w7 ⟨rfl, b7⟩
        have ha := ha.below b7
        have hb := hb.below b7
        have hq := hq.below b7
        have hr := hr.below b7
        have hs := hs.below b7
        have hB := hB.below b7
        have B := B.trans (b7.mono B.size)
        clear b7
        go_wp2_with fail
        refine (is_ok t _ _ w7 (numStr_dec HT1.out) hs).mono ?_
        rintro e w8 ⟨rfl, b8⟩
        clear hs
        have ha := ha.below b8
        have hb := hb.below b8
        have hq := hq.below b8
        have hr := hr.below b8
        have hB := hB.below b8
        have B := B.trans (b8.mono B.size)
        clear b8
        have HC := Lib.hid (refright_num hb)
        go_wp2_with fail
        refine (HC.out).mono ?_
        rintro e w' ⟨rfl, rfl⟩
        clear HC
        have HC := Lib.hid (reftext_fun hb)
        go_wp2_with fail
        refine (HC.out).mono ?_
        rintro e w9 ⟨rfl, b9⟩
        have ha := ha.below b9
        have hb := hb.below b9
        have hq := hq.below b9
        have hr := hr.below b9
        have hB := hB.below b9
        have B := B.trans (b9.mono B.size)
        clear b9
        clear HC
        go_wp2_with fail
        refine (refdiv_fun N M w9 HN0.out HNb.out HMp.out HM20.out).mono ?_
        rintro e w10 ⟨rfl, b10⟩
        have ha := ha.below b10
        have hb := hb.below b10
        have hq := hq.below b10
        have hr := hr.below b10
        have hB := hB.below b10
        have B := B.trans (b10.mono B.size)
        clear b10
        go_wp2_with fail
        have b0 := (Below.refl w10.heap.size w10).alloc (Nat.le_refl _) (.cells #[.string (numStr (N / M)), .string (numStr (N % M))] 43)
        have hD := TwoAt.new w10 (.string (numStr (N / M))) (.string (numStr (N % M))) 43
        have ha := ha.below b0
        have hb := hb.below b0
        have hq := hq.below b0
        have hr := hr.below b0
        have hB := hB.below b0
        have B := B.trans (b0.mono B.size)
        clear b0
        generalize w10.alloc (.cells #[.string (numStr (N / M)), .string (numStr (N % M))] 43) = wd at *
        obtain ⟨dl, hdl⟩ : ∃ dl, w10.heap.size = dl := ⟨_, rfl⟩
        rw [hdl] at hD ⊢
        clear hdl
        refine (alive_any wd hB).mono ?_
        rintro e w11 ⟨rfl, b0⟩
        have ha := ha.below b0
        have hb := hb.below b0
        have hq := hq.below b0
        have hr := hr.below b0
        have hD := hD.below b0
        have hB := hB.below b0
        have B := B.trans (b0.mono B.size)
        clear b0
        have hd0 := hD.2.1
        go_wp2_with fail
        refine (is_ok q _ _ w11 (numStr_dec HQ0.out) hq).mono ?_
        rintro e w12 ⟨rfl, b12⟩
        clear hq
        have ha := ha.below b12
        have hb := hb.below b12
        have hr := hr.below b12
        have hD := hD.below b12
        have hB := hB.below b12
        have B := B.trans (b12.mono B.size)
        clear b12
        have hd0 := hD.2.2
        go_wp2_with fail
        refine (is_ok r _ _ w12 (numStr_dec HR0.out) hr).mono ?_
        rintro e w13 ⟨rfl, b13⟩
        clear hr
        have ha := ha.below b13
        have hb := hb.below b13
        have hD := hD.below b13
        have hB := hB.below b13
        have B := B.trans (b13.mono B.size)
        clear b13
        go_wp2_with fail
        go_ret
        exact ⟨rfl, B⟩
    · have HT := Lib.hid (Int.not_lt.1 hT)
      clear hN hrg h20 hpp h20b hT
      as_aux_lemma =>
        go_wp2_with fail
        refine (div_num v _ N M w ha hb HMp.out).mono ?_
        rintro e w1 ⟨⟨q, r, rfl, hq, hr⟩, b1⟩
        have ha := ha.below b1
        have hb := hb.below b1
        have hB := hB.below b1
        have B := B.trans (b1.mono B.size)
        clear b1
        go_wp2_with fail
        refine (shift_up v N s w1 ha hs63.out).mono ?_
        rintro e w2 ⟨hto, b2⟩
        obtain rfl := hto.over HT.out
        have ha := ha.below b2
        have hb := hb.below b2
        have hq := hq.below b2
        have hr := hr.below b2
        have hB := hB.below b2
        have B := B.trans (b2.mono B.size)
        clear b2
        have HC := Lib.hid (bits_num v N w2 ha)
        go_wp2_with fail
        refine (HC.out).mono ?_
        rintro e w' ⟨⟨k, rfl, hbits, hk⟩, rfl⟩
        clear HC
        obtain ⟨j, rfl, hk1, hk2⟩ := bits_pos HN.out hbits
        have hj0 : (0 : Int) < (j : Int) + 1 := by omega
        have hjn : (((j : Int) + 1) == 0) = false := by rw [beq_eq_false_iff_ne]; omega
        have hj : j ≤ 511 := by omega
        have Hk1 := Lib.hid hk1
        have Hk2 := Lib.hid hk2
        clear hbits hk hk1 hk2
        have HC := Lib.hid (refright_num ha)
        go_wp2_with fail
        refine (HC.out).mono ?_
        rintro e w' ⟨rfl, rfl⟩
        clear HC
        have HC := Lib.hid (reftext_fun ha)
        go_wp2_with fail
        refine (HC.out).mono ?_
        rintro e w3 ⟨rfl, b3⟩
        have ha := ha.below b3
        have hb := hb.below b3
        have hq := hq.below b3
        have hr := hr.below b3
        have hB := hB.below b3
        have B := B.trans (b3.mono B.size)
        clear b3
        clear HC
        go_wp2_with fail
        refine (power_fun j w3 (by omega)).mono ?_
        rintro e w4 ⟨rfl, b4⟩
        have ha := ha.below b4
        have hb := hb.below b4
        have hq := hq.below b4
        have hr := hr.below b4
        have hB := hB.below b4
        have B := B.trans (b4.mono B.size)
        clear b4
        obtain ⟨g, hg, hg0⟩ : ∃ g, sgn N (2 ^ j) = g ∧ 0 ≤ g := ⟨_, rfl, sgn_ge Hk1.out⟩
        have HC := Lib.hid (cmp_fun N (2 ^ j) w4 HN0.out (Int.le_of_lt (pow_pos2 j)) HNb.out (pow_big (by omega)))
        rw [hg] at HC
        clear hg
        go_wp2_with fail
        refine (HC.out).mono ?_
        rintro e w' ⟨rfl, rfl⟩
        clear HC
        go_wp2_with fail
        refine (power_fun (j + 1) w4 (by omega)).mono ?_
        rintro e w5 ⟨rfl, b5⟩
        have ha := ha.below b5
        have hb := hb.below b5
        have hq := hq.below b5
        have hr := hr.below b5
        have hB := hB.below b5
        have B := B.trans (b5.mono B.size)
        clear b5
        have HC := Lib.hid (cmp_fun N (2 ^ (j + 1)) w5 HN0.out (Int.le_of_lt (pow_pos2 (j + 1))) HNb.out (pow_big (by omega)))
        rw [sgn_less Hk2.out] at HC
        go_wp2_with fail
        refine (HC.out).mono ?_
        rintro e w' ⟨rfl, rfl⟩
        clear HC
        go_wp2_with fail
        refine (power_fun s w5 (by omega)).mono ?_
        rintro e w6 ⟨rfl, b6⟩
        have ha := ha.below b6
        have hb := hb.below b6
        have hq := hq.below b6
        have hr := hr.below b6
        have hB := hB.below b6
        have B := B.trans (b6.mono B.size)
        clear b6
        go_wp2_with fail
        refine (refmul_wide N (2 ^ s) w6 HN0.out (Int.le_of_lt (pow_pos2 s)) HN20.out (pow_pw (by omega))).mono ?_
        rintro e w7 ⟨rfl, b7⟩
        have ha := ha.below b7
        have hb := hb.below b7
        have hq := hq.below b7
        have hr := hr.below b7
        have hB := hB.below b7
        have B := B.trans (b7.mono B.size)
        clear b7
        go_wp2_with fail
        refine (is_over _ _ w7 (numStr_dec HT1.out) HTb.out HT.out).mono ?_
        rintro e w8 ⟨rfl, b8⟩
        have ha := ha.below b8
        have hb := hb.below b8
        have hq := hq.below b8
        have hr := hr.below b8
        have hB := hB.below b8
        have B := B.trans (b8.mono B.size)
        clear b8
        have HC := Lib.hid (refright_num hb)
        go_wp2_with fail
        refine (HC.out).mono ?_
        rintro e w' ⟨rfl, rfl⟩
        clear HC
        have HC := Lib.hid (reftext_fun hb)
        go_wp2_with fail
        refine (HC.out).mono ?_
        rintro e w9 ⟨rfl, b9⟩
        have ha := ha.below b9
        have hb := hb.below b9
        have hq := hq.below b9
        have hr := hr.below b9
        have hB := hB.below b9
        have B := B.trans (b9.mono B.size)
        clear b9
        clear HC
        go_wp2_with fail
        refine (refdiv_fun N M w9 HN0.out HNb.out HMp.out HM20.out).mono ?_
        rintro e w10 ⟨rfl, b10⟩
        have ha := ha.below b10
        have hb := hb.below b10
        have hq := hq.below b10
        have hr := hr.below b10
        have hB := hB.below b10
        have B := B.trans (b10.mono B.size)
        clear b10
        go_wp2_with fail
        have b0 := (Below.refl w10.heap.size w10).alloc (Nat.le_refl _) (.cells #[.string (numStr (N / M)), .string (numStr (N % M))] 43)
        have hD := TwoAt.new w10 (.string (numStr (N / M))) (.string (numStr (N % M))) 43
        have ha := ha.below b0
        have hb := hb.below b0
        have hq := hq.below b0
        have hr := hr.below b0
        have hB := hB.below b0
        have B := B.trans (b0.mono B.size)
        clear b0
        generalize w10.alloc (.cells #[.string (numStr (N / M)), .string (numStr (N % M))] 43) = wd at *
        obtain ⟨dl, hdl⟩ : ∃ dl, w10.heap.size = dl := ⟨_, rfl⟩
        rw [hdl] at hD ⊢
        clear hdl
        refine (alive_any wd hB).mono ?_
        rintro e w11 ⟨rfl, b0⟩
        have ha := ha.below b0
        have hb := hb.below b0
        have hq := hq.below b0
        have hr := hr.below b0
        have hD := hD.below b0
        have hB := hB.below b0
        have B := B.trans (b0.mono B.size)
        clear b0
        have hd0 := hD.2.1
        go_wp2_with fail
        refine (is_ok q _ _ w11 (numStr_dec HQ0.out) hq).mono ?_
        rintro e w12 ⟨rfl, b12⟩
        clear hq
        have ha := ha.below b12
        have hb := hb.below b12
        have hr := hr.below b12
        have hD := hD.below b12
        have hB := hB.below b12
        have B := B.trans (b12.mono B.size)
        clear b12
        have hd0 := hD.2.2
        go_wp2_with fail
        refine (is_ok r _ _ w12 (numStr_dec HR0.out) hr).mono ?_
        rintro e w13 ⟨rfl, b13⟩
        clear hr
        have ha := ha.below b13
        have hb := hb.below b13
        have hD := hD.below b13
        have hB := hB.below b13
        have B := B.trans (b13.mono B.size)
        clear b13
        go_wp2_with fail
        go_ret
        exact ⟨rfl, B⟩
  · have hs64 := Lib.hid hs64
    have hs0i : (0 : Int) < s := by omega
    have hs0j : ¬ (600 : Int) < -(s : Int) := by omega
    have hs0k : ¬ (0 : Int) ≤ -(s : Int) := by omega
    have hs0l : -(s : Int) < 0 := by omega
    have hs0 := Lib.hid hs0
    by_cases hN : N = 0
    · by_cases hs6i : -(s : Int) < -600
      · have HN := Lib.hid hN
        have HT0 := Lib.hid (show N / 2 ^ s = 0 by rw [hN, Int.zero_ediv])
        clear hN hrg h20 hpp h20b
        as_aux_lemma =>
          go_wp2_with fail
          refine (div_num v _ N M w ha hb HMp.out).mono ?_
          rintro e w1 ⟨⟨q, r, rfl, hq, hr⟩, b1⟩
          have ha := ha.below b1
          have hb := hb.below b1
          have hB := hB.below b1
          have B := B.trans (b1.mono B.size)
          clear b1
          go_wp2_with fail
          refine (shift_down v N s w1 ha hs0.out hs64.out).mono ?_
          rintro e w2 ⟨⟨t, rfl, hs⟩, b2⟩
          rw [HT0.out] at hs
          obtain ⟨so, sc, rfl⟩ := hs.of_zero
          have ha := ha.below b2
          have hb := hb.below b2
          have hq := hq.below b2
          have hr := hr.below b2
          have hB := hB.below b2
          have B := B.trans (b2.mono B.size)
          clear b2
          have HC := Lib.hid (bits_num v N w2 ha)
          go_wp2_with fail
          refine (HC.out).mono ?_
          rintro e w' ⟨⟨k, rfl, hbits, hk⟩, rfl⟩
          clear HC
          obtain rfl := bits_zero HN.out hbits
          clear hbits hk
          have HC := Lib.hid (refright_num ha)
          go_wp2_with fail
          refine (HC.out).mono ?_
          rintro e w' ⟨rfl, rfl⟩
          clear HC
          have HC := Lib.hid (reftext_fun ha)
          go_wp2_with fail
          refine (HC.out).mono ?_
          rintro e w3 ⟨rfl, b3⟩
          have ha := ha.below b3
          have hb := hb.below b3
          have hq := hq.below b3
          have hr := hr.below b3
          have hs := hs.below b3
          have hB := hB.below b3
          have B := B.trans (b3.mono B.size)
          clear b3
          clear HC
          go_wp2_with fail
          refine (power_fun 0 w3 (by omega)).mono ?_
          rintro e w4 ⟨rfl, b4⟩
          have ha := ha.below b4
          have hb := hb.below b4
          have hq := hq.below b4
          have hr := hr.below b4
          have hs := hs.below b4
          have hB := hB.below b4
          have B := B.trans (b4.mono B.size)
          clear b4
          have HC := Lib.hid (cmp_fun N (2 ^ 0) w4 HN0.out (Int.le_of_lt (pow_pos2 0)) HNb.out (pow_big (by omega)))
          rw [sgn_less (show N < 2 ^ 0 by rw [HN.out]; decide)] at HC
          go_wp2_with fail
          refine (HC.out).mono ?_
          rintro e w' ⟨rfl, rfl⟩
          clear HC
          have HC := Lib.hid (refright_num hb)
          go_wp2_with fail
          refine (HC.out).mono ?_
          rintro e w' ⟨rfl, rfl⟩
          clear HC
          have HC := Lib.hid (reftext_fun hb)
          go_wp2_with fail
          refine (HC.out).mono ?_
          rintro e w5 ⟨rfl, b5⟩
          have ha := ha.below b5
          have hb := hb.below b5
          have hq := hq.below b5
          have hr := hr.below b5
          have hs := hs.below b5
          have hB := hB.below b5
          have B := B.trans (b5.mono B.size)
          clear b5
          clear HC
          go_wp2_with fail
          refine (refdiv_fun N M w5 HN0.out HNb.out HMp.out HM20.out).mono ?_
          rintro e w6 ⟨rfl, b6⟩
          have ha := ha.below b6
          have hb := hb.below b6
          have hq := hq.below b6
          have hr := hr.below b6
          have hs := hs.below b6
          have hB := hB.below b6
          have B := B.trans (b6.mono B.size)
          clear b6
          go_wp2_with fail
          have b0 := (Below.refl w6.heap.size w6).alloc (Nat.le_refl _) (.cells #[.string (numStr (N / M)), .string (numStr (N % M))] 43)
          have hD := TwoAt.new w6 (.string (numStr (N / M))) (.string (numStr (N % M))) 43
          have ha := ha.below b0
          have hb := hb.below b0
          have hq := hq.below b0
          have hr := hr.below b0
          have hs := hs.below b0
          have hB := hB.below b0
          have B := B.trans (b0.mono B.size)
          clear b0
          generalize w6.alloc (.cells #[.string (numStr (N / M)), .string (numStr (N % M))] 43) = wd at *
          obtain ⟨dl, hdl⟩ : ∃ dl, w6.heap.size = dl := ⟨_, rfl⟩
          rw [hdl] at hD ⊢
          clear hdl
          refine (alive_any wd hB).mono ?_
          rintro e w7 ⟨rfl, b0⟩
          have ha := ha.below b0
          have hb := hb.below b0
          have hq := hq.below b0
          have hr := hr.below b0
          have hs := hs.below b0
          have hD := hD.below b0
          have hB := hB.below b0
          have B := B.trans (b0.mono B.size)
          clear b0
          have hd0 := hD.2.1
          go_wp2_with fail
          refine (is_ok q _ _ w7 (numStr_dec HQ0.out) hq).mono ?_
          rintro e w8 ⟨rfl, b8⟩
          clear hq
          have ha := ha.below b8
          have hb := hb.below b8
          have hr := hr.below b8
          have hs := hs.below b8
          have hD := hD.below b8
          have hB := hB.below b8
          have B := B.trans (b8.mono B.size)
          clear b8
          have hd0 := hD.2.2
          go_wp2_with fail
          refine (is_ok r _ _ w8 (numStr_dec HR0.out) hr).mono ?_
          rintro e w9 ⟨rfl, b9⟩
          clear hr
          have ha := ha.below b9
          have hb := hb.below b9
          have hs := hs.below b9
          have hD := hD.below b9
          have hB := hB.below b9
          have B := B.trans (b9.mono B.size)
          clear b9
          go_wp2_with fail
          go_ret
          exact ⟨rfl, B⟩
      · have HN := Lib.hid hN
        have HT0 := Lib.hid (show N / 2 ^ s = 0 by rw [hN, Int.zero_ediv])
        clear hN hrg h20 hpp h20b
        as_aux_lemma =>
          go_wp2_with fail
          refine (div_num v _ N M w ha hb HMp.out).mono ?_
          rintro e w1 ⟨⟨q, r, rfl, hq, hr⟩, b1⟩
          have ha := ha.below b1
          have hb := hb.below b1
          have hB := hB.below b1
          have B := B.trans (b1.mono B.size)
          clear b1
          go_wp2_with fail
          refine (shift_down v N s w1 ha hs0.out hs64.out).mono ?_
          rintro e w2 ⟨⟨t, rfl, hs⟩, b2⟩
          rw [HT0.out] at hs
          obtain ⟨so, sc, rfl⟩ := hs.of_zero
          have ha := ha.below b2
          have hb := hb.below b2
          have hq := hq.below b2
          have hr := hr.below b2
          have hB := hB.below b2
          have B := B.trans (b2.mono B.size)
          clear b2
          have HC := Lib.hid (bits_num v N w2 ha)
          go_wp2_with fail
          refine (HC.out).mono ?_
          rintro e w' ⟨⟨k, rfl, hbits, hk⟩, rfl⟩
          clear HC
          obtain rfl := bits_zero HN.out hbits
          clear hbits hk
          have HC := Lib.hid (refright_num ha)
          go_wp2_with fail
          refine (HC.out).mono ?_
          rintro e w' ⟨rfl, rfl⟩
          clear HC
          have HC := Lib.hid (reftext_fun ha)
          go_wp2_with fail
          refine (HC.out).mono ?_
          rintro e w3 ⟨rfl, b3⟩
          have ha := ha.below b3
          have hb := hb.below b3
          have hq := hq.below b3
          have hr := hr.below b3
          have hs := hs.below b3
          have hB := hB.below b3
          have B := B.trans (b3.mono B.size)
          clear b3
          clear HC
          go_wp2_with fail
          refine (power_fun 0 w3 (by omega)).mono ?_
          rintro e w4 ⟨rfl, b4⟩
          have ha := ha.below b4
          have hb := hb.below b4
          have hq := hq.below b4
          have hr := hr.below b4
          have hs := hs.below b4
          have hB := hB.below b4
          have B := B.trans (b4.mono B.size)
          clear b4
          have HC := Lib.hid (cmp_fun N (2 ^ 0) w4 HN0.out (Int.le_of_lt (pow_pos2 0)) HNb.out (pow_big (by omega)))
          rw [sgn_less (show N < 2 ^ 0 by rw [HN.out]; decide)] at HC
          go_wp2_with fail
          refine (HC.out).mono ?_
          rintro e w' ⟨rfl, rfl⟩
          clear HC
          have HC := Lib.hid (refright_num hb)
          go_wp2_with fail
          refine (HC.out).mono ?_
          rintro e w' ⟨rfl, rfl⟩
          clear HC
          have HC := Lib.hid (reftext_fun hb)
          go_wp2_with fail
          refine (HC.out).mono ?_
          rintro e w5 ⟨rfl, b5⟩
          have ha := ha.below b5
          have hb := hb.below b5
          have hq := hq.below b5
          have hr := hr.below b5
          have hs := hs.below b5
          have hB := hB.below b5
          have B := B.trans (b5.mono B.size)
          clear b5
          clear HC
          go_wp2_with fail
          refine (refdiv_fun N M w5 HN0.out HNb.out HMp.out HM20.out).mono ?_
          rintro e w6 ⟨rfl, b6⟩
          have ha := ha.below b6
          have hb := hb.below b6
          have hq := hq.below b6
          have hr := hr.below b6
          have hs := hs.below b6
          have hB := hB.below b6
          have B := B.trans (b6.mono B.size)
          clear b6
          go_wp2_with fail
          have b0 := (Below.refl w6.heap.size w6).alloc (Nat.le_refl _) (.cells #[.string (numStr (N / M)), .string (numStr (N % M))] 43)
          have hD := TwoAt.new w6 (.string (numStr (N / M))) (.string (numStr (N % M))) 43
          have ha := ha.below b0
          have hb := hb.below b0
          have hq := hq.below b0
          have hr := hr.below b0
          have hs := hs.below b0
          have hB := hB.below b0
          have B := B.trans (b0.mono B.size)
          clear b0
          generalize w6.alloc (.cells #[.string (numStr (N / M)), .string (numStr (N % M))] 43) = wd at *
          obtain ⟨dl, hdl⟩ : ∃ dl, w6.heap.size = dl := ⟨_, rfl⟩
          rw [hdl] at hD ⊢
          clear hdl
          refine (alive_any wd hB).mono ?_
          rintro e w7 ⟨rfl, b0⟩
          have ha := ha.below b0
          have hb := hb.below b0
          have hq := hq.below b0
          have hr := hr.below b0
          have hs := hs.below b0
          have hD := hD.below b0
          have hB := hB.below b0
          have B := B.trans (b0.mono B.size)
          clear b0
          have hd0 := hD.2.1
          go_wp2_with fail
          refine (is_ok q _ _ w7 (numStr_dec HQ0.out) hq).mono ?_
          rintro e w8 ⟨rfl, b8⟩
          clear hq
          have ha := ha.below b8
          have hb := hb.below b8
          have hr := hr.below b8
          have hs := hs.below b8
          have hD := hD.below b8
          have hB := hB.below b8
          have B := B.trans (b8.mono B.size)
          clear b8
          have hd0 := hD.2.2
          go_wp2_with fail
          refine (is_ok r _ _ w8 (numStr_dec HR0.out) hr).mono ?_
          rintro e w9 ⟨rfl, b9⟩
          clear hr
          have ha := ha.below b9
          have hb := hb.below b9
          have hs := hs.below b9
          have hD := hD.below b9
          have hB := hB.below b9
          have B := B.trans (b9.mono B.size)
          clear b9
          go_wp2_with fail
          go_ret
          exact ⟨rfl, B⟩
    have HN := Lib.hid (show 0 < N by omega)
    by_cases hs6 : 600 < s
    · have HT0 := Lib.hid (shift_far (t := s) hrg.1 hrg.2 (by omega))
      have hs6b : -(s : Int) < -600 := by omega
      clear hN hrg h20 hpp h20b
      as_aux_lemma =>
        go_wp2_with fail
        refine (div_num v _ N M w ha hb HMp.out).mono ?_
        rintro e w1 ⟨⟨q, r, rfl, hq, hr⟩, b1⟩
        have ha := ha.below b1
        have hb := hb.below b1
        have hB := hB.below b1
        have B := B.trans (b1.mono B.size)
        clear b1
        go_wp2_with fail
        refine (shift_down v N s w1 ha hs0.out hs64.out).mono ?_
        rintro e w2 ⟨⟨t, rfl, hs⟩, b2⟩
        rw [HT0.out] at hs
        obtain ⟨so, sc, rfl⟩ := hs.of_zero
        have ha := ha.below b2
        have hb := hb.below b2
        have hq := hq.below b2
        have hr := hr.below b2
        have hB := hB.below b2
        have B := B.trans (b2.mono B.size)
        clear b2
        have HC := Lib.hid (bits_num v N w2 ha)
        go_wp2_with fail
        refine (HC.out).mono ?_
        rintro e w' ⟨⟨k, rfl, hbits, hk⟩, rfl⟩
        clear HC
        obtain ⟨j, rfl, hk1, hk2⟩ := bits_pos HN.out hbits
        have hj0 : (0 : Int) < (j : Int) + 1 := by omega
        have hjn : (((j : Int) + 1) == 0) = false := by rw [beq_eq_false_iff_ne]; omega
        have hj : j ≤ 511 := by omega
        have Hk1 := Lib.hid hk1
        have Hk2 := Lib.hid hk2
        clear hbits hk hk1 hk2
        have HC := Lib.hid (refright_num ha)
        go_wp2_with fail
        refine (HC.out).mono ?_
        rintro e w' ⟨rfl, rfl⟩
        clear HC
        have HC := Lib.hid (reftext_fun ha)
        go_wp2_with fail
        refine (HC.out).mono ?_
        rintro e w3 ⟨rfl, b3⟩
        have ha := ha.below b3
        have hb := hb.below b3
        have hq := hq.below b3
        have hr := hr.below b3
        have hs := hs.below b3
        have hB := hB.below b3
        have B := B.trans (b3.mono B.size)
        clear b3
        clear HC
        go_wp2_with fail
        refine (power_fun j w3 (by omega)).mono ?_
        rintro e w4 ⟨rfl, b4⟩
        have ha := ha.below b4
        have hb := hb.below b4
        have hq := hq.below b4
        have hr := hr.below b4
        have hs := hs.below b4
        have hB := hB.below b4
        have B := B.trans (b4.mono B.size)
        clear b4
        obtain ⟨g, hg, hg0⟩ : ∃ g, sgn N (2 ^ j) = g ∧ 0 ≤ g := ⟨_, rfl, sgn_ge Hk1.out⟩
        have HC := Lib.hid (cmp_fun N (2 ^ j) w4 HN0.out (Int.le_of_lt (pow_pos2 j)) HNb.out (pow_big (by omega)))
        rw [hg] at HC
        clear hg
        go_wp2_with fail
        refine (HC.out).mono ?_
        rintro e w' ⟨rfl, rfl⟩
        clear HC
        go_wp2_with fail
        refine (power_fun (j + 1) w4 (by omega)).mono ?_
        rintro e w5 ⟨rfl, b5⟩
        have ha := ha.below b5
        have hb := hb.below b5
        have hq := hq.below b5
        have hr := hr.below b5
        have hs := hs.below b5
        have hB := hB.below b5
        have B := B.trans (b5.mono B.size)
        clear b5
        have HC := Lib.hid (cmp_fun N (2 ^ (j + 1)) w5 HN0.out (Int.le_of_lt (pow_pos2 (j + 1))) HNb.out (pow_big (by omega)))
        rw [sgn_less Hk2.out] at HC
        go_wp2_with fail
        refine (HC.out).mono ?_
        rintro e w' ⟨rfl, rfl⟩
        clear HC
        have HC := Lib.hid (refright_num hb)
        go_wp2_with fail
        refine (HC.out).mono ?_
        rintro e w' ⟨rfl, rfl⟩
        clear HC
        have HC := Lib.hid (reftext_fun hb)
        go_wp2_with fail
        refine (HC.out).mono ?_
        rintro e w6 ⟨rfl, b6⟩
        have ha := ha.below b6
        have hb := hb.below b6
        have hq := hq.below b6
        have hr := hr.below b6
        have hs := hs.below b6
        have hB := hB.below b6
        have B := B.trans (b6.mono B.size)
        clear b6
        clear HC
        go_wp2_with fail
        refine (refdiv_fun N M w6 HN0.out HNb.out HMp.out HM20.out).mono ?_
        rintro e w7 ⟨rfl, b7⟩
        have ha := ha.below b7
        have hb := hb.below b7
        have hq := hq.below b7
        have hr := hr.below b7
        have hs := hs.below b7
        have hB := hB.below b7
        have B := B.trans (b7.mono B.size)
        clear b7
        go_wp2_with fail
        have b0 := (Below.refl w7.heap.size w7).alloc (Nat.le_refl _) (.cells #[.string (numStr (N / M)), .string (numStr (N % M))] 43)
        have hD := TwoAt.new w7 (.string (numStr (N / M))) (.string (numStr (N % M))) 43
        have ha := ha.below b0
        have hb := hb.below b0
        have hq := hq.below b0
        have hr := hr.below b0
        have hs := hs.below b0
        have hB := hB.below b0
        have B := B.trans (b0.mono B.size)
        clear b0
        generalize w7.alloc (.cells #[.string (numStr (N / M)), .string (numStr (N % M))] 43) = wd at *
        obtain ⟨dl, hdl⟩ : ∃ dl, w7.heap.size = dl := ⟨_, rfl⟩
        rw [hdl] at hD ⊢
        clear hdl
        refine (alive_any wd hB).mono ?_
        rintro e w8 ⟨rfl, b0⟩
        have ha := ha.below b0
        have hb := hb.below b0
        have hq := hq.below b0
        have hr := hr.below b0
        have hs := hs.below b0
        have hD := hD.below b0
        have hB := hB.below b0
        have B := B.trans (b0.mono B.size)
        clear b0
        have hd0 := hD.2.1
        go_wp2_with fail
        refine (is_ok q _ _ w8 (numStr_dec HQ0.out) hq).mono ?_
        rintro e w9 ⟨rfl, b9⟩
        clear hq
        have ha := ha.below b9
        have hb := hb.below b9
        have hr := hr.below b9
        have hs := hs.below b9
        have hD := hD.below b9
        have hB := hB.below b9
        have B := B.trans (b9.mono B.size)
        clear b9
        have hd0 := hD.2.2
        go_wp2_with fail
        refine (is_ok r _ _ w9 (numStr_dec HR0.out) hr).mono ?_
        rintro e w10 ⟨rfl, b10⟩
        clear hr
        have ha := ha.below b10
        have hb := hb.below b10
        have hs := hs.below b10
        have hD := hD.below b10
        have hB := hB.below b10
        have B := B.trans (b10.mono B.size)
        clear b10
        go_wp2_with fail
        go_ret
        exact ⟨rfl, B⟩
    have hs6b : ¬ -(s : Int) < -600 := by omega
    have HT1 := Lib.hid (show 0 ≤ N / 2 ^ s from Int.ediv_nonneg hrg.1 (Int.le_of_lt (pow_pos2 s)))
    · clear hN hrg h20 hpp h20b
      as_aux_lemma =>
        go_wp2_with fail
        refine (div_num v _ N M w ha hb HMp.out).mono ?_
        rintro e w1 ⟨⟨q, r, rfl, hq, hr⟩, b1⟩
        have ha := ha.below b1
        have hb := hb.below b1
        have hB := hB.below b1
        have B := B.trans (b1.mono B.size)
        clear b1
        go_wp2_with fail
        refine (shift_down v N s w1 ha hs0.out hs64.out).mono ?_
        rintro e w2 ⟨⟨t, rfl, hs⟩, b2⟩
        have ha := ha.below b2
        have hb := hb.below b2
        have hq := hq.below b2
        have hr := hr.below b2
        have hB := hB.below b2
        have B := B.trans (b2.mono B.size)
        clear b2
        have HC := Lib.hid (bits_num v N w2 ha)
        go_wp2_with fail
        refine (HC.out).mono ?_
        rintro e w' ⟨⟨k, rfl, hbits, hk⟩, rfl⟩
        clear HC
        obtain ⟨j, rfl, hk1, hk2⟩ := bits_pos HN.out hbits
        have hj0 : (0 : Int) < (j : Int) + 1 := by omega
        have hjn : (((j : Int) + 1) == 0) = false := by rw [beq_eq_false_iff_ne]; omega
        have hj : j ≤ 511 := by omega
        have Hk1 := Lib.hid hk1
        have Hk2 := Lib.hid hk2
        clear hbits hk hk1 hk2
        have HC := Lib.hid (refright_num ha)
        go_wp2_with fail
        refine (HC.out).mono ?_
        rintro e w' ⟨rfl, rfl⟩
        clear HC
        have HC := Lib.hid (reftext_fun ha)
        go_wp2_with fail
        refine (HC.out).mono ?_
        rintro e w3 ⟨rfl, b3⟩
        have ha := ha.below b3
        have hb := hb.below b3
        have hq := hq.below b3
        have hr := hr.below b3
        have hs := hs.below b3
        have hB := hB.below b3
        have B := B.trans (b3.mono B.size)
        clear b3
        clear HC
        go_wp2_with fail
        refine (power_fun j w3 (by omega)).mono ?_
        rintro e w4 ⟨rfl, b4⟩
        have ha := ha.below b4
        have hb := hb.below b4
        have hq := hq.below b4
        have hr := hr.below b4
        have hs := hs.below b4
        have hB := hB.below b4
        have B := B.trans (b4.mono B.size)
        clear b4
        obtain ⟨g, hg, hg0⟩ : ∃ g, sgn N (2 ^ j) = g ∧ 0 ≤ g := ⟨_, rfl, sgn_ge Hk1.out⟩
        have HC := Lib.hid (cmp_fun N (2 ^ j) w4 HN0.out (Int.le_of_lt (pow_pos2 j)) HNb.out (pow_big (by omega)))
        rw [hg] at HC
        clear hg
        go_wp2_with fail
        refine (HC.out).mono ?_
        rintro e w' ⟨rfl, rfl⟩
        clear HC
        go_wp2_with fail
        refine (power_fun (j + 1) w4 (by omega)).mono ?_
        rintro e w5 ⟨rfl, b5⟩
        have ha := ha.below b5
        have hb := hb.below b5
        have hq := hq.below b5
        have hr := hr.below b5
        have hs := hs.below b5
        have hB := hB.below b5
        have B := B.trans (b5.mono B.size)
        clear b5
        have HC := Lib.hid (cmp_fun N (2 ^ (j + 1)) w5 HN0.out (Int.le_of_lt (pow_pos2 (j + 1))) HNb.out (pow_big (by omega)))
        rw [sgn_less Hk2.out] at HC
        go_wp2_with fail
        refine (HC.out).mono ?_
        rintro e w' ⟨rfl, rfl⟩
        clear HC
        go_wp2_with fail
        refine (power_fun s w5 (by omega)).mono ?_
        rintro e w6 ⟨rfl, b6⟩
        have ha := ha.below b6
        have hb := hb.below b6
        have hq := hq.below b6
        have hr := hr.below b6
        have hs := hs.below b6
        have hB := hB.below b6
        have B := B.trans (b6.mono B.size)
        clear b6
        go_wp2_with fail
        refine (refdiv_fun N (2 ^ s) w6 HN0.out HNb.out (pow_pos2 s) (pow_pw (by omega))).mono ?_
        rintro e w7 ⟨rfl, b7⟩
        have ha := ha.below b7
        have hb := hb.below b7
        have hq := hq.below b7
        have hr := hr.below b7
        have hs := hs.below b7
        have hB := hB.below b7
        have B := B.trans (b7.mono B.size)
        clear b7
        go_wp2_with fail
        refine (is_ok t _ _ w7 (numStr_dec HT1.out) hs).mono ?_
        rintro e w8 ⟨rfl, b8⟩
        clear hs
        have ha := ha.below b8
        have hb := hb.below b8
        have hq := hq.below b8
        have hr := hr.below b8
        have hB := hB.below b8
        have B := B.trans (b8.mono B.size)
        clear b8
        have HC := Lib.hid (refright_num hb)
        go_wp2_with fail
        refine (HC.out).mono ?_
        rintro e w' ⟨rfl, rfl⟩
        clear HC
        have HC := Lib.hid (reftext_fun hb)
        go_wp2_with fail
        refine (HC.out).mono ?_
        rintro e w9 ⟨rfl, b9⟩
        have ha := ha.below b9
        have hb := hb.below b9
        have hq := hq.below b9
        have hr := hr.below b9
        have hB := hB.below b9
        have B := B.trans (b9.mono B.size)
        clear b9
        clear HC
        go_wp2_with fail
        refine (refdiv_fun N M w9 HN0.out HNb.out HMp.out HM20.out).mono ?_
        rintro e w10 ⟨rfl, b10⟩
        have ha := ha.below b10
        have hb := hb.below b10
        have hq := hq.below b10
        have hr := hr.below b10
        have hB := hB.below b10
        have B := B.trans (b10.mono B.size)
        clear b10
        go_wp2_with fail
        have b0 := (Below.refl w10.heap.size w10).alloc (Nat.le_refl _) (.cells #[.string (numStr (N / M)), .string (numStr (N % M))] 43)
        have hD := TwoAt.new w10 (.string (numStr (N / M))) (.string (numStr (N % M))) 43
        have ha := ha.below b0
        have hb := hb.below b0
        have hq := hq.below b0
        have hr := hr.below b0
        have hB := hB.below b0
        have B := B.trans (b0.mono B.size)
        clear b0
        generalize w10.alloc (.cells #[.string (numStr (N / M)), .string (numStr (N % M))] 43) = wd at *
        obtain ⟨dl, hdl⟩ : ∃ dl, w10.heap.size = dl := ⟨_, rfl⟩
        rw [hdl] at hD ⊢
        clear hdl
        refine (alive_any wd hB).mono ?_
        rintro e w11 ⟨rfl, b0⟩
        have ha := ha.below b0
        have hb := hb.below b0
        have hq := hq.below b0
        have hr := hr.below b0
        have hD := hD.below b0
        have hB := hB.below b0
        have B := B.trans (b0.mono B.size)
        clear b0
        have hd0 := hD.2.1
        go_wp2_with fail
        refine (is_ok q _ _ w11 (numStr_dec HQ0.out) hq).mono ?_
        rintro e w12 ⟨rfl, b12⟩
        clear hq
        have ha := ha.below b12
        have hb := hb.below b12
        have hr := hr.below b12
        have hD := hD.below b12
        have hB := hB.below b12
        have B := B.trans (b12.mono B.size)
        clear b12
        have hd0 := hD.2.2
        go_wp2_with fail
        refine (is_ok r _ _ w12 (numStr_dec HR0.out) hr).mono ?_
        rintro e w13 ⟨rfl, b13⟩
        clear hr
        have ha := ha.below b13
        have hb := hb.below b13
        have hD := hD.below b13
        have hB := hB.below b13
        have B := B.trans (b13.mono B.size)
        clear b13
        go_wp2_with fail
        go_ret
        exact ⟨rfl, B⟩
end Go.Proofs.YtondjnmpfpfpmaaDoor
