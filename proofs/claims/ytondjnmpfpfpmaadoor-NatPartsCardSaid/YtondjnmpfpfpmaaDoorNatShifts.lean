/- The law NatShifts. -/
import Derived.Test.YtondjnmpfpfpmaaDoorNatAlive
namespace Go.Proofs.YtondjnmpfpfpmaaDoor
open Go.RowKit NM

theorem Told.ok {N : Int} {e : Ending} {w : World} (h : Told N e w) (hN : N < pw 16) : ∃ v, e = .returned (.tuple #[v, .int .i64 0]) ∧ Num w v N := by
  rcases h with ⟨_, h⟩ | ⟨h, _⟩
  · exact h
  · omega
theorem Told.over {N : Int} {e : Ending} {w : World} (h : Told N e w) (hN : pw 16 ≤ N) : e = .returned (.tuple #[.slice none 0 0, .int .i64 2]) := by
  rcases h with ⟨h, _⟩ | ⟨_, h⟩
  · omega
  · exact h

theorem shift_neg (v : Value) (N : Int) (s : Nat) (w : World) (h1 : Num w v N) (s1 : s ≤ 9223372036854775807) :
    Calls Tryd.prog 23 #[v, .int .i64 (-(s : Int))] w fun e w' => (∃ r, e = .returned (.tuple #[r, .int .i64 0]) ∧ Num w' r (N / 2 ^ s)) ∧ Below w.heap.size w w' := by
  by_cases h : 0 < s
  · exact shift_down v N s w h1 h (by omega)
  · obtain rfl : s = 0 := by omega
    refine (shift_up v N 0 w h1 (by omega)).mono ?_
    rintro e w' ⟨ht, hb⟩
    have e0 : N * 2 ^ 0 = N := by simp
    rw [e0] at ht
    obtain ⟨r, he, hn⟩ := ht.ok h1.range.2
    exact ⟨⟨r, he, by simpa using hn⟩, hb⟩

theorem pow2_lt {s : Nat} (h : s < 512) : (1 : Int) * 2 ^ s < pw 16 := by
  rw [pow16, Int.one_mul]
  have h1 := pow_le (show s ≤ 511 by omega)
  have h2 : (2 : Int) ^ 511 < 2 ^ 512 := by decide +kernel
  omega

set_option maxHeartbeats 8000000 in
set_option maxRecDepth 100000 in
theorem shifts_walk (a0 : Option Addr) (len0 cap0 : Nat) (z0 : List Int) (y : Int) (w : World) (w0 : IsRow .u32 w a0 len0 cap0 z0) (hB : Bases w) :
    Calls Tryd.prog 7 #[.slice a0 len0 cap0, .int .i64 y] w fun e w' => e = .returned (.bool true) ∧ Below w.heap.size w w' := by
  have F := Lib.hid (few_row a0 len0 cap0 z0 w w0)
  clear w0
  obtain ⟨T, hT⟩ : ∃ T, y.tmod 300 = T := ⟨_, rfl⟩
  have hT0 : -300 < T ∧ T < 300 := by
    rw [← hT]
    have h := Int.tmod_lt_of_pos y (show (0 : Int) < 300 by omega)
    have h2 := Int.lt_tmod_of_pos y (show (0 : Int) < 300 by omega)
    omega
  obtain ⟨s, hs⟩ : ∃ s : Nat, (T + 300) % 300 = (s : Int) := ⟨((T + 300) % 300).toNat, by omega⟩
  have hs3 : s < 300 := by omega
  have hts : (T + 300).tmod 300 = (s : Int) := by rw [Int.tmod_eq_emod_of_nonneg (by omega)]; exact hs
  have hwT : IntKind.i64.wrap T = T := by rw [IntKind.wrap_i64]; omega
  have hwT3 : IntKind.i64.wrap (T + 300) = T + 300 := by rw [IntKind.wrap_i64]; omega
  have hws : IntKind.i64.wrap (s : Int) = s := by rw [IntKind.wrap_i64]; omega
  have hwn : IntKind.i64.wrap (-(s : Int)) = -s := by rw [IntKind.wrap_i64]; omega
  go_enter Tryd.func7, Tryd.ntmps7
  go_wp2_with fail
  refine F.out.mono ?_
  rintro e w' ⟨⟨v, xs, rfl, hsl, hl18⟩, rfl⟩
  clear F hs
  have B := Below.refl w.heap.size w
  cases hrx : rightB xs
  · have hb : Bad1 w v := ⟨xs, hsl, hrx⟩
    have hb2 : Bad2 w v v := ⟨xs, xs, hsl, hsl, by rw [hrx]; rfl⟩
    clear hsl hl18
    go_wp2_with fail
    refine (shift_bad v s w hb).mono ?_
    rintro e w' ⟨rfl, rfl⟩
    go_wp2_with fail
    refine (shift_bad v 1 w hb).mono ?_
    rintro e w' ⟨rfl, rfl⟩
    go_wp2_with fail
    refine (add_bad v v w hb2).mono ?_
    rintro e w' ⟨rfl, rfl⟩
    go_wp2_with fail
    refine (same_nil w).mono ?_
    rintro e w1 ⟨rfl, b1⟩
    have hb' : Bad1 w1 v := hb.imp fun xs h => ⟨h.1.below b1, h.2⟩
    have hB := hB.below b1
    clear hb hb2
    go_wp2_with fail
    refine (alive_any w1 hB).mono ?_
    rintro e w2 ⟨rfl, b2⟩
    have hb := hb'.imp fun xs h => (⟨h.1.below b2, h.2⟩ : Sl w2 v xs ∧ rightB xs = false)
    have hb3 : Bad1 w2 v := hb
    have B := b1.trans (b2.mono b1.size)
    clear hb hb' b1 b2
    go_wp2_with fail
    refine (shift_bad v (-s) w2 hb3).mono ?_
    rintro e w' ⟨rfl, rfl⟩
    go_wp2_with fail
    refine (right_bad hb3).mono ?_
    rintro e w' ⟨rfl, rfl⟩
    go_wp2_with fail
    go_ret
    exact ⟨rfl, B⟩
  · obtain ⟨N, hN⟩ : ∃ N, val xs = N := ⟨_, rfl⟩
    have hv : Num w v N := ⟨xs, hsl, hrx, hN⟩
    clear hsl hrx hN hl18
    have hrg := hv.range
    have hpp := pow_pos2 s
    have hdm := Int.mul_ediv_add_emod N (2 ^ s)
    have hdn : N / 2 ^ s * 2 ^ s + N % (1 * 2 ^ s) = N := by rw [Int.one_mul, Int.mul_comm]; exact hdm
    have hmn := Int.emod_nonneg N (show (2 : Int) ^ s ≠ 0 by omega)
    have HP := Lib.hid (pow2_lt (show s < 512 by omega))
    have HP0 := Lib.hid (show (0 : Int) < 1 * 2 ^ s by omega)
    have HY := Lib.hid (show N / 2 ^ s * 2 ^ s < pw 16 by rw [Int.mul_comm]; omega)
    have HZ := Lib.hid (show N / 2 ^ s * 2 ^ s + N % (1 * 2 ^ s) < pw 16 by rw [hdn]; exact hrg.2)
    have HS1 := Lib.hid (show decide (N * 2 ^ 1 = N + N) = true by rw [decide_eq_true_iff]; omega)
    have HS2 := Lib.hid (show decide (N * 2 ^ s / 2 ^ s = N) = true by rw [decide_eq_true_iff]; exact Int.mul_ediv_cancel _ (by omega))
    have HS3 := Lib.hid (show decide (N / (1 * 2 ^ s) = N / 2 ^ s) = true by rw [decide_eq_true_iff, Int.one_mul])
    have HS4 := Lib.hid (show decide (N / 2 ^ s * 2 ^ s + N % (1 * 2 ^ s) = N) = true by rw [decide_eq_true_iff]; exact hdn)
    clear hrg hpp hdm hdn hmn
    by_cases hA : N + N < pw 16
    · have HA1 := Lib.hid (show N * 2 ^ 1 < pw 16 by omega)
      have HA2 := Lib.hid hA
      by_cases hU : N * 2 ^ s < pw 16
      · have HU := Lib.hid hU
        clear hA hU
        go_wp2_with fail
        refine (shift_up v N s w hv (by omega)).mono ?_
        rintro e w1 ⟨ht, b1⟩
        obtain ⟨u, rfl, hu⟩ := ht.ok HU.out
        have hv := hv.below b1
        have hB := hB.below b1
        have B := B.trans (b1.mono B.size)
        clear b1
        go_wp2_with fail
        refine (shift_up v N 1 w1 hv (by omega)).mono ?_
        rintro e w2 ⟨ht, b2⟩
        obtain ⟨one, rfl, hone⟩ := ht.ok HA1.out
        have hv := hv.below b2
        have hu := hu.below b2
        have hB := hB.below b2
        have B := B.trans (b2.mono B.size)
        clear b2
        go_wp2_with fail
        refine (add_num v v N N w2 hv hv).mono ?_
        rintro e w3 ⟨ht, b3⟩
        obtain ⟨two, rfl, htwo⟩ := ht.ok HA2.out
        have hv := hv.below b3
        have hu := hu.below b3
        have hone := hone.below b3
        have hB := hB.below b3
        have B := B.trans (b3.mono B.size)
        clear b3
        go_wp2_with fail
        refine (same_num one two _ _ w3 hone htwo).mono ?_
        rintro e w4 ⟨rfl, b4⟩
        rw [HS1.out]
        clear hone
        clear htwo
        have hv := hv.below b4
        have hu := hu.below b4
        have hB := hB.below b4
        have B := B.trans (b4.mono B.size)
        clear b4
        go_wp2_with fail
        refine (alive_any w4 hB).mono ?_
        rintro e w5 ⟨rfl, b5⟩
        have hv := hv.below b5
        have hu := hu.below b5
        have hB := hB.below b5
        have B := B.trans (b5.mono B.size)
        clear b5
        go_wp2_with fail
        refine (shift_neg u (N * 2 ^ s) s w5 hu (by omega)).mono ?_
        rintro e w6 ⟨⟨x, rfl, hx⟩, b6⟩
        clear hu
        have hv := hv.below b6
        have hB := hB.below b6
        have B := B.trans (b6.mono B.size)
        clear b6
        go_wp2_with fail
        refine (same_num x v _ N w6 hx hv).mono ?_
        rintro e w7 ⟨rfl, b7⟩
        rw [HS2.out]
        clear hx
        have hv := hv.below b7
        have hB := hB.below b7
        have B := B.trans (b7.mono B.size)
        clear b7
        go_wp2_with fail
        refine (shift_neg v N s w7 hv (by omega)).mono ?_
        rintro e w8 ⟨⟨d, rfl, hd⟩, b8⟩
        have hv := hv.below b8
        have hB := hB.below b8
        have B := B.trans (b8.mono B.size)
        clear b8
        go_wp2_with fail
        refine (of_num 1 w8 (by omega) (by omega)).mono ?_
        rintro e w9 ⟨⟨o, rfl, ho⟩, b9⟩
        have hv := hv.below b9
        have hd := hd.below b9
        have hB := hB.below b9
        have B := B.trans (b9.mono B.size)
        clear b9
        go_wp2_with fail
        refine (shift_up o 1 s w9 ho (by omega)).mono ?_
        rintro e w10 ⟨ht, b10⟩
        obtain ⟨p, rfl, hp⟩ := ht.ok HP.out
        clear ho
        have hv := hv.below b10
        have hd := hd.below b10
        have hB := hB.below b10
        have B := B.trans (b10.mono B.size)
        clear b10
        go_wp2_with fail
        refine (shift_up d (N / 2 ^ s) s w10 hd (by omega)).mono ?_
        rintro e w11 ⟨ht, b11⟩
        obtain ⟨y, rfl, hy⟩ := ht.ok HY.out
        have hv := hv.below b11
        have hd := hd.below b11
        have hp := hp.below b11
        have hB := hB.below b11
        have B := B.trans (b11.mono B.size)
        clear b11
        go_wp2_with fail
        refine (div_num v p N (1 * 2 ^ s) w11 hv hp HP0.out).mono ?_
        rintro e w12 ⟨⟨q, r, rfl, hq, hr⟩, b12⟩
        clear hp
        have hv := hv.below b12
        have hd := hd.below b12
        have hy := hy.below b12
        have hB := hB.below b12
        have B := B.trans (b12.mono B.size)
        clear b12
        go_wp2_with fail
        refine (add_num y r _ _ w12 hy hr).mono ?_
        rintro e w13 ⟨ht, b13⟩
        obtain ⟨z, rfl, hz⟩ := ht.ok HZ.out
        clear hy hr
        have hv := hv.below b13
        have hd := hd.below b13
        have hq := hq.below b13
        have hB := hB.below b13
        have B := B.trans (b13.mono B.size)
        clear b13
        go_wp2_with fail
        refine (same_num q d _ _ w13 hq hd).mono ?_
        rintro e w14 ⟨rfl, b14⟩
        rw [HS3.out]
        clear hq hd
        have hv := hv.below b14
        have hz := hz.below b14
        have hB := hB.below b14
        have B := B.trans (b14.mono B.size)
        clear b14
        go_wp2_with fail
        refine (same_num z v _ N w14 hz hv).mono ?_
        rintro e w15 ⟨rfl, b15⟩
        rw [HS4.out]
        have hv := hv.below b15
        have hz := hz.below b15
        have hB := hB.below b15
        have B := B.trans (b15.mono B.size)
        clear b15
        go_wp2_with fail
        go_ret
        exact ⟨rfl, B⟩
      · have HU := Lib.hid (Int.not_lt.1 hU)
        clear hA hU
        go_wp2_with fail
        refine (shift_up v N s w hv (by omega)).mono ?_
        rintro e w1 ⟨ht, b1⟩
        obtain rfl := ht.over HU.out
        have hv := hv.below b1
        have hB := hB.below b1
        have B := B.trans (b1.mono B.size)
        clear b1
        go_wp2_with fail
        refine (shift_up v N 1 w1 hv (by omega)).mono ?_
        rintro e w2 ⟨ht, b2⟩
        obtain ⟨one, rfl, hone⟩ := ht.ok HA1.out
        have hv := hv.below b2
        have hB := hB.below b2
        have B := B.trans (b2.mono B.size)
        clear b2
        go_wp2_with fail
        refine (add_num v v N N w2 hv hv).mono ?_
        rintro e w3 ⟨ht, b3⟩
        obtain ⟨two, rfl, htwo⟩ := ht.ok HA2.out
        have hv := hv.below b3
        have hone := hone.below b3
        have hB := hB.below b3
        have B := B.trans (b3.mono B.size)
        clear b3
        go_wp2_with fail
        refine (same_num one two _ _ w3 hone htwo).mono ?_
        rintro e w4 ⟨rfl, b4⟩
        rw [HS1.out]
        clear hone
        clear htwo
        have hv := hv.below b4
        have hB := hB.below b4
        have B := B.trans (b4.mono B.size)
        clear b4
        go_wp2_with fail
        refine (alive_any w4 hB).mono ?_
        rintro e w5 ⟨rfl, b5⟩
        have hv := hv.below b5
        have hB := hB.below b5
        have B := B.trans (b5.mono B.size)
        clear b5
        go_wp2_with fail
        refine (shift_neg v N s w5 hv (by omega)).mono ?_
        rintro e w6 ⟨⟨d, rfl, hd⟩, b6⟩
        have hv := hv.below b6
        have hB := hB.below b6
        have B := B.trans (b6.mono B.size)
        clear b6
        go_wp2_with fail
        refine (of_num 1 w6 (by omega) (by omega)).mono ?_
        rintro e w7 ⟨⟨o, rfl, ho⟩, b7⟩
        have hv := hv.below b7
        have hd := hd.below b7
        have hB := hB.below b7
        have B := B.trans (b7.mono B.size)
        clear b7
        go_wp2_with fail
        refine (shift_up o 1 s w7 ho (by omega)).mono ?_
        rintro e w8 ⟨ht, b8⟩
        obtain ⟨p, rfl, hp⟩ := ht.ok HP.out
        clear ho
        have hv := hv.below b8
        have hd := hd.below b8
        have hB := hB.below b8
        have B := B.trans (b8.mono B.size)
        clear b8
        go_wp2_with fail
        refine (shift_up d (N / 2 ^ s) s w8 hd (by omega)).mono ?_
        rintro e w9 ⟨ht, b9⟩
        obtain ⟨y, rfl, hy⟩ := ht.ok HY.out
        have hv := hv.below b9
        have hd := hd.below b9
        have hp := hp.below b9
        have hB := hB.below b9
        have B := B.trans (b9.mono B.size)
        clear b9
        go_wp2_with fail
        refine (div_num v p N (1 * 2 ^ s) w9 hv hp HP0.out).mono ?_
        rintro e w10 ⟨⟨q, r, rfl, hq, hr⟩, b10⟩
        clear hp
        have hv := hv.below b10
        have hd := hd.below b10
        have hy := hy.below b10
        have hB := hB.below b10
        have B := B.trans (b10.mono B.size)
        clear b10
        go_wp2_with fail
        refine (add_num y r _ _ w10 hy hr).mono ?_
        rintro e w11 ⟨ht, b11⟩
        obtain ⟨z, rfl, hz⟩ := ht.ok HZ.out
        clear hy hr
        have hv := hv.below b11
        have hd := hd.below b11
        have hq := hq.below b11
        have hB := hB.below b11
        have B := B.trans (b11.mono B.size)
        clear b11
        go_wp2_with fail
        refine (same_num q d _ _ w11 hq hd).mono ?_
        rintro e w12 ⟨rfl, b12⟩
        rw [HS3.out]
        clear hq hd
        have hv := hv.below b12
        have hz := hz.below b12
        have hB := hB.below b12
        have B := B.trans (b12.mono B.size)
        clear b12
        go_wp2_with fail
        refine (same_num z v _ N w12 hz hv).mono ?_
        rintro e w13 ⟨rfl, b13⟩
        rw [HS4.out]
        have hv := hv.below b13
        have hz := hz.below b13
        have hB := hB.below b13
        have B := B.trans (b13.mono B.size)
        clear b13
        go_wp2_with fail
        go_ret
        exact ⟨rfl, B⟩
    · have HA1 := Lib.hid (show pw 16 ≤ N * 2 ^ 1 by omega)
      have HA2 := Lib.hid (Int.not_lt.1 hA)
      by_cases hU : N * 2 ^ s < pw 16
      · have HU := Lib.hid hU
        clear hA hU
        go_wp2_with fail
        refine (shift_up v N s w hv (by omega)).mono ?_
        rintro e w1 ⟨ht, b1⟩
        obtain ⟨u, rfl, hu⟩ := ht.ok HU.out
        have hv := hv.below b1
        have hB := hB.below b1
        have B := B.trans (b1.mono B.size)
        clear b1
        go_wp2_with fail
        refine (shift_up v N 1 w1 hv (by omega)).mono ?_
        rintro e w2 ⟨ht, b2⟩
        obtain rfl := ht.over HA1.out
        have hv := hv.below b2
        have hu := hu.below b2
        have hB := hB.below b2
        have B := B.trans (b2.mono B.size)
        clear b2
        go_wp2_with fail
        refine (add_num v v N N w2 hv hv).mono ?_
        rintro e w3 ⟨ht, b3⟩
        obtain rfl := ht.over HA2.out
        have hv := hv.below b3
        have hu := hu.below b3
        have hB := hB.below b3
        have B := B.trans (b3.mono B.size)
        clear b3
        go_wp2_with fail
        refine (same_nil w3).mono ?_
        rintro e w4 ⟨rfl, b4⟩
        have hv := hv.below b4
        have hu := hu.below b4
        have hB := hB.below b4
        have B := B.trans (b4.mono B.size)
        clear b4
        go_wp2_with fail
        refine (alive_any w4 hB).mono ?_
        rintro e w5 ⟨rfl, b5⟩
        have hv := hv.below b5
        have hu := hu.below b5
        have hB := hB.below b5
        have B := B.trans (b5.mono B.size)
        clear b5
        go_wp2_with fail
        refine (shift_neg u (N * 2 ^ s) s w5 hu (by omega)).mono ?_
        rintro e w6 ⟨⟨x, rfl, hx⟩, b6⟩
        clear hu
        have hv := hv.below b6
        have hB := hB.below b6
        have B := B.trans (b6.mono B.size)
        clear b6
        go_wp2_with fail
        refine (same_num x v _ N w6 hx hv).mono ?_
        rintro e w7 ⟨rfl, b7⟩
        rw [HS2.out]
        clear hx
        have hv := hv.below b7
        have hB := hB.below b7
        have B := B.trans (b7.mono B.size)
        clear b7
        go_wp2_with fail
        refine (shift_neg v N s w7 hv (by omega)).mono ?_
        rintro e w8 ⟨⟨d, rfl, hd⟩, b8⟩
        have hv := hv.below b8
        have hB := hB.below b8
        have B := B.trans (b8.mono B.size)
        clear b8
        go_wp2_with fail
        refine (of_num 1 w8 (by omega) (by omega)).mono ?_
        rintro e w9 ⟨⟨o, rfl, ho⟩, b9⟩
        have hv := hv.below b9
        have hd := hd.below b9
        have hB := hB.below b9
        have B := B.trans (b9.mono B.size)
        clear b9
        go_wp2_with fail
        refine (shift_up o 1 s w9 ho (by omega)).mono ?_
        rintro e w10 ⟨ht, b10⟩
        obtain ⟨p, rfl, hp⟩ := ht.ok HP.out
        clear ho
        have hv := hv.below b10
        have hd := hd.below b10
        have hB := hB.below b10
        have B := B.trans (b10.mono B.size)
        clear b10
        go_wp2_with fail
        refine (shift_up d (N / 2 ^ s) s w10 hd (by omega)).mono ?_
        rintro e w11 ⟨ht, b11⟩
        obtain ⟨y, rfl, hy⟩ := ht.ok HY.out
        have hv := hv.below b11
        have hd := hd.below b11
        have hp := hp.below b11
        have hB := hB.below b11
        have B := B.trans (b11.mono B.size)
        clear b11
        go_wp2_with fail
        refine (div_num v p N (1 * 2 ^ s) w11 hv hp HP0.out).mono ?_
        rintro e w12 ⟨⟨q, r, rfl, hq, hr⟩, b12⟩
        clear hp
        have hv := hv.below b12
        have hd := hd.below b12
        have hy := hy.below b12
        have hB := hB.below b12
        have B := B.trans (b12.mono B.size)
        clear b12
        go_wp2_with fail
        refine (add_num y r _ _ w12 hy hr).mono ?_
        rintro e w13 ⟨ht, b13⟩
        obtain ⟨z, rfl, hz⟩ := ht.ok HZ.out
        clear hy hr
        have hv := hv.below b13
        have hd := hd.below b13
        have hq := hq.below b13
        have hB := hB.below b13
        have B := B.trans (b13.mono B.size)
        clear b13
        go_wp2_with fail
        refine (same_num q d _ _ w13 hq hd).mono ?_
        rintro e w14 ⟨rfl, b14⟩
        rw [HS3.out]
        clear hq hd
        have hv := hv.below b14
        have hz := hz.below b14
        have hB := hB.below b14
        have B := B.trans (b14.mono B.size)
        clear b14
        go_wp2_with fail
        refine (same_num z v _ N w14 hz hv).mono ?_
        rintro e w15 ⟨rfl, b15⟩
        rw [HS4.out]
        have hv := hv.below b15
        have hz := hz.below b15
        have hB := hB.below b15
        have B := B.trans (b15.mono B.size)
        clear b15
        go_wp2_with fail
        go_ret
        exact ⟨rfl, B⟩
      · have HU := Lib.hid (Int.not_lt.1 hU)
        clear hA hU
        go_wp2_with fail
        refine (shift_up v N s w hv (by omega)).mono ?_
        rintro e w1 ⟨ht, b1⟩
        obtain rfl := ht.over HU.out
        have hv := hv.below b1
        have hB := hB.below b1
        have B := B.trans (b1.mono B.size)
        clear b1
        go_wp2_with fail
        refine (shift_up v N 1 w1 hv (by omega)).mono ?_
        rintro e w2 ⟨ht, b2⟩
        obtain rfl := ht.over HA1.out
        have hv := hv.below b2
        have hB := hB.below b2
        have B := B.trans (b2.mono B.size)
        clear b2
        go_wp2_with fail
        refine (add_num v v N N w2 hv hv).mono ?_
        rintro e w3 ⟨ht, b3⟩
        obtain rfl := ht.over HA2.out
        have hv := hv.below b3
        have hB := hB.below b3
        have B := B.trans (b3.mono B.size)
        clear b3
        go_wp2_with fail
        refine (same_nil w3).mono ?_
        rintro e w4 ⟨rfl, b4⟩
        have hv := hv.below b4
        have hB := hB.below b4
        have B := B.trans (b4.mono B.size)
        clear b4
        go_wp2_with fail
        refine (alive_any w4 hB).mono ?_
        rintro e w5 ⟨rfl, b5⟩
        have hv := hv.below b5
        have hB := hB.below b5
        have B := B.trans (b5.mono B.size)
        clear b5
        go_wp2_with fail
        refine (shift_neg v N s w5 hv (by omega)).mono ?_
        rintro e w6 ⟨⟨d, rfl, hd⟩, b6⟩
        have hv := hv.below b6
        have hB := hB.below b6
        have B := B.trans (b6.mono B.size)
        clear b6
        go_wp2_with fail
        refine (of_num 1 w6 (by omega) (by omega)).mono ?_
        rintro e w7 ⟨⟨o, rfl, ho⟩, b7⟩
        have hv := hv.below b7
        have hd := hd.below b7
        have hB := hB.below b7
        have B := B.trans (b7.mono B.size)
        clear b7
        go_wp2_with fail
        refine (shift_up o 1 s w7 ho (by omega)).mono ?_
        rintro e w8 ⟨ht, b8⟩
        obtain ⟨p, rfl, hp⟩ := ht.ok HP.out
        clear ho
        have hv := hv.below b8
        have hd := hd.below b8
        have hB := hB.below b8
        have B := B.trans (b8.mono B.size)
        clear b8
        go_wp2_with fail
        refine (shift_up d (N / 2 ^ s) s w8 hd (by omega)).mono ?_
        rintro e w9 ⟨ht, b9⟩
        obtain ⟨y, rfl, hy⟩ := ht.ok HY.out
        have hv := hv.below b9
        have hd := hd.below b9
        have hp := hp.below b9
        have hB := hB.below b9
        have B := B.trans (b9.mono B.size)
        clear b9
        go_wp2_with fail
        refine (div_num v p N (1 * 2 ^ s) w9 hv hp HP0.out).mono ?_
        rintro e w10 ⟨⟨q, r, rfl, hq, hr⟩, b10⟩
        clear hp
        have hv := hv.below b10
        have hd := hd.below b10
        have hy := hy.below b10
        have hB := hB.below b10
        have B := B.trans (b10.mono B.size)
        clear b10
        go_wp2_with fail
        refine (add_num y r _ _ w10 hy hr).mono ?_
        rintro e w11 ⟨ht, b11⟩
        obtain ⟨z, rfl, hz⟩ := ht.ok HZ.out
        clear hy hr
        have hv := hv.below b11
        have hd := hd.below b11
        have hq := hq.below b11
        have hB := hB.below b11
        have B := B.trans (b11.mono B.size)
        clear b11
        go_wp2_with fail
        refine (same_num q d _ _ w11 hq hd).mono ?_
        rintro e w12 ⟨rfl, b12⟩
        rw [HS3.out]
        clear hq hd
        have hv := hv.below b12
        have hz := hz.below b12
        have hB := hB.below b12
        have B := B.trans (b12.mono B.size)
        clear b12
        go_wp2_with fail
        refine (same_num z v _ N w12 hz hv).mono ?_
        rintro e w13 ⟨rfl, b13⟩
        rw [HS4.out]
        have hv := hv.below b13
        have hz := hz.below b13
        have hB := hB.below b13
        have B := B.trans (b13.mono B.size)
        clear b13
        go_wp2_with fail
        go_ret
        exact ⟨rfl, B⟩
end Go.Proofs.YtondjnmpfpfpmaaDoor
