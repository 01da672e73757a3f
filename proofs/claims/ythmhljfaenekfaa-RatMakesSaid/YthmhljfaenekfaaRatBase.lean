/- Rational numbers: one, greatest, reduced. -/
import Derived.Test.YthmhljfaenekfaaNE
namespace Go.Proofs.Ythmhljfaenekfaa
open Go.RowKit NM

set_option maxHeartbeats 400000 in
theorem one_num (v : Value) (N : Int) (w : World) (h : Num w v N) :
    Calls Try.prog 39 #[v] w fun e w' => e = .returned (.bool (decide (N = 1))) ∧ w = w' := by
  obtain ⟨ao, n, cap, rfl, hn16, hn0, hn1, hn2⟩ := h.len
  by_cases h1 : n = 1
  · subst h1
    obtain ⟨b, off, rfl, hc, _⟩ := hn1 rfl
    have hz := Lib.hid (show (N == 1) = decide (N = 1) by rw [Bool.eq_iff_iff]; simp)
    clear hn0 hn1 hn2 h
    go_enter Try.func39, Try.ntmps39
    go_wp2_with fail
    go_ret
    exact ⟨ret_bool (by rw [← hz.out]), rfl⟩
  · have hne : ((n : Int) == 1) = false := by rw [beq_eq_false_iff_ne]; omega
    have hz := Lib.hid (show decide (N = 1) = false by
      rw [decide_eq_false_iff_not]
      intro hN
      rcases Nat.eq_zero_or_pos n with h0 | h0
      · have := hn0.1 h0; omega
      · have := hn2 (by omega); omega)
    clear hn0 hn1 hn2 h h1
    go_enter Try.func39, Try.ntmps39
    go_wp2_with fail
    go_ret
    exact ⟨ret_bool hz.out.symm, rfl⟩

set_option maxHeartbeats 800000 in
set_option maxRecDepth 100000 in
theorem greatest_num (v u : Value) (N M : Nat) (w : World) (h1 : Num w v N) (h2 : Num w u M) :
    Calls Try.prog 40 #[v, u] w fun e w' => (∃ r, e = .returned r ∧ Num w' r (Nat.gcd N M : Nat)) ∧ Below w.heap.size w w' := by
  have H1 := Lib.hid h1
  have H2 := Lib.hid h2
  clear h1 h2
  go_enter Try.func40, Try.ntmps40
  go_wp2_with fail
  go_loopg [0, 1] M (fun k va vb wr => ∃ A : Nat, Hid (Num wr va A) ∧ Hid (Num wr vb k) ∧ Hid (Nat.gcd A k = Nat.gcd N M) ∧ Hid (Below w.heap.size w wr))
  case atStart => exact ⟨N, H1, H2, Lib.hid rfl, Lib.hid (Below.refl _ _)⟩
  case round =>
    obtain ⟨A, ha, hb, hg, hbl⟩ := hrel
    obtain ⟨bo, n, bc, rfl, -, hn0, -, -⟩ := hb.out.len
    by_cases hk0 : gk = 0
    · subst hk0
      obtain rfl : n = 0 := hn0.2 rfl
      have hA : A = Nat.gcd N M := by rw [← hg.out, Nat.gcd_zero_right]
      rw [hA] at ha
      have HO := Lib.hid (one_num _ _ _ hb.out)
      rw [decide_eq_false (show ¬ ((0 : Nat) : Int) = 1 by omega)] at HO
      clear hn0 hA
      go_wp2_with fail
      refine HO.out.mono ?_
      rintro e w' ⟨rfl, rfl⟩
      clear HO
      go_wp2_with fail
      go_ret
      exact ⟨⟨_, rfl, ha.out⟩, hbl.out⟩
    · have hn : (0 : Int) < n := by
        have : n ≠ 0 := fun h => hk0 (by have := hn0.1 h; omega)
        omega
      have HO := Lib.hid (one_num _ _ _ hb.out)
      by_cases hk1 : gk = 1
      · have HR := hb
        rw [show gk = Nat.gcd N M by rw [← hg.out, hk1, Nat.gcd_one_right]] at HR
        rw [decide_eq_true (show (gk : Int) = 1 by omega)] at HO
        clear hn0 hk1 hk0
        go_wp2_with fail
        refine HO.out.mono ?_
        rintro e w' ⟨rfl, rfl⟩
        go_wp2_with fail
        refine HO.out.mono ?_
        rintro e w' ⟨rfl, rfl⟩
        clear HO
        go_wp2_with fail
        go_ret
        exact ⟨⟨_, rfl, HR.out⟩, hbl.out⟩
      · rw [decide_eq_false (show ¬ (gk : Int) = 1 by omega)] at HO
        have HD := Lib.hid (div_num _ _ (A : Int) (gk : Int) _ ha.out hb.out (by omega))
        have hgg := Lib.hid (show Nat.gcd gk (A % gk) = Nat.gcd N M by rw [← hg.out, Nat.gcd_comm A gk, Nat.gcd_rec gk A, Nat.gcd_comm])
        have hlt := Lib.hid (Nat.mod_lt A (Nat.pos_of_ne_zero hk0))
        clear hn0 hk1 hk0
        go_wp2_with fail
        refine HO.out.mono ?_
        rintro e w' ⟨rfl, rfl⟩
        go_wp2_with fail
        refine HD.out.mono ?_
        rintro e w2 ⟨⟨q, r, rfl, -, hr⟩, hb2⟩
        have Hr := Lib.hid (show Num w2 r ((A % gk : Nat) : Int) from hr)
        have Hb := Lib.hid (hb.out.below hb2)
        have Hl := Lib.hid (hbl.out.trans (hb2.mono hbl.out.size))
        clear HO HD hr hb2
        go_wp2_with fail
        go_roundg (A % gk)
        case measure => exact hlt.out
        case rel => exact ⟨gk, Hb, Hr, hgg, Hl⟩
end Go.Proofs.Ythmhljfaenekfaa
