import Derived.Test.YtkmnfkhchcoamaaGreatDoorTyA
import Derived.StillTailTactics
/- The reference's Arenas: are two rows of types the same? -/
namespace Go.Proofs.YtkmnfkhchcoamaaGreatDoor
open Go.RowKit
set_option linter.unusedSimpArgs false
set_option linter.unusedVariables false

set_option maxHeartbeats 4000000 in
set_option maxRecDepth 100000 in
theorem arenas_any (xs ys : List Ty) (ao bo : Option Addr) (ac bc : Nat) (w : World) (hx : ARow w ao xs) (hy : ARow w bo ys) (lx : xs.length ≤ 1000) (ly : ys.length ≤ 1000) :
    Calls Tryz.prog 14 #[.slice ao xs.length ac, .slice bo ys.length bc] w fun e w' => e = .returned (.bool (decide (xs = ys))) ∧ Below w.heap.size w w' := by
  obtain ⟨r, hr⟩ : ∃ r, decide (xs = ys) = r := ⟨_, rfl⟩
  rw [hr]
  have HR := Lib.hid hr
  clear hr
  obtain ⟨n, hn⟩ : ∃ n, xs.length = n := ⟨_, rfl⟩
  obtain ⟨m, hm⟩ : ∃ m, ys.length = m := ⟨_, rfl⟩
  have HN := Lib.hid hn
  have HM := Lib.hid hm
  have HX := Lib.hid hx
  have HY := Lib.hid hy
  rw [hn] at lx ⊢
  rw [hm] at ly ⊢
  clear hn hm hx hy
  by_cases hnm : n = m
  case neg =>
    have Hn := Lib.hid (show false = r by
      rw [← HR.out]; symm; rw [decide_eq_false_iff_not]; intro e
      exact hnm (by rw [← HN.out, ← HM.out, e]))
    have hq : ((n : Int) == (m : Int)) = false := by rw [beq_eq_false_iff_ne]; omega
    go_enter Tryz.func14, Tryz.ntmps14
    go_wp2_with fail
    go_ret
    exact ⟨ret_bool Hn.out, Below.refl _ _⟩
  subst hnm
  go_enter Tryz.func14, Tryz.ntmps14
  go_wp2_with fail
  go_loopw [13] (fun i wr => ∃ k : Nat, k ≤ n ∧ i = .int .i64 k ∧ Hid (∀ j (h1 : j < xs.length) (h2 : j < ys.length), j < k → xs[j] = ys[j]) ∧ Hid (Below w.heap.size w wr)) (fun i _ => n - (intOf i).toNat)
  case atStart => exact ⟨0, Nat.zero_le _, rfl, Lib.hid (fun j _ _ hj => absurd hj (Nat.not_lt_zero _)), Lib.hid (Below.refl _ _)⟩
  case round =>
    obtain ⟨k, hk, rfl, Hall, HB⟩ := hrel
    by_cases hkl : k < n
    · have hkx : k < xs.length := by rw [HN.out]; exact hkl
      have hky : k < ys.length := by rw [HM.out]; exact hkl
      obtain ⟨ab, aof, rfl, hab, hac⟩ := (HX.out.below HB.out).cells (by omega)
      obtain ⟨bb, bof, rfl, hbb, hbc⟩ := (HY.out.below HB.out).cells (by omega)
      have hat := hac k hkx
      have hbt := hbc k hky
      obtain ⟨x, hx⟩ : ∃ x, xs[k] = x := ⟨_, rfl⟩
      obtain ⟨y, hy⟩ : ∃ y, ys[k] = y := ⟨_, rfl⟩
      rw [hx] at hat
      rw [hy] at hbt
      have HXY := Lib.hid (And.intro hx hy)
      obtain ⟨xw, xwc, xk, xkc, a0, a1, a2, a3, a4, -, -, hxc⟩ := hat
      obtain ⟨yw, ywc, yk, ykc, b0, b1, b2, b3, b4, -, -, hyc⟩ := hbt
      have HL := Lib.hid (like_any x y xw xk yw yk xwc xkc ywc ykc wr.drew (hxc.below (Below.refl _ _).drew) (hyc.below (Below.refl _ _).drew))
      unfold tyV at HL
      clear hx hy hac hbc hab hbb hxc hyc
      go_wp2_with fail
      go_still_tail 8, (by kernel_rfl)
      clear a0 a1 a2 a3 a4 b0 b1 b2 b3 b4
      change wpList _ _ _ _ _ wr.drew
      have BD := Lib.hid (show Below w.heap.size w wr.drew from HB.out.drew)
      generalize wr.drew = w2 at *
      by_cases he : x = y
      · rw [decide_eq_true he] at HL
        have Hx := Lib.hid (show ∀ j (h1 : j < xs.length) (h2 : j < ys.length), j < k + 1 → xs[j] = ys[j] from fun j h1 h2 hj => by
          rcases Nat.lt_or_eq_of_le (Nat.le_of_lt_succ hj) with h3 | h3
          · exact Hall.out j h1 h2 h3
          · subst h3; rw [HXY.out.1, HXY.out.2]; exact he)
        clear he
        go_wp2_with fail
        refine HL.out.mono ?_
        rintro e w' ⟨rfl, b⟩
        have B2 := Lib.hid (BD.out.trans (b.mono BD.out.size))
        clear b
        go_wp2_with fail
        go_roundw
        case rel => exact ⟨k + 1, by omega, by go_num, Hx, B2⟩
        case measure => first | (simp [intOf]; done) | (simp [intOf]; omega)
      · rw [decide_eq_false he] at HL
        have Hn := Lib.hid (show false = r by
          rw [← HR.out]; symm; rw [decide_eq_false_iff_not]; intro e
          subst e
          exact he (HXY.out.1.symm.trans HXY.out.2))
        clear he
        go_wp2_with fail
        refine HL.out.mono ?_
        rintro e w' ⟨rfl, b⟩
        have B2 := Lib.hid (BD.out.trans (b.mono BD.out.size))
        clear b
        go_wp2_with fail
        go_ret
        exact ⟨ret_bool Hn.out, B2.out⟩
    · obtain rfl : k = n := by omega
      have Hn := Lib.hid (show true = r by
        rw [← HR.out]; symm; rw [decide_eq_true_iff]
        exact List.ext_getElem (HN.out.trans HM.out.symm) (fun j h1 h2 => Hall.out j h1 h2 (by rw [← HN.out]; exact h1)))
      go_wp2_with fail
      go_ret
      exact ⟨ret_bool Hn.out, HB.out⟩
end Go.Proofs.YtkmnfkhchcoamaaGreatDoor

