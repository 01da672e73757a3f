import Derived.Test.YtkmnfkhchcoamaaGreatDoorTyA
/- The reference's At: where a type stands. -/
namespace Go.Proofs.YtkmnfkhchcoamaaGreatDoor
open Go.RowKit
set_option linter.unusedSimpArgs false
set_option linter.unusedVariables false

theorem atT_some {l : List Ty} {t : Ty} {k : Nat} (hk : k < l.length) (h : l[k] = t) (hno : ∀ j (hj : j < l.length), j < k → l[j] ≠ t) : atT l t = (k : Int) := by
  unfold atT
  have : l.findIdx? (fun x => decide (x = t)) = some k := by
    rw [List.findIdx?_eq_some_iff_getElem]
    exact ⟨hk, decide_eq_true h, fun j hj => by simpa using hno j (by omega) hj⟩
  rw [this]
theorem atT_none {l : List Ty} {t : Ty} (hno : ∀ j (hj : j < l.length), l[j] ≠ t) : atT l t = -1 := by
  unfold atT
  have : l.findIdx? (fun x => decide (x = t)) = none := by
    rw [List.findIdx?_eq_none_iff]
    intro x hx
    obtain ⟨j, hj, rfl⟩ := List.getElem_of_mem hx
    exact decide_eq_false (hno j hj)
  rw [this]
set_option maxHeartbeats 4000000 in
set_option maxRecDepth 100000 in
theorem at_any (l : List Ty) (ao : Option Addr) (ac : Nat) (t : Ty) (wo ko : Option Addr) (wc kc : Nat) (w : World) (hl : ARow w ao l) (ht : TyC w wo ko t) (ll : l.length ≤ 1000) :
    Calls Tryz.prog 43 #[.slice ao l.length ac, tyV t wo wc ko kc] w fun e w' => e = .returned (.int .i64 (atT l t)) ∧ Below w.heap.size w w' := by
  obtain ⟨r, hr⟩ : ∃ r, atT l t = r := ⟨_, rfl⟩
  rw [hr]
  have HR := Lib.hid hr
  clear hr
  obtain ⟨n, hn⟩ : ∃ n, l.length = n := ⟨_, rfl⟩
  have HN := Lib.hid hn
  have HA := Lib.hid hl
  have HT := Lib.hid ht
  rw [hn] at ll ⊢
  obtain ⟨w1, h1⟩ : ∃ w1, w.alloc (.cells #[.int .i64 t.kind, .string t.name, .int .i64 t.n, .slice wo t.words.length wc, .slice ko t.kids.length kc] 38) = w1 := ⟨_, rfl⟩
  obtain ⟨k1, q1, z1⟩ := box_new h1
  have BW := Lib.hid q1
  have K1 := Lib.hid k1
  clear hn hl ht k1 q1 z1
  unfold tyV
  go_enter Tryz.func43, Tryz.ntmps43
  go_wp2_with fail
  clear h1
  go_loopw [9] (fun i wr => ∃ k : Nat, k ≤ n ∧ i = .int .i64 k ∧ Hid (∀ j (hj : j < l.length), j < k → l[j] ≠ t) ∧ Hid (Below w1.heap.size w1 wr)) (fun i _ => n - (intOf i).toNat)
  case atStart => exact ⟨0, Nat.zero_le _, rfl, Lib.hid (fun j _ hj => absurd hj (Nat.not_lt_zero _)), Lib.hid (Below.refl _ _)⟩
  case round =>
    obtain ⟨k, hk, rfl, Hno, HB⟩ := hrel
    have BB := Lib.hid (BW.out.trans (HB.out.mono BW.out.size))
    by_cases hkl : k < n
    · obtain ⟨ab, aof, rfl, hab, hac⟩ := (HA.out.below BB.out).cells (by rw [HN.out]; omega)
      have hat := hac k (by rw [HN.out]; exact hkl)
      obtain ⟨x, hx⟩ : ∃ x, l[k]'(by rw [HN.out]; exact hkl) = x := ⟨_, rfl⟩
      rw [hx] at hat
      have HX := Lib.hid hx
      obtain ⟨xw, xwc, xk, xkc, a0, a1, a2, a3, a4, -, -, hxc⟩ := hat
      clear hx hac hab
      obtain ⟨wn, hwn⟩ : ∃ wn, wr.alloc (.cells #[.int .i64 x.kind, .string x.name, .int .i64 x.n, .slice xw x.words.length xwc, .slice xk x.kids.length xkc] 38) = wn := ⟨_, rfl⟩
      obtain ⟨k2, q2, z2⟩ := box_new hwn
      obtain ⟨c0, c1, c2, c3, c4⟩ := cell5 k2
      obtain ⟨d0, d1, d2, d3, d4⟩ := cell5 ((K1.out.below HB.out).below q2)
      have HL := Lib.hid (like_any x t xw xk wo ko xwc xkc wc kc wn (hxc.below q2) ((HT.out.below BB.out).below q2))
      unfold tyV at HL
      have BN := Lib.hid (HB.out.trans (q2.mono HB.out.size))
      clear k2 q2 hxc
      by_cases he : x = t
      · rw [decide_eq_true he] at HL
        have Hn := Lib.hid (show (k : Int) = r by
          rw [← HR.out]
          exact (atT_some (by rw [HN.out]; exact hkl) (by rw [HX.out]; exact he) Hno.out).symm)
        clear he
        go_wp2_with fail
        refine HL.out.mono ?_
        rintro e w' ⟨rfl, b⟩
        have B2 := Lib.hid (BN.out.trans (b.mono BN.out.size))
        clear b hwn c0 c1 c2 c3 c4 d0 d1 d2 d3 d4 a0 a1 a2 a3 a4
        go_wp2_with fail
        go_ret
        exact ⟨ret_int Hn.out, BW.out.trans (B2.out.mono BW.out.size)⟩
      · rw [decide_eq_false he] at HL
        have Hx := Lib.hid (show ∀ j (hj : j < l.length), j < k + 1 → l[j] ≠ t from fun j h1 hj => by
          rcases Nat.lt_or_eq_of_le (Nat.le_of_lt_succ hj) with h3 | h3
          · exact Hno.out j h1 h3
          · subst h3; rw [HX.out]; exact he)
        clear he
        go_wp2_with fail
        refine HL.out.mono ?_
        rintro e w' ⟨rfl, b⟩
        have B2 := Lib.hid (BN.out.trans (b.mono BN.out.size))
        clear b hwn c0 c1 c2 c3 c4 d0 d1 d2 d3 d4 a0 a1 a2 a3 a4
        go_wp2_with fail
        go_roundw
        case rel => exact ⟨k + 1, by omega, by go_num, Hx, B2⟩
        case measure => first | (simp [intOf]; done) | (simp [intOf]; omega)
    · obtain rfl : k = n := by omega
      have Hn := Lib.hid (show -1 = r by
        rw [← HR.out]
        exact (atT_none (fun j hj => Hno.out j hj (by rw [← HN.out]; exact hj))).symm)
      go_wp2_with fail
      go_ret
      exact ⟨ret_int Hn.out, BB.out⟩
end Go.Proofs.YtkmnfkhchcoamaaGreatDoor

