import Derived.Test.YtkmnfkhchcoamaaGreatDoorUnP
import Derived.Test.YtkmnfkhchcoamaaGreatDoorTypPA
import Derived.Laws.StructEq
import Derived.Test.YtkmnfkhchcoamaaGreatDoorUnB
import Derived.Test.YtkmnfkhchcoamaaGreatDoorTypArena
/- The program's Like. -/
namespace Go.Proofs.YtkmnfkhchcoamaaGreatDoor
open Go.RowKit
set_option linter.unusedSimpArgs false
set_option linter.unusedVariables false

def noM : Mt := ⟨⟨#[]⟩, false, 0⟩
def mtB (a b : ByteArray) (p q : Bool) (i j : Int) : Bool := decide (a = b) && (p == q) && (i == j)
end Go.Proofs.YtkmnfkhchcoamaaGreatDoor
/- The reference's Methods, Like. -/
namespace Go.Proofs.YtkmnfkhchcoamaaGreatDoor
open Go.RowKit
set_option linter.unusedSimpArgs false
set_option linter.unusedVariables false

set_option maxHeartbeats 8000000 in
set_option maxRecDepth 100000 in
theorem refmeth_any (xs ys : List Mt) (ao bo : Option Addr) (ac bc : Nat) (w : World) (hx : MRow w ao xs) (hy : MRow w bo ys) (lx : xs.length ≤ 1000) (ly : ys.length ≤ 1000) :
    Calls Tryz.prog 31 #[.slice ao xs.length ac, .slice bo ys.length bc] w fun e w' => e = .returned (.bool (decide (xs = ys))) ∧ Below w.heap.size w w' := by
  obtain ⟨r, hr⟩ : ∃ r, decide (xs = ys) = r := ⟨_, rfl⟩
  rw [hr]
  have HR := Lib.hid hr
  clear hr
  obtain ⟨n, hn⟩ : ∃ n, xs.length = n := ⟨_, rfl⟩
  obtain ⟨m, hm⟩ : ∃ m, ys.length = m := ⟨_, rfl⟩
  have HN := Lib.hid hn
  have HM := Lib.hid hm
  have HX := Lib.hid hx
  have HY := Lib.hid hy
  rw [hn] at lx ⊢
  rw [hm] at ly ⊢
  clear hn hm hx hy
  by_cases hnm : n = m
  case neg =>
    have Hn := Lib.hid (show false = r by
      rw [← HR.out]; symm; rw [decide_eq_false_iff_not]; intro e
      exact hnm (by rw [← HN.out, ← HM.out, e]))
    have hq : ((n : Int) == (m : Int)) = false := by rw [beq_eq_false_iff_ne]; omega
    have hq2 : ((n : Int) != (m : Int)) = true := by rw [bne, hq]; rfl
    go_enter Tryz.func31, Tryz.ntmps31
    go_wp2_with fail
    go_ret
    exact ⟨ret_bool Hn.out, Below.refl _ _⟩
  subst hnm
  go_enter Tryz.func31, Tryz.ntmps31
  go_wp2_with fail
  go_loopw [13] (fun i wr => ∃ k : Nat, k ≤ n ∧ i = .int .i64 k ∧ Hid (∀ j (h1 : j < xs.length) (h2 : j < ys.length), j < k → xs[j] = ys[j]) ∧ Hid (Below w.heap.size w wr)) (fun i _ => n - (intOf i).toNat)
  case atStart => exact ⟨0, Nat.zero_le _, rfl, Lib.hid (fun j _ _ hj => absurd hj (Nat.not_lt_zero _)), Lib.hid (Below.refl _ _)⟩
  case round =>
    obtain ⟨k, hk, rfl, Hall, HB⟩ := hrel
    by_cases hkl : k < n
    · have hkI : (k : Int) < (n : Int) := by omega
      have hkx : k < xs.length := by rw [HN.out]; exact hkl
      have hky : k < ys.length := by rw [HM.out]; exact hkl
      obtain ⟨ab, aof, rfl, hab, hac⟩ := (HX.out.below HB.out).cells (by omega)
      obtain ⟨bb, bof, rfl, hbb, hbc⟩ := (HY.out.below HB.out).cells (by omega)
      obtain ⟨a0, a1, a2⟩ := hac k hkx
      obtain ⟨b0, b1, b2⟩ := hbc k hky
      obtain ⟨x, hx⟩ : ∃ x, xs[k] = x := ⟨_, rfl⟩
      obtain ⟨y, hy⟩ : ∃ y, ys[k] = y := ⟨_, rfl⟩
      rw [hx] at a0 a1 a2
      rw [hy] at b0 b1 b2
      have HXY := Lib.hid (And.intro hx hy)
      have BADR := Lib.hid (show x ≠ y → false = r from fun h => by
        rw [← HR.out]; symm; rw [decide_eq_false_iff_not]; intro e
        subst e
        exact h (HXY.out.1.symm.trans HXY.out.2))
      have GOOD := Lib.hid (show x = y → ∀ j (h1 : j < xs.length) (h2 : j < ys.length), j < k + 1 → xs[j] = ys[j] from fun he j h1 h2 hj => by
        rcases Nat.lt_or_eq_of_le (Nat.le_of_lt_succ hj) with h3 | h3
        · exact Hall.out j h1 h2 h3
        · subst h3; rw [HXY.out.1, HXY.out.2]; exact he)
      obtain ⟨xn, xp, xs'⟩ := x
      obtain ⟨yn, yp, ys'⟩ := y
      replace a0 : wr.cell? ⟨ab, aof + k * 3, none⟩ = some (.string xn) := a0
      replace a1 : wr.cell? ⟨ab, aof + k * 3 + 1, none⟩ = some (.bool xp) := a1
      replace a2 : wr.cell? ⟨ab, aof + k * 3 + 2, none⟩ = some (.int .i64 xs') := a2
      replace b0 : wr.cell? ⟨bb, bof + k * 3, none⟩ = some (.string yn) := b0
      replace b1 : wr.cell? ⟨bb, bof + k * 3 + 1, none⟩ = some (.bool yp) := b1
      replace b2 : wr.cell? ⟨bb, bof + k * 3 + 2, none⟩ = some (.int .i64 ys') := b2
      clear hx hy hac hbc hab hbb
      by_cases en : xn = yn
      case neg =>
        have Hn := Lib.hid (BADR.out (fun g => en (by injection g)))
        have hq : (xn.toList == yn.toList) = false := (ty_str_eq _ _).trans (decide_eq_false en)
        have hq2 : (xn.toList != yn.toList) = true := by rw [bne, hq]; rfl
        clear en
        go_wp2_with fail
        go_quiet (fail)
        go_wp2_with fail
        go_ret
        exact ⟨ret_bool Hn.out, below_drewN HB.out _⟩
      subst en
      by_cases ep : xp = yp
      case neg =>
        have Hn := Lib.hid (BADR.out (fun g => ep (by injection g)))
        cases xp <;> cases yp
        · exact absurd rfl ep
        · clear ep
          go_wp2_with fail
          go_quiet (fail)
          go_wp2_with fail
          go_ret
          exact ⟨ret_bool Hn.out, below_drewN HB.out _⟩
        · clear ep
          go_wp2_with fail
          go_quiet (fail)
          go_wp2_with fail
          go_ret
          exact ⟨ret_bool Hn.out, below_drewN HB.out _⟩
        · exact absurd rfl ep
      subst ep
      by_cases es : xs' = ys'
      case neg =>
        have Hn := Lib.hid (BADR.out (fun g => es (by injection g)))
        have hq : (xs' == ys') = false := by rw [beq_eq_false_iff_ne]; exact es
        have hq2 : (xs' != ys') = true := by rw [bne, hq]; rfl
        clear es
        cases xp
        · skip
          go_wp2_with fail
          go_quiet (fail)
          go_wp2_with fail
          go_ret
          exact ⟨ret_bool Hn.out, below_drewN HB.out _⟩
        · skip
          go_wp2_with fail
          go_quiet (fail)
          go_wp2_with fail
          go_ret
          exact ⟨ret_bool Hn.out, below_drewN HB.out _⟩
      subst es
      have Hx := Lib.hid (GOOD.out rfl)
      cases xp
      · skip
        go_wp2_with fail
        go_quiet (fail)
        go_wp2_with fail
        go_roundw
        case rel => exact ⟨k + 1, by omega, by go_num, Hx, Lib.hid (below_drewN HB.out _)⟩
        case measure => first | (simp [intOf]; done) | (simp [intOf]; omega)
      · skip
        go_wp2_with fail
        go_quiet (fail)
        go_wp2_with fail
        go_roundw
        case rel => exact ⟨k + 1, by omega, by go_num, Hx, Lib.hid (below_drewN HB.out _)⟩
        case measure => first | (simp [intOf]; done) | (simp [intOf]; omega)
    · obtain rfl : k = n := by omega
      have Hn := Lib.hid (show true = r by
        rw [← HR.out]; symm; rw [decide_eq_true_iff]
        exact List.ext_getElem (HN.out.trans HM.out.symm) (fun j h1 h2 => Hall.out j h1 h2 (by rw [← HN.out]; exact h1)))
      go_wp2_with fail
      go_ret
      exact ⟨ret_bool Hn.out, HB.out⟩
set_option maxHeartbeats 16000000 in
set_option maxRecDepth 100000 in
theorem reflike_uany (u v : Un) (ao no bo mo : Option Addr) (ac nc bc mc : Nat) (w : World) (hU : UnC w ao no ac nc u) (hV : UnC w bo mo bc mc v) :
    Calls Tryz.prog 10 #[unV u ao ac no nc, unV v bo bc mo mc] w fun e w' => e = .returned (.bool (decide (u = v))) ∧ Below w.heap.size w w' := by
  obtain ⟨R, hR⟩ : ∃ R, decide (u = v) = R := ⟨_, rfl⟩
  rw [hR]
  have HR := Lib.hid hR
  have HU := Lib.hid hU
  have HV := Lib.hid hV
  have hnl := hU.nl
  have hml := hV.nl
  obtain ⟨w1, h1⟩ : ∃ w1, w.alloc (.cells #[.slice ao u.types.length ac, .slice no u.named.length nc] 25) = w1 := ⟨_, rfl⟩
  obtain ⟨k1, q1, z1⟩ := box_new h1
  obtain ⟨w2, h2⟩ : ∃ w2, w1.alloc (.cells #[.slice bo v.types.length bc, .slice mo v.named.length mc] 25) = w2 := ⟨_, rfl⟩
  obtain ⟨k2, q2, z2⟩ := box_new h2
  have B2 := Lib.hid (q1.trans (q2.mono q1.size))
  have HT0 := arenas_any u.types v.types ao bo ac bc w2 (hU.types.below B2.out) (hV.types.below B2.out) hU.tl hV.tl
  obtain ⟨n, hn⟩ : ∃ n, u.named.length = n := ⟨_, rfl⟩
  obtain ⟨m, hm⟩ : ∃ m, v.named.length = m := ⟨_, rfl⟩
  have HN := Lib.hid hn
  have HM := Lib.hid hm
  unfold unV
  rw [hn] at h1 k1 hnl ⊢
  rw [hm] at h2 k2 hml ⊢
  have K1 := Lib.hid (k1.below q2)
  have K2 := Lib.hid k2
  obtain ⟨c0, c1⟩ := cell2 (k1.below q2)
  obtain ⟨d0, d1⟩ := cell2 k2
  have BADR := Lib.hid (show (u = v → False) → false = R from fun h => by rw [← HR.out, decide_eq_false h])
  clear k1 k2 q1 q2 z1 z2 hU hV hR hn hm
  go_enter Tryz.func10, Tryz.ntmps10
  cases hw : decide (u.types = v.types) <;> rw [hw] at HT0 <;> have HT := Lib.hid HT0 <;> have HTE := Lib.hid hw <;> clear hw HT0
  · have Hn := Lib.hid (BADR.out fun g => of_decide_eq_false HTE.out (by rw [g]))
    go_wp2_with fail
    refine HT.out.mono ?_
    rintro e w3 ⟨rfl, b⟩
    have B3 := Lib.hid (B2.out.trans (b.mono B2.out.size))
    clear b h1 h2 c0 c1 d0 d1
    go_wp2_with fail
    go_ret
    exact ⟨ret_bool Hn.out, B3.out⟩
  by_cases hnm : n = m
  case neg =>
    have Hn := Lib.hid (BADR.out fun g => hnm (by rw [← HN.out, ← HM.out, g]))
    have hq : ((n : Int) == (m : Int)) = false := by rw [beq_eq_false_iff_ne]; omega
    have hq2 : ((n : Int) != (m : Int)) = true := by rw [bne, hq]; rfl
    go_wp2_with fail
    refine HT.out.mono ?_
    rintro e w3 ⟨rfl, b⟩
    have B3 := Lib.hid (B2.out.trans (b.mono B2.out.size))
    clear h1 h2 c0 c1 d0 d1
    obtain ⟨c0, c1⟩ := cell2 (K1.out.below b)
    obtain ⟨d0, d1⟩ := cell2 (K2.out.below b)
    clear b
    go_wp2_with fail
    go_ret
    exact ⟨ret_bool Hn.out, B3.out⟩
  subst hnm
  go_wp2_with fail
  refine HT.out.mono ?_
  rintro e w3 ⟨rfl, b⟩
  have B3 := Lib.hid (B2.out.trans (b.mono B2.out.size))
  clear h1 h2 c0 c1 d0 d1
  have K13 := Lib.hid (K1.out.below b)
  have K23 := Lib.hid (K2.out.below b)
  obtain ⟨c0, c1⟩ := cell2 K13.out
  obtain ⟨d0, d1⟩ := cell2 K23.out
  clear b HT K1 K2
  go_wp2_with fail
  clear c0 c1 d0 d1
  go_loopw [27] (fun i wr => ∃ k : Nat, k ≤ n ∧ i = .int .i64 k ∧ Hid (∀ j (h1 : j < u.named.length) (h2 : j < v.named.length), j < k → u.named[j] = v.named[j]) ∧ Hid (Below w3.heap.size w3 wr)) (fun i _ => n - (intOf i).toNat)
  case atStart => exact ⟨0, Nat.zero_le _, rfl, Lib.hid (fun j _ _ hj => absurd hj (Nat.not_lt_zero _)), Lib.hid (Below.refl _ _)⟩
  case round =>
    obtain ⟨k, hk, rfl, Hall, HB⟩ := hrel
    have BW := Lib.hid (B3.out.trans (HB.out.mono B3.out.size))
    obtain ⟨c0, c1⟩ := cell2 (K13.out.below HB.out)
    obtain ⟨d0, d1'⟩ := cell2 (K23.out.below HB.out)
    by_cases hkl : k < n
    · have hkI : (k : Int) < (n : Int) := by omega
      have hkx : k < u.named.length := by rw [HN.out]; exact hkl
      have hky : k < v.named.length := by rw [HM.out]; exact hkl
      obtain ⟨ab, aof, rfl, hab, hac⟩ := (HU.out.named.below BW.out).cells (by omega)
      obtain ⟨bb, bof, rfl, hbb, hbc⟩ := (HV.out.named.below BW.out).cells (by omega)
      have hat := hac k hkx
      have hbt := hbc k hky
      obtain ⟨x, hx⟩ : ∃ x, u.named[k] = x := ⟨_, rfl⟩
      obtain ⟨y, hy⟩ : ∃ y, v.named[k] = y := ⟨_, rfl⟩
      rw [hx] at hat
      rw [hy] at hbt
      have HXY := Lib.hid (And.intro hx hy)
      have BADX := Lib.hid (show x ≠ y → false = R from fun h => BADR.out fun e => by
        subst e
        exact h (HXY.out.1.symm.trans HXY.out.2))
      have GOOD := Lib.hid (show x = y → ∀ j (h1 : j < u.named.length) (h2 : j < v.named.length), j < k + 1 → u.named[j] = v.named[j] from fun he j h1 h2 hj => by
        rcases Nat.lt_or_eq_of_le (Nat.le_of_lt_succ hj) with h3 | h3
        · exact Hall.out j h1 h2 h3
        · subst h3; rw [HXY.out.1, HXY.out.2]; exact he)
      obtain ⟨xb, xbc, xm, xmc, a0, a1, a2, a3, hxb, -, hxc⟩ := hat
      obtain ⟨yb, ybc, ym, ymc, b0', b1', b2', b3', hyb, -, hyc⟩ := hbt
      obtain ⟨w4, h1⟩ : ∃ w4, wr.alloc (.cells #[.string x.name, .slice xb x.bounds.length xbc, .int .i64 x.under, .slice xm x.methods.length xmc] 51) = w4 := ⟨_, rfl⟩
      obtain ⟨k1, q1, z1⟩ := box_new h1
      obtain ⟨w5, h2⟩ : ∃ w5, w4.alloc (.cells #[.string y.name, .slice yb y.bounds.length ybc, .int .i64 y.under, .slice ym y.methods.length ymc] 51) = w5 := ⟨_, rfl⟩
      obtain ⟨k2, q2', z2⟩ := box_new h2
      have q2 := q1.trans (q2'.mono q1.size)
      have b0 := (q1.cell (p := ⟨bb, bof + k * 4, none⟩) hbb).trans b0'
      have b1 := (q1.cell (p := ⟨bb, bof + k * 4 + 1, none⟩) hbb).trans b1'
      have b2 := (q1.cell (p := ⟨bb, bof + k * 4 + 2, none⟩) hbb).trans b2'
      have b3 := (q1.cell (p := ⟨bb, bof + k * 4 + 3, none⟩) hbb).trans b3'
      have d1 := (q1.cell (p := ⟨w1.heap.size, 1, none⟩) (cell_ltB d1')).trans d1'
      have B5 := Lib.hid (HB.out.trans (q2.mono HB.out.size))
      have B5w := Lib.hid (B3.out.trans (B5.out.mono B3.out.size))
      have KX := Lib.hid (k1.below q2')
      have KY := Lib.hid k2
      have HXC := Lib.hid (hxc.below q2)
      have HYC := Lib.hid (hyc.below q2)
      obtain ⟨x0, x1, x2, x3⟩ := cell4 (k1.below q2')
      obtain ⟨y0, y1, y2, y3⟩ := cell4 k2
      have HME0 := refmeth_any x.methods y.methods xm ym xmc ymc w5 HXC.out.methods HYC.out.methods (by have := HXC.out.ok.ml; omega) (by have := HYC.out.ok.ml; omega)
      have hyl := HYC.out.ok.bl
      have hxl := HXC.out.ok.bl
      clear hx hy hac hbc hab hbb hxc hyc k1 k2 q1 q2 q2' z1 z2 b0' b1' b2' b3' d1'
      obtain ⟨p, hp⟩ : ∃ p, x.bounds.length = p := ⟨_, rfl⟩
      obtain ⟨q, hq⟩ : ∃ q, y.bounds.length = q := ⟨_, rfl⟩
      have HP := Lib.hid hp
      have HQ := Lib.hid hq
      rw [hp] at a1 h1 x1 hxl KX hxb
      rw [hq] at b1 h2 y1 hyl KY hyb
      clear hp hq
      by_cases en : x.name = y.name
      case neg =>
        have Hn := Lib.hid (BADX.out (fun g => en (by rw [g])))
        have hq : (x.name.toList == y.name.toList) = false := (ty_str_eq _ _).trans (decide_eq_false en)
        have hq2 : (x.name.toList != y.name.toList) = true := by rw [bne, hq]; rfl
        clear en
        go_wp2_with fail
        go_ret
        exact ⟨ret_bool Hn.out, B5w.out⟩
      have hn1 : (x.name.toList == y.name.toList) = true := (ty_str_eq _ _).trans (decide_eq_true en)
      have hn2 : (x.name.toList != y.name.toList) = false := by rw [bne, hn1]; rfl
      by_cases eu : x.under = y.under
      case neg =>
        have Hn := Lib.hid (BADX.out (fun g => eu (by rw [g])))
        have hq : (x.under == y.under) = false := by rw [beq_eq_false_iff_ne]; exact eu
        have hq2 : (x.under != y.under) = true := by rw [bne, hq]; rfl
        clear en eu
        go_wp2_with fail
        go_ret
        exact ⟨ret_bool Hn.out, B5w.out⟩
      have hu1 : (x.under == y.under) = true := by rw [beq_iff_eq]; exact eu
      have hu2 : (x.under != y.under) = false := by rw [bne, hu1]; rfl
      by_cases eb : p = q
      case neg =>
        have Hn := Lib.hid (BADX.out (fun g => eb (by rw [← HP.out, ← HQ.out, g])))
        have hq : ((p : Int) == (q : Int)) = false := by rw [beq_eq_false_iff_ne]; omega
        have hq2 : ((p : Int) != (q : Int)) = true := by rw [bne, hq]; rfl
        clear en eu
        go_wp2_with fail
        go_ret
        exact ⟨ret_bool Hn.out, B5w.out⟩
      subst eb
      have EQ := Lib.hid (And.intro en eu)
      clear en eu
      cases hme : decide (x.methods = y.methods) <;> rw [hme] at HME0 <;> have HME := Lib.hid HME0 <;> have HMQ := Lib.hid hme <;> clear hme HME0
      · have Hn := Lib.hid (BADX.out (fun g => of_decide_eq_false HMQ.out (by rw [g])))
        go_wp2_with fail
        refine HME.out.mono ?_
        rintro e w6 ⟨rfl, b⟩
        have B6 := Lib.hid (B5w.out.trans (b.mono B5w.out.size))
        clear b h1 h2 a0 a1 a2 a3 b0 b1 b2 b3 x0 x1 x2 x3 y0 y1 y2 y3 c0 c1 d0 d1
        go_wp2_with fail
        go_ret
        exact ⟨ret_bool Hn.out, B6.out⟩
      have REST := Lib.hid (show x.bounds = y.bounds → x = y from fun g => by
        have h3 := of_decide_eq_true HMQ.out
        have h12 := EQ.out
        obtain ⟨c1, c2, c3, c4⟩ := x
        obtain ⟨d1, d2, d3, d4⟩ := y
        rw [Nm.mk.injEq]
        exact ⟨h12.1, g, h12.2, h3⟩)
      go_wp2_with fail
      refine HME.out.mono ?_
      rintro e w6 ⟨rfl, b⟩
      have B6 := Lib.hid (B5.out.trans (b.mono B5.out.size))
      have KX6 := Lib.hid (KX.out.below b)
      have KY6 := Lib.hid (KY.out.below b)
      have HXB := Lib.hid (HXC.out.bounds.below b)
      have HYB := Lib.hid (HYC.out.bounds.below b)
      clear b h1 h2 a0 a1 a2 a3 b0 b1 b2 b3 x0 x1 x2 x3 y0 y1 y2 y3 c0 c1 d0 d1 HME
      obtain ⟨x0, x1, x2, x3⟩ := cell4 KX6.out
      obtain ⟨y0, y1, y2, y3⟩ := cell4 KY6.out
      go_wp2_with fail
      clear x0 x1 x2 x3 y0 y1 y2 y3
      go_loopw [72] (fun i wq => ∃ g : Nat, g ≤ p ∧ i = .int .i64 g ∧ Hid (∀ j, j < g → x.bounds.getD j 0 = y.bounds.getD j 0) ∧ Hid (Below w6.heap.size w6 wq)) (fun i _ => p - (intOf i).toNat)
      case atStart => exact ⟨0, Nat.zero_le _, rfl, Lib.hid (fun j hj => absurd hj (Nat.not_lt_zero _)), Lib.hid (Below.refl _ _)⟩
      case round =>
        obtain ⟨g, hg, rfl, Hsm, HQ6⟩ := hrel
        have BQ := Lib.hid (B6.out.trans (HQ6.out.mono B6.out.size))
        by_cases hgl : g < p
        · have hgI : (g : Int) < (p : Int) := by omega
          obtain ⟨x0, x1, x2, x3⟩ := cell4 (KX6.out.below HQ6.out)
          obtain ⟨y0, y1, y2, y3⟩ := cell4 (KY6.out.below HQ6.out)
          obtain ⟨ib, io, rfl, hib, hic⟩ := (HXB.out.below HQ6.out).cells (by rw [HP.out]; omega)
          obtain ⟨jb, jo, rfl, hjb, hjc⟩ := (HYB.out.below HQ6.out).cells (by rw [HQ.out]; omega)
          have e1 := hic g (by rw [HP.out]; exact hgl)
          have e2 := hjc g (by rw [HQ.out]; exact hgl)
          obtain ⟨s1, hs1⟩ : ∃ s, x.bounds.getD g 0 = s := ⟨_, rfl⟩
          obtain ⟨s2, hs2⟩ : ∃ s, y.bounds.getD g 0 = s := ⟨_, rfl⟩
          rw [hs1] at e1
          rw [hs2] at e2
          have HS1 := Lib.hid hs1
          have HS2 := Lib.hid hs2
          clear hic hjc hib hjb hs1 hs2
          by_cases ee : s1 = s2
          · have hq : (s1 == s2) = true := by rw [beq_iff_eq]; exact ee
            have hq2 : (s1 != s2) = false := by rw [bne, hq]; rfl
            have Hx := Lib.hid (show ∀ j, j < g + 1 → x.bounds.getD j 0 = y.bounds.getD j 0 from fun j hj => by
              rcases Nat.lt_or_eq_of_le (Nat.le_of_lt_succ hj) with h3 | h3
              · exact Hsm.out j h3
              · rw [h3, HS1.out, HS2.out]; exact ee)
            clear ee
            go_wp2_with fail
            go_quiet (fail)
            go_wp2_with fail
            go_roundw
            case rel => exact ⟨g + 1, by omega, by go_num, Hx, Lib.hid (below_drewN HQ6.out _)⟩
            case measure => first | (simp [intOf]; done) | (simp [intOf]; omega)
          · have hq : (s1 == s2) = false := by rw [beq_eq_false_iff_ne]; exact ee
            have hq2 : (s1 != s2) = true := by rw [bne, hq]; rfl
            have Hn := Lib.hid (BADX.out (fun gg => ee (by rw [← HS1.out, ← HS2.out, gg])))
            clear ee
            go_wp2_with fail
            go_quiet (fail)
            go_wp2_with fail
            go_ret
            exact ⟨ret_bool Hn.out, B3.out.trans ((below_drewN BQ.out _).mono B3.out.size)⟩
        · obtain rfl : g = p := by omega
          have Hx := Lib.hid (GOOD.out (REST.out (list_ext (d := 0) (by rw [HP.out, HQ.out]) (fun j hj => Hsm.out j (by rw [← HP.out]; exact hj)))))
          go_wp2_with fail
          go_roundw
          case rel => exact ⟨k + 1, by omega, by go_num, Hx, BQ⟩
          case measure => first | (simp [intOf]; done) | (simp [intOf]; omega)
    · obtain rfl : k = n := by omega
      have Hn := Lib.hid (show true = R by
        rw [← HR.out]; symm; rw [decide_eq_true_iff]
        have h1 := of_decide_eq_true HTE.out
        have h2 : u.named = v.named := List.ext_getElem (HN.out.trans HM.out.symm) (fun j h1 h2 => Hall.out j h1 h2 (by rw [← HN.out]; exact h1))
        obtain ⟨a, b⟩ := u
        obtain ⟨c, d⟩ := v
        rw [Un.mk.injEq]
        exact ⟨h1, h2⟩)
      go_wp2_with fail
      go_ret
      exact ⟨ret_bool Hn.out, BW.out⟩
end Go.Proofs.YtkmnfkhchcoamaaGreatDoor

