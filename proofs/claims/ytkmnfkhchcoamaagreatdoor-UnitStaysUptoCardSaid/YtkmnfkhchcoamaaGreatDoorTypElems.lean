import Derived.Test.YtkmnfkhchcoamaaGreatDoorTyA
/- The reference's elems: an interface's words. -/
namespace Go.Proofs.YtkmnfkhchcoamaaGreatDoor
open Go.RowKit
set_option linter.unusedSimpArgs false
set_option linter.unusedVariables false

theorem elemsB_no {l : List Ty} {n : Int} {ws : List ByteArray} {ks : List Int} {k : Nat} (hk : k < ws.length) (h : elemB l n (aheadOf ws ks k) (ws.getD k ⟨#[]⟩) (ks.getD k 0) = false) : elemsB l n ws ks = false := by
  unfold elemsB
  rw [Bool.eq_false_iff]
  intro ha
  rw [List.all_eq_true] at ha
  have := ha k (List.mem_range.2 hk)
  rw [h] at this
  cases this
theorem elemsB_yes {l : List Ty} {n : Int} {ws : List ByteArray} {ks : List Int} (h : ∀ k, k < ws.length → elemB l n (aheadOf ws ks k) (ws.getD k ⟨#[]⟩) (ks.getD k 0) = true) : elemsB l n ws ks = true := by
  unfold elemsB
  rw [List.all_eq_true]
  intro k hk
  exact h k (List.mem_range.1 hk)
theorem kindAt_eq {l : List Ty} {k : Nat} (h : k < l.length) : kindAt l (k : Int) = l[k].kind := by
  unfold kindAt
  rw [Int.toNat_natCast, List.getElem?_eq_getElem h]
  rfl
theorem ahead_zero {ws : List ByteArray} {ks : List Int} : aheadOf ws ks 0 = none := rfl
theorem ahead_succ {ws : List ByteArray} {ks : List Int} {p : Nat} : aheadOf ws ks (p + 1) = some (ws.getD p ⟨#[]⟩, ks.getD p 0) := rfl
section
variable {l : List Ty} {n k X : Int} {w : ByteArray} {a : Option (ByteArray × Int)}
theorem el_bad (hm : markB w = true) (hX : kindAt l k = X) (h : n < 2 ∨ X = 7 ∨ X = 9 ∨ (14 ≤ k ∧ k ≤ 19)) : elemB l n a w k = false := by
  unfold elemB
  rw [if_pos hm, hX, decide_eq_false (by omega)]
  rfl
theorem el_none (hm : markB w = true) (hX : kindAt l k = X) (h : ¬ (n < 2 ∨ X = 7 ∨ X = 9 ∨ (14 ≤ k ∧ k ≤ 19))) : elemB l n none w k = true := by
  unfold elemB
  rw [if_pos hm, hX, decide_eq_true (by omega)]
  rfl
theorem el_some {v : ByteArray} {j : Int} (hm : markB w = true) (hX : kindAt l k = X) (h : ¬ (n < 2 ∨ X = 7 ∨ X = 9 ∨ (14 ≤ k ∧ k ≤ 19))) : elemB l n (some (v, j)) w k = !(markB v && decide (k ≤ j)) := by
  unfold elemB
  rw [if_pos hm, hX, decide_eq_true (by omega), Bool.true_and]
theorem em_name (hm : markB w = false) (h : nameB w = false) : elemB l n a w k = false := by
  unfold elemB
  rw [if_neg (by rw [hm]; decide), h]
  rfl
theorem em_kind (hm : markB w = false) (hX : kindAt l k = X) (h : ¬ X = 5) : elemB l n a w k = false := by
  unfold elemB
  rw [if_neg (by rw [hm]; decide), hX, decide_eq_false h, Bool.and_false]
  rfl
theorem em_none (hm : markB w = false) (hn : nameB w = true) (hX : kindAt l k = X) (h : X = 5) : elemB l n none w k = true := by
  unfold elemB
  rw [if_neg (by rw [hm]; decide), hX, decide_eq_true h, hn]
  rfl
theorem em_some {v : ByteArray} {j : Int} (hm : markB w = false) (hn : nameB w = true) (hX : kindAt l k = X) (h : X = 5) : elemB l n (some (v, j)) w k = (!markB v && Op.bytesLess v.toList w.toList) := by
  unfold elemB
  rw [if_neg (by rw [hm]; decide), hX, decide_eq_true h, hn]
  rfl
end
set_option maxHeartbeats 16000000 in
set_option maxRecDepth 100000 in
theorem elems_any (l : List Ty) (ao : Option Addr) (ac : Nat) (t : Ty) (wo ko : Option Addr) (wc kc : Nat) (w : World) (hl : ARow w ao l) (ht : TyC w wo ko t) (ll : l.length ≤ 1000) (hin : ∀ k ∈ t.kids, 0 ≤ k ∧ k < (l.length : Int)) :
    Calls Tryz.prog 64 #[.slice ao l.length ac, tyV t wo wc ko kc] w fun e w' => e = .returned (.bool (decide (0 ≤ t.n ∧ t.n ≤ 3 ∧ t.words.length = t.kids.length) && elemsB l t.n t.words t.kids)) ∧ Below w.heap.size w w' := by
  obtain ⟨r, hr⟩ : ∃ r, (decide (0 ≤ t.n ∧ t.n ≤ 3 ∧ t.words.length = t.kids.length) && elemsB l t.n t.words t.kids) = r := ⟨_, rfl⟩
  rw [hr]
  have HR := Lib.hid hr
  clear hr
  unfold tyV
  obtain ⟨n, hn⟩ : ∃ n, t.words.length = n := ⟨_, rfl⟩
  obtain ⟨m, hm⟩ : ∃ m, t.kids.length = m := ⟨_, rfl⟩
  obtain ⟨L, hL⟩ : ∃ L, l.length = L := ⟨_, rfl⟩
  obtain ⟨c, hcn⟩ : ∃ c, t.n = c := ⟨_, rfl⟩
  have HN := Lib.hid hn
  have HM := Lib.hid hm
  have HL := Lib.hid hL
  have HCN := Lib.hid hcn
  have l1 := ht.ok.wl
  have l2 := ht.ok.kl
  rw [hn] at l1 ⊢
  rw [hm] at l2 ⊢
  rw [hL] at ll ⊢
  rw [hcn]
  have HT := Lib.hid ht
  have HA := Lib.hid hl
  have HI := Lib.hid hin
  clear hn hm ht hl hin hL hcn
  by_cases c0 : n = m
  case neg =>
    have Hn := Lib.hid (show false = r by rw [← HR.out, HN.out, HM.out, decide_eq_false (by omega)]; rfl)
    have hq : ((n : Int) == (m : Int)) = false := by rw [beq_eq_false_iff_ne]; omega
    go_enter Tryz.func64, Tryz.ntmps64
    go_wp2_with fail
    go_ret
    exact ⟨ret_bool Hn.out, (Below.refl _ _).alloc (Nat.le_refl _) _⟩
  subst c0
  by_cases c1 : c < 0
  · have Hn := Lib.hid (show false = r by rw [← HR.out, HCN.out, decide_eq_false (by omega)]; rfl)
    go_enter Tryz.func64, Tryz.ntmps64
    go_wp2_with fail
    go_ret
    exact ⟨ret_bool Hn.out, (Below.refl _ _).alloc (Nat.le_refl _) _⟩
  by_cases c2 : 3 < c
  · have Hn := Lib.hid (show false = r by rw [← HR.out, HCN.out, decide_eq_false (by omega)]; rfl)
    go_enter Tryz.func64, Tryz.ntmps64
    go_wp2_with fail
    go_ret
    exact ⟨ret_bool Hn.out, (Below.refl _ _).alloc (Nat.le_refl _) _⟩
  have HR2 := Lib.hid (show elemsB l c t.words t.kids = r by rw [← HR.out, HCN.out, HN.out, HM.out, decide_eq_true (by omega), Bool.true_and])
  obtain ⟨w1, h1⟩ : ∃ w1, w.alloc (.cells #[.int .i64 t.kind, .string t.name, .int .i64 c, .slice wo n wc, .slice ko n kc] 38) = w1 := ⟨_, rfl⟩
  obtain ⟨k1, q1, z1⟩ := box_new h1
  have BW := Lib.hid q1
  obtain ⟨x0, x1, x2, x3, x4⟩ := cell5 k1
  have X2 := Lib.hid x2
  have X3 := Lib.hid x3
  have X4 := Lib.hid x4
  clear k1 q1 z1 HR
  go_enter Tryz.func64, Tryz.ntmps64
  go_wp2_with fail
  clear h1 x0 x1 x2 x3 x4
  go_loopw [28] (fun i wr => ∃ k : Nat, k ≤ n ∧ i = .int .i64 k ∧ Hid (∀ j, j < k → elemB l c (aheadOf t.words t.kids j) (t.words.getD j ⟨#[]⟩) (t.kids.getD j 0) = true) ∧ wr = w1) (fun i _ => n - (intOf i).toNat)
  case atStart => exact ⟨0, Nat.zero_le _, rfl, Lib.hid (fun j hj => absurd hj (Nat.not_lt_zero _)), by first | rfl | trivial⟩
  case round =>
    obtain ⟨k, hk, rfl, Hall, rfl⟩ := hrel
    by_cases hkl : k < n
    · obtain ⟨b, o, rfl, hb, hc⟩ := (HT.out.below BW.out).words.cells (by rw [HN.out]; omega)
      obtain ⟨kb, kof, rfl, hkb, hkc⟩ := (HT.out.below BW.out).kids.cells (by rw [HM.out]; omega)
      have HC := Lib.hid hc
      have HKC := Lib.hid hkc
      have cx := hc k (by rw [HN.out]; exact hkl)
      have ck := hkc k (by rw [HM.out]; exact hkl)
      obtain ⟨g1, g2⟩ := HI.out _ (getD_mem (show k < t.kids.length by rw [HM.out]; exact hkl))
      rw [HL.out] at g2
      have hsz := HT.out.ok.ws _ (getD_memS (show k < t.words.length by rw [HN.out]; exact hkl))
      obtain ⟨u, hu⟩ : ∃ u, t.words.getD k ⟨#[]⟩ = u := ⟨_, rfl⟩
      obtain ⟨z, hz⟩ : ∃ z : Nat, t.kids.getD k 0 = (z : Int) := ⟨(t.kids.getD k 0).toNat, by omega⟩
      have HU := Lib.hid hu
      have HZ := Lib.hid hz
      rw [hu] at cx hsz
      rw [hz] at ck g2
      have hzl : z < L := by omega
      obtain ⟨ab, aof, rfl, hab, hac⟩ := (HA.out.below BW.out).cells (by rw [HL.out]; omega)
      obtain ⟨_, _, _, _, ca, -⟩ := hac z (by rw [HL.out]; exact hzl)
      obtain ⟨X, hX⟩ : ∃ X, (l[z]'(by rw [HL.out]; exact hzl)).kind = X := ⟨_, rfl⟩
      rw [hX] at ca
      have HX := Lib.hid (show kindAt l (z : Int) = X by rw [kindAt_eq (by rw [HL.out]; exact hzl)]; exact hX)
      clear hu hz hc hkc hb hkb hab hac hX g1
      have HMK := Lib.hid (mark_any u wr)
      have HNM := Lib.hid (refName_any u wr (by omega))
      have TF : ∀ {b : Bool}, elemB l c (aheadOf t.words t.kids k) u (z : Int) = false → false = r := fun h => by
        rw [← HR2.out]
        exact (elemsB_no (k := k) (by rw [HN.out]; exact hkl) (by rw [HU.out, HZ.out]; exact h)).symm
      have TT : elemB l c (aheadOf t.words t.kids k) u (z : Int) = true → ∀ j, j < k + 1 → elemB l c (aheadOf t.words t.kids j) (t.words.getD j ⟨#[]⟩) (t.kids.getD j 0) = true := fun h j hj => by
        rcases Nat.lt_or_eq_of_le (Nat.le_of_lt_succ hj) with h1 | h1
        · exact Hall.out j h1
        · subst h1; rw [HU.out, HZ.out]; exact h
      have TF := Lib.hid (@TF true)
      have TT := Lib.hid TT
      have x2 := X2.out
      have x3 := X3.out
      have x4 := X4.out
      cases hmk : markB u <;> rw [hmk] at HMK <;> have MK := Lib.hid hmk <;> clear hmk
      · cases hnb : nameB u <;> rw [hnb] at HNM <;> have NB := Lib.hid hnb <;> clear hnb
        · have Hn := Lib.hid (TF.out (em_name MK.out NB.out))
          go_wp2_with fail
          refine HMK.out.mono ?_
          rintro e w' ⟨rfl, rfl⟩
          go_wp2_with fail
          refine HNM.out.mono ?_
          rintro e w' ⟨rfl, rfl⟩
          go_wp2_with fail
          go_ret
          exact ⟨ret_bool Hn.out, BW.out⟩
        · by_cases hX5 : X = 5
          case neg =>
            have Hn := Lib.hid (TF.out (em_kind MK.out HX.out hX5))
            have hq : (X == 5) = false := by rw [beq_eq_false_iff_ne]; exact hX5
            go_wp2_with fail
            refine HMK.out.mono ?_
            rintro e w' ⟨rfl, rfl⟩
            go_wp2_with fail
            refine HNM.out.mono ?_
            rintro e w' ⟨rfl, rfl⟩
            go_wp2_with fail
            go_ret
            exact ⟨ret_bool Hn.out, BW.out⟩
          subst hX5
          by_cases h0 : k = 0
          · subst h0
            rw [Nat.add_zero] at cx ck
            have Hx := Lib.hid (TT.out (em_none MK.out NB.out HX.out rfl))
            go_wp2_with fail
            refine HMK.out.mono ?_
            rintro e w' ⟨rfl, rfl⟩
            go_wp2_with fail
            refine HNM.out.mono ?_
            rintro e w' ⟨rfl, rfl⟩
            go_wp2_with fail
            go_roundw
            case rel => exact ⟨0 + 1, by omega, by go_num, Hx, by first | rfl | trivial⟩
            case measure => first | (simp [intOf]; done) | (simp [intOf]; omega)
          · obtain ⟨p, rfl⟩ : ∃ p, k = p + 1 := ⟨k - 1, by omega⟩
            have cy := HC.out p (by rw [HN.out]; omega)
            have cj := HKC.out p (by rw [HM.out]; omega)
            have hnum := HT.out.ok.ks _ (getD_mem (show p < t.kids.length by rw [HM.out]; omega))
            have hAh := ahead_succ (ws := t.words) (ks := t.kids) (p := p)
            obtain ⟨v, hv⟩ : ∃ v, t.words.getD p ⟨#[]⟩ = v := ⟨_, rfl⟩
            obtain ⟨j, hj⟩ : ∃ j, t.kids.getD p 0 = j := ⟨_, rfl⟩
            rw [hv] at cy hAh
            rw [hj] at cj hAh hnum
            have HAh := Lib.hid hAh
            clear hv hj hAh
            have HMV := Lib.hid (mark_any v wr)
            have hpos : (0 : Int) < (p : Int) + 1 := by omega
            have hsub : (p : Int) + 1 - 1 = (p : Int) := by omega
            cases hmv : markB v <;> rw [hmv] at HMV <;> have MV := Lib.hid hmv <;> clear hmv
            · cases hls : Op.bytesLess v.toList u.toList
              · have LS := Lib.hid hls
                have Hn := Lib.hid (TF.out (by rw [HAh.out, em_some MK.out NB.out HX.out rfl, MV.out, LS.out]; rfl))
                go_wp2_with fail
                refine HMK.out.mono ?_
                rintro e w' ⟨rfl, rfl⟩
                go_wp2_with fail
                refine HNM.out.mono ?_
                rintro e w' ⟨rfl, rfl⟩
                go_wp2_with fail
                refine HMV.out.mono ?_
                rintro e w' ⟨rfl, rfl⟩
                go_wp2_with fail
                go_ret
                exact ⟨ret_bool Hn.out, BW.out⟩
              · have LS := Lib.hid hls
                have Hx := Lib.hid (TT.out (by rw [HAh.out, em_some MK.out NB.out HX.out rfl, MV.out, LS.out]; rfl))
                go_wp2_with fail
                refine HMK.out.mono ?_
                rintro e w' ⟨rfl, rfl⟩
                go_wp2_with fail
                refine HNM.out.mono ?_
                rintro e w' ⟨rfl, rfl⟩
                go_wp2_with fail
                refine HMV.out.mono ?_
                rintro e w' ⟨rfl, rfl⟩
                go_wp2_with fail
                go_roundw
                case rel => exact ⟨p + 1 + 1, by omega, by go_num, Hx, by first | rfl | trivial⟩
                case measure => first | (simp [intOf]; done) | (simp [intOf]; omega)
            · have Hn := Lib.hid (TF.out (by rw [HAh.out, em_some MK.out NB.out HX.out rfl, MV.out]; rfl))
              go_wp2_with fail
              refine HMK.out.mono ?_
              rintro e w' ⟨rfl, rfl⟩
              go_wp2_with fail
              refine HNM.out.mono ?_
              rintro e w' ⟨rfl, rfl⟩
              go_wp2_with fail
              refine HMV.out.mono ?_
              rintro e w' ⟨rfl, rfl⟩
              go_wp2_with fail
              go_ret
              exact ⟨ret_bool Hn.out, BW.out⟩
      · by_cases d1 : c < 2
        · have Hn := Lib.hid (TF.out (el_bad MK.out HX.out (by omega)))
          go_wp2_with fail
          refine HMK.out.mono ?_
          rintro e w' ⟨rfl, rfl⟩
          go_wp2_with fail
          go_ret
          exact ⟨ret_bool Hn.out, BW.out⟩
        by_cases d2 : X = 7
        · have Hn := Lib.hid (TF.out (el_bad MK.out HX.out (by omega)))
          go_wp2_with fail
          refine HMK.out.mono ?_
          rintro e w' ⟨rfl, rfl⟩
          go_wp2_with fail
          go_ret
          exact ⟨ret_bool Hn.out, BW.out⟩
        by_cases d3 : X = 9
        · have Hn := Lib.hid (TF.out (el_bad MK.out HX.out (by omega)))
          go_wp2_with fail
          refine HMK.out.mono ?_
          rintro e w' ⟨rfl, rfl⟩
          go_wp2_with fail
          go_ret
          exact ⟨ret_bool Hn.out, BW.out⟩
        have e2 : (X == 7) = false := by rw [beq_eq_false_iff_ne]; exact d2
        have e3 : (X == 9) = false := by rw [beq_eq_false_iff_ne]; exact d3
        by_cases d4 : 14 ≤ z ∧ z ≤ 19
        · obtain ⟨d5, d6⟩ := d4
          have Hn := Lib.hid (TF.out (el_bad MK.out HX.out (by omega)))
          go_wp2_with fail
          refine HMK.out.mono ?_
          rintro e w' ⟨rfl, rfl⟩
          go_wp2_with fail
          go_ret
          exact ⟨ret_bool Hn.out, BW.out⟩
        have HD := Lib.hid (show ¬ (c < 2 ∨ X = 7 ∨ X = 9 ∨ (14 ≤ (z : Int) ∧ (z : Int) ≤ 19)) by omega)
        have d5 : ¬ (14 ≤ (z : Int)) ∨ ¬ ((z : Int) ≤ 19) := by omega
        clear d4
        rcases d5 with d5 | d5
        · by_cases h0 : k = 0
          · subst h0
            rw [Nat.add_zero] at cx ck
            have Hx := Lib.hid (TT.out (el_none MK.out HX.out HD.out))
            go_wp2_with fail
            refine HMK.out.mono ?_
            rintro e w' ⟨rfl, rfl⟩
            go_wp2_with fail
            go_roundw
            case rel => exact ⟨0 + 1, by omega, by go_num, Hx, by first | rfl | trivial⟩
            case measure => first | (simp [intOf]; done) | (simp [intOf]; omega)
          · obtain ⟨p, rfl⟩ : ∃ p, k = p + 1 := ⟨k - 1, by omega⟩
            have cy := HC.out p (by rw [HN.out]; omega)
            have cj := HKC.out p (by rw [HM.out]; omega)
            have hnum := HT.out.ok.ks _ (getD_mem (show p < t.kids.length by rw [HM.out]; omega))
            have hAh := ahead_succ (ws := t.words) (ks := t.kids) (p := p)
            obtain ⟨v, hv⟩ : ∃ v, t.words.getD p ⟨#[]⟩ = v := ⟨_, rfl⟩
            obtain ⟨j, hj⟩ : ∃ j, t.kids.getD p 0 = j := ⟨_, rfl⟩
            rw [hv] at cy hAh
            rw [hj] at cj hAh hnum
            have HAh := Lib.hid hAh
            clear hv hj hAh
            have HMV := Lib.hid (mark_any v wr)
            have hpos : (0 : Int) < (p : Int) + 1 := by omega
            have hsub : (p : Int) + 1 - 1 = (p : Int) := by omega
            cases hmv : markB v <;> rw [hmv] at HMV <;> have MV := Lib.hid hmv <;> clear hmv
            · have Hx := Lib.hid (TT.out (by rw [HAh.out, el_some MK.out HX.out HD.out, MV.out]; rfl))
              go_wp2_with fail
              refine HMK.out.mono ?_
              rintro e w' ⟨rfl, rfl⟩
              go_wp2_with fail
              refine HMV.out.mono ?_
              rintro e w' ⟨rfl, rfl⟩
              go_wp2_with fail
              go_roundw
              case rel => exact ⟨p + 1 + 1, by omega, by go_num, Hx, by first | rfl | trivial⟩
              case measure => first | (simp [intOf]; done) | (simp [intOf]; omega)
            · by_cases hkj : (z : Int) ≤ j
              · have Hn := Lib.hid (TF.out (by rw [HAh.out, el_some MK.out HX.out HD.out, MV.out, decide_eq_true hkj]; rfl))
                go_wp2_with fail
                refine HMK.out.mono ?_
                rintro e w' ⟨rfl, rfl⟩
                go_wp2_with fail
                refine HMV.out.mono ?_
                rintro e w' ⟨rfl, rfl⟩
                go_wp2_with fail
                go_ret
                exact ⟨ret_bool Hn.out, BW.out⟩
              · have Hx := Lib.hid (TT.out (by rw [HAh.out, el_some MK.out HX.out HD.out, MV.out, decide_eq_false hkj]; rfl))
                go_wp2_with fail
                refine HMK.out.mono ?_
                rintro e w' ⟨rfl, rfl⟩
                go_wp2_with fail
                refine HMV.out.mono ?_
                rintro e w' ⟨rfl, rfl⟩
                go_wp2_with fail
                go_roundw
                case rel => exact ⟨p + 1 + 1, by omega, by go_num, Hx, by first | rfl | trivial⟩
                case measure => first | (simp [intOf]; done) | (simp [intOf]; omega)
        · have d6 : 14 ≤ (z : Int) := by omega
          by_cases h0 : k = 0
          · subst h0
            rw [Nat.add_zero] at cx ck
            have Hx := Lib.hid (TT.out (el_none MK.out HX.out HD.out))
            go_wp2_with fail
            refine HMK.out.mono ?_
            rintro e w' ⟨rfl, rfl⟩
            go_wp2_with fail
            go_roundw
            case rel => exact ⟨0 + 1, by omega, by go_num, Hx, by first | rfl | trivial⟩
            case measure => first | (simp [intOf]; done) | (simp [intOf]; omega)
          · obtain ⟨p, rfl⟩ : ∃ p, k = p + 1 := ⟨k - 1, by omega⟩
            have cy := HC.out p (by rw [HN.out]; omega)
            have cj := HKC.out p (by rw [HM.out]; omega)
            have hnum := HT.out.ok.ks _ (getD_mem (show p < t.kids.length by rw [HM.out]; omega))
            have hAh := ahead_succ (ws := t.words) (ks := t.kids) (p := p)
            obtain ⟨v, hv⟩ : ∃ v, t.words.getD p ⟨#[]⟩ = v := ⟨_, rfl⟩
            obtain ⟨j, hj⟩ : ∃ j, t.kids.getD p 0 = j := ⟨_, rfl⟩
            rw [hv] at cy hAh
            rw [hj] at cj hAh hnum
            have HAh := Lib.hid hAh
            clear hv hj hAh
            have HMV := Lib.hid (mark_any v wr)
            have hpos : (0 : Int) < (p : Int) + 1 := by omega
            have hsub : (p : Int) + 1 - 1 = (p : Int) := by omega
            cases hmv : markB v <;> rw [hmv] at HMV <;> have MV := Lib.hid hmv <;> clear hmv
            · have Hx := Lib.hid (TT.out (by rw [HAh.out, el_some MK.out HX.out HD.out, MV.out]; rfl))
              go_wp2_with fail
              refine HMK.out.mono ?_
              rintro e w' ⟨rfl, rfl⟩
              go_wp2_with fail
              refine HMV.out.mono ?_
              rintro e w' ⟨rfl, rfl⟩
              go_wp2_with fail
              go_roundw
              case rel => exact ⟨p + 1 + 1, by omega, by go_num, Hx, by first | rfl | trivial⟩
              case measure => first | (simp [intOf]; done) | (simp [intOf]; omega)
            · by_cases hkj : (z : Int) ≤ j
              · have Hn := Lib.hid (TF.out (by rw [HAh.out, el_some MK.out HX.out HD.out, MV.out, decide_eq_true hkj]; rfl))
                go_wp2_with fail
                refine HMK.out.mono ?_
                rintro e w' ⟨rfl, rfl⟩
                go_wp2_with fail
                refine HMV.out.mono ?_
                rintro e w' ⟨rfl, rfl⟩
                go_wp2_with fail
                go_ret
                exact ⟨ret_bool Hn.out, BW.out⟩
              · have Hx := Lib.hid (TT.out (by rw [HAh.out, el_some MK.out HX.out HD.out, MV.out, decide_eq_false hkj]; rfl))
                go_wp2_with fail
                refine HMK.out.mono ?_
                rintro e w' ⟨rfl, rfl⟩
                go_wp2_with fail
                refine HMV.out.mono ?_
                rintro e w' ⟨rfl, rfl⟩
                go_wp2_with fail
                go_roundw
                case rel => exact ⟨p + 1 + 1, by omega, by go_num, Hx, by first | rfl | trivial⟩
                case measure => first | (simp [intOf]; done) | (simp [intOf]; omega)
    · obtain rfl : k = n := by omega
      have Hn := Lib.hid (show true = r by
        rw [← HR2.out]
        exact (elemsB_yes (fun j hj => Hall.out j (by rw [HN.out] at hj; exact hj))).symm)
      go_wp2_with fail
      go_ret
      exact ⟨ret_bool Hn.out, BW.out⟩
end Go.Proofs.YtkmnfkhchcoamaaGreatDoor

