import Derived.Test.YtkmnfkhchcoamaaGreatDoorTypPX
import Derived.Test.YtkmnfkhchcoamaaGreatDoorTypRefAdd
/- The program's Right and find. -/
namespace Go.Proofs.YtkmnfkhchcoamaaGreatDoor
open Go.RowKit
set_option linter.unusedSimpArgs false
set_option linter.unusedVariables false

theorem right_step {l : List Ty} (h : rightT l = true) : (22 ≤ l.length ∧ l.length ≤ 400) ∧ ∀ j (hj : j < l.length), stepB l j l[j] = true := by
  by_cases h0 : 22 ≤ l.length ∧ l.length ≤ 400
  · refine ⟨h0, fun j hj => ?_⟩
    cases hs : stepB l j l[j]
    · rw [rightT_no hj hs] at h; cases h
    · rfl
  · rw [rightT_short h0] at h; cases h
theorem right_low {l : List Ty} (h : rightT l = true) {j : Nat} (hj : j < l.length) (h22 : j < 22) : l[j] = bas j := by
  have := (right_step h).2 j hj
  rw [low_right hj h22] at this
  exact of_decide_eq_true this
theorem right_high {l : List Ty} (h : rightT l = true) {j : Nat} (hj : j < l.length) (h22 : ¬ j < 22) : madeB (l.take j) l[j] = true ∧ l[j] ∉ l.take j := by
  have := (right_step h).2 j hj
  unfold stepB at this
  rw [if_neg h22, Bool.and_eq_true] at this
  exact ⟨this.1, of_decide_eq_true this.2⟩
theorem bas_inj : ∀ i, i < 22 → ∀ j, j < 22 → bas i = bas j → i = j := by decide +kernel
theorem right_once {l : List Ty} (h : rightT l = true) {i j : Nat} (hi : i < l.length) (hj : j < l.length) (e : l[i] = l[j]) : i = j := by
  rcases Nat.lt_trichotomy i j with g | g | g
  · exfalso
    by_cases hj2 : j < 22
    · rw [right_low h hi (by omega), right_low h hj hj2] at e
      have := bas_inj i (by omega) j hj2 e
      omega
    · refine (right_high h hj hj2).2 ?_
      rw [← e, List.mem_take_iff_getElem]
      exact ⟨i, by omega, rfl⟩
  · exact g
  · exfalso
    by_cases hi2 : i < 22
    · rw [right_low h hi hi2, right_low h hj (by omega)] at e
      have := bas_inj i hi2 j (by omega) e
      omega
    · refine (right_high h hi hi2).2 ?_
      rw [e, List.mem_take_iff_getElem]
      exact ⟨j, by omega, rfl⟩
theorem at_of {l : List Ty} (h : rightT l = true) {i : Nat} (hi : i < l.length) {t : Ty} (e : l[i] = t) : atT l t = (i : Int) :=
  atT_some hi e (fun j hj hji ej => by have := right_once h hj hi (ej.trans e.symm); omega)
theorem at_basic {l : List Ty} (h : rightT l = true) {t : Ty} (hb : 0 ≤ atT basics t) : atT l t = atT basics t := by
  have hm : t ∈ basics := Classical.byContradiction fun g => by have := atT_neg.2 g; omega
  obtain ⟨j, hj, rfl⟩ := List.getElem_of_mem hm
  have hj' : j < 22 := by rw [basics_len] at hj; exact hj
  have hl := (right_step h).1.1
  rw [at_of h (i := j) (by omega) ((right_low h (by omega) hj').trans (bas_get hj).symm)]
  rw [bas_get hj]
  exact (at_bas hj' rfl (fun k hk e => by have := bas_inj j hj' k (by omega) e; omega)).symm
theorem at_range {l : List Ty} {t : Ty} : atT l t < (l.length : Int) ∧ -1 ≤ atT l t := by
  unfold atT
  cases h : l.findIdx? (fun x => decide (x = t)) with
  | none => simp only; constructor <;> omega
  | some i =>
    rw [List.findIdx?_eq_some_iff_getElem] at h
    obtain ⟨hi, -, -⟩ := h
    simp only
    constructor <;> omega
theorem at_none_of {l : List Ty} (h : rightT l = true) {t : Ty} (hb : atT basics t < 0) (hno : ∀ i (hi : i < l.length), 22 ≤ i → l[i] ≠ t) : atT l t = -1 :=
  atT_none (fun j hj e => by
    by_cases hj2 : j < 22
    · refine (atT_neg.1 hb) ?_
      rw [← e, right_low h hj hj2, ← bas_get (by rw [basics_len]; exact hj2)]
      exact List.getElem_mem _
    · exact hno j hj (by omega) e)
theorem made_of_right {l : List Ty} (h : rightT l = true) {j : Nat} (hj : j < l.length) (h22 : 22 ≤ j) : Made l[j] := made_shape (right_high h hj (by omega)).1
set_option maxHeartbeats 4000000 in
theorem pright_any (l : List Ty) (ao : Option Addr) (ac : Nat) (w : World) (hl : ARow w ao l) (ll : l.length ≤ 1000) (hac : l.length ≤ ac) (hE : Env w) :
    Calls Tryz.prog 22 #[.slice ao l.length ac] w fun e w' => e = .returned (.bool (rightT l)) ∧ Below w.heap.size w w' := by
  have HI := Lib.hid (index_any l ao ac w hl ll hac hE)
  obtain ⟨n, hn⟩ : ∃ n, l.length = n := ⟨_, rfl⟩
  rw [hn] at HI ⊢
  clear hn hl ll hac hE
  go_enter Tryz.func22, Tryz.ntmps22
  go_wp2_with fail
  refine HI.out.mono ?_
  rintro e w' ⟨mo, rfl, b, -⟩
  have B := Lib.hid b
  clear b
  go_wp2_with fail
  go_ret
  exact ⟨rfl, B.out⟩
/-- What find gives. -/
def FindR (p : Int) (w : World) (e : Ending) (w' : World) : Prop :=
  e = .returned (.tuple #[.int .i64 (if 0 ≤ p then p else 0), .bool (decide (0 ≤ p))]) ∧ Below w.heap.size w w'
theorem find_yes {p : Int} {w w' : World} (h : 0 ≤ p) (hb : Below w.heap.size w w') : FindR p w (.returned (.tuple #[.int .i64 p, .bool true])) w' := ⟨by rw [if_pos h, decide_eq_true h], hb⟩
theorem find_no {p : Int} {w w' : World} (h : p < 0) (hb : Below w.heap.size w w') : FindR p w (.returned (.tuple #[.int .i64 0, .bool false])) w' := ⟨by rw [if_neg (by omega), decide_eq_false (by omega)], hb⟩
set_option maxHeartbeats 8000000 in
set_option maxRecDepth 100000 in
theorem find_any (l : List Ty) (ao : Option Addr) (ac : Nat) (mb : Nat) (t : Ty) (wo ko : Option Addr) (wc kc : Nat) (w : World) (hl : ARow w ao l) (hr : rightT l = true) (hac : l.length ≤ ac) (hE : Env w) (hm : KMap w mb (pairs l l.length)) (ht : TyC w wo ko t) (hsm : TySm t) (hwc : t.words.length ≤ wc) (hkc : t.kids.length ≤ kc) :
    Calls Tryz.prog 55 #[.slice ao l.length ac, .map (some mb), tyV t wo wc ko kc] w (FindR (atT l t) w) := by
  have hlen := (right_step hr).1
  obtain ⟨n, hn⟩ : ∃ n, l.length = n := ⟨_, rfl⟩
  have HN := Lib.hid hn
  rw [hn] at hlen hm hac ⊢
  have HOK := Lib.hid (keyT_ok ht.ok hsm)
  obtain ⟨w1, h1⟩ : ∃ w1, w.alloc (.cells #[.int .i64 t.kind, .string t.name, .int .i64 t.n, .slice wo t.words.length wc, .slice ko t.kids.length kc] 38) = w1 := ⟨_, rfl⟩
  obtain ⟨k1, q1, z1⟩ := box_new h1
  have BW := Lib.hid q1
  have K1 := Lib.hid k1
  have HA := Lib.hid (hl.below q1)
  have HT := Lib.hid (ht.below q1)
  have HE := Lib.hid (hE.below q1)
  have KM := Lib.hid (hm.below q1)
  have HR := Lib.hid hr
  have HBP0 := basicPlace_any t wo ko wc kc w1 HT.out HE.out.basics
  obtain ⟨bp, hbp⟩ : ∃ z, atT basics t = z := ⟨_, rfl⟩
  rw [hbp] at HBP0
  have HBP1 := Lib.hid hbp
  have HKY0 := fun W (h : Below w1.heap.size w1 W) => keyOf_any t wo ko wc kc W (HT.out.below h) hsm hwc hkc (HE.out.below h).pow
  have HSM0 := fun W (h : Below w1.heap.size w1 W) (x : Ty) (xw xk : Option Addr) (xwc xkc : Nat) (hx : TyC W xw xk x) => psame_any x t xw xk wo ko xwc xkc wc kc W hx (HT.out.below h)
  unfold tyV at HBP0 HKY0 HSM0 ⊢
  have HBP := Lib.hid HBP0
  have HKY := Lib.hid HKY0
  have HSM := Lib.hid HSM0
  obtain ⟨c0, c1, c2, c3, c4⟩ := cell5 k1
  clear hn hl hr hE hm ht hwc hkc k1 q1 z1 HBP0 HKY0 HSM0 hbp
  by_cases hpos : 0 ≤ bp
  · have Hp := Lib.hid (show atT l t = bp from by rw [at_basic HR.out (by rw [HBP1.out]; exact hpos), HBP1.out])
    go_enter Tryz.func55, Tryz.ntmps55
    go_wp2_with fail
    refine HBP.out.mono ?_
    rintro e w2 ⟨rfl, b2⟩
    have B2 := Lib.hid (BW.out.trans (b2.mono BW.out.size))
    clear b2 c0 c1 c2 c3 c4 h1
    go_wp2_with fail
    go_ret2
    rw [Hp.out]
    exact find_yes hpos B2.out
  have hneg : bp < 0 := by omega
  obtain ⟨ky, hky⟩ : ∃ ky, keyT t = ky := ⟨_, rfl⟩
  rw [hky] at HKY HOK
  have HKE := Lib.hid hky
  clear hky
  have step1 : ∀ (w3 : World), True := fun _ => trivial
  clear step1
  go_enter Tryz.func55, Tryz.ntmps55
  go_wp2_with fail
  refine HBP.out.mono ?_
  rintro e w2 ⟨rfl, b2⟩
  have B2 := Lib.hid b2
  clear b2 c0 c1 c2 c3 c4 h1
  obtain ⟨c0, c1, c2, c3, c4⟩ := cell5 (K1.out.below B2.out)
  go_wp2_with fail
  refine (HKY.out w2 B2.out).mono ?_
  rintro e w3 ⟨rfl, b3⟩
  unfold keyV
  have B3 := Lib.hid (B2.out.trans (b3.mono B2.out.size))
  have BE := Lib.hid (BW.out.trans (B3.out.mono BW.out.size))
  have KM3 := Lib.hid (KM.out.below B3.out)
  clear b3 c0 c1 c2 c3 c4
  obtain ⟨c0, c1, c2, c3, c4⟩ := cell5 (K1.out.below B3.out)
  by_cases hd : ∃ p ∈ pairs l n, p.1 = ky
  · obtain ⟨p, hp, he⟩ := hd
    obtain ⟨i, hi1, hi2, rfl⟩ := pairs_mem hp
    have hil : i < l.length := by rw [HN.out]; exact hi2
    have he : keyT (l.getD i noT) = ky := he
    rw [he] at hp
    have hlk := KM3.out.hit HOK.out hp
    unfold keyV at hlk
    obtain ⟨ab, aof, rfl, hab, hcl⟩ := (HA.out.below B3.out).cells (by omega)
    have hat := hcl i hil
    obtain ⟨x, hx⟩ : ∃ x, l[i] = x := ⟨_, rfl⟩
    rw [hx] at hat
    rw [getD_of hil, hx] at he
    have HX := Lib.hid hx
    have HEK := Lib.hid he
    obtain ⟨xw, xwc, xk, xkc, a0, a1, a2, a3, a4, -, -, hxc⟩ := hat
    have HS0 := fun W (h : Below w3.heap.size w3 W) => HSM.out W (B3.out.trans (h.mono B3.out.size)) x xw xk xwc xkc (hxc.below h)
    have HS := Lib.hid HS0
    clear hp he hx hcl hab hxc HS0
    by_cases hxt : x = t
    · have HS1 := Lib.hid (fun W h => by have := HS.out W h; rw [decide_eq_true hxt] at this; exact this)
      have Hp := Lib.hid (at_of HR.out hil (HX.out.trans hxt))
      clear hxt HS
      go_wp2_with fail
      go_still_tail 8, (by kernel_rfl)
      clear c0 c1 c2 c3 c4 a0 a1 a2 a3 a4 hlk
      change wpList _ _ _ _ _ w3.drew
      have BD := Lib.hid (show Below w3.heap.size w3 w3.drew from (Below.refl _ _).drew)
      generalize w3.drew = w4 at *
      go_wp2_with fail
      refine (HS1.out _ BD.out).mono ?_
      rintro e w5 ⟨rfl, b5⟩
      have B5 := Lib.hid (BE.out.trans ((BD.out.trans (b5.mono BD.out.size)).mono BE.out.size))
      clear b5
      go_wp2_with fail
      go_ret2
      rw [Hp.out]
      exact find_yes (by omega) B5.out
    · have HS1 := Lib.hid (fun W h => by have := HS.out W h; rw [decide_eq_false hxt] at this; exact this)
      have Hp := Lib.hid (show atT l t = -1 from at_none_of HR.out (by rw [HBP1.out]; exact hneg) (fun j hj hj22 ej => hxt (by
        have e1 : keyT l[j] = keyT l[i] := by rw [ej, HKE.out, HX.out, HEK.out]
        have e2 := keyT_inj (made_of_right HR.out hj hj22) (made_of_right HR.out hil hi1) e1
        rw [← HX.out, ← e2, ej])))
      clear hxt HS
      go_wp2_with fail
      go_still_tail 8, (by kernel_rfl)
      clear c0 c1 c2 c3 c4 a0 a1 a2 a3 a4 hlk
      change wpList _ _ _ _ _ w3.drew
      have BD := Lib.hid (show Below w3.heap.size w3 w3.drew from (Below.refl _ _).drew)
      generalize w3.drew = w4 at *
      go_wp2_with fail
      refine (HS1.out _ BD.out).mono ?_
      rintro e w5 ⟨rfl, b5⟩
      have B5 := Lib.hid (BE.out.trans ((BD.out.trans (b5.mono BD.out.size)).mono BE.out.size))
      clear b5
      go_wp2_with fail
      go_ret2
      rw [Hp.out]
      exact find_no (by decide) B5.out
  · have hno : ∀ p ∈ pairs l n, p.1 ≠ ky := fun p hp g => hd ⟨p, hp, g⟩
    have hlk := KM3.out.miss HOK.out hno
    unfold keyV at hlk
    have Hp := Lib.hid (show atT l t = -1 from at_none_of HR.out (by rw [HBP1.out]; exact hneg) (fun j hj hj22 ej => by
      have hp := mem_pairs (l := l) (k := n) (i := j) hj22 (by rw [← HN.out]; exact hj)
      rw [getD_of hj, ej, HKE.out] at hp
      exact hno _ hp rfl))
    clear hno hd
    go_wp2_with fail
    go_quiet (fail)
    rename_i nq
    have BQ := Lib.hid (below_drewN BE.out nq)
    go_wp2_with fail
    go_ret2
    rw [Hp.out]
    exact find_no (by decide) BQ.out
end Go.Proofs.YtkmnfkhchcoamaaGreatDoor

