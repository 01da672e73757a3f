import Derived.Test.YtkmnfkhchcoamaaGreatDoorUnP
import Derived.Test.YtkmnfkhchcoamaaGreatDoorTypPI
import Derived.Test.YtkmnfkhchcoamaaGreatDoorTypPF
import Derived.StillTailTactics
/- The program's named. -/
namespace Go.Proofs.YtkmnfkhchcoamaaGreatDoor
open Go.RowKit
set_option linter.unusedSimpArgs false
set_option linter.unusedVariables false

theorem is_false {R : Bool} (h : R = true → False) : false = R := by cases R with
  | false => rfl
  | true => exact (h rfl).elim
theorem oneU_iff {l : List Ty} {n : Nm} : oneU l n = true ↔ namedB n.name = true ∧ (n.bounds.length ≤ 16 ∧ n.methods.length ≤ 16) ∧ underB l n = true ∧ (∀ b ∈ n.bounds, boundB l n.bounds.length b = true) ∧ (∀ m ∈ n.methods, methB l n.bounds.length m = true) ∧ risesB (n.methods.map (·.name)) = true := by
  unfold oneU
  simp only [Bool.and_eq_true, decide_eq_true_eq, List.all_eq_true]
  constructor
  · rintro ⟨⟨⟨⟨⟨h1, h2⟩, h3⟩, h4⟩, h5⟩, h6⟩; exact ⟨h1, h2, h3, h4, h5, h6⟩
  · rintro ⟨h1, h2, h3, h4, h5, h6⟩; exact ⟨⟨⟨⟨⟨h1, h2⟩, h3⟩, h4⟩, h5⟩, h6⟩
theorem isB_in {l : List Ty} {z : Nat} (hz : z < l.length) (k : Int) : isB l (z : Int) k = decide (kindAt l (z : Int) = k) := by
  unfold isB inL
  rw [decide_eq_true (by omega), Bool.true_and]
theorem underB_iff {l : List Ty} {n : Nm} {z : Nat} (hz : z < l.length) (hu : n.under = (z : Int)) : underB l n = true ↔ fitB l (z : Int) n.bounds.length = true ∧ nolessB l (z : Int) = true ∧ (n.methods = [] ∨ (kindAt l (z : Int) ≠ 7 ∧ kindAt l (z : Int) ≠ 1)) := by
  unfold underB nolessB
  rw [hu, isB_in hz, isB_in hz, isB_in hz, isB_in hz]
  simp only [Bool.and_eq_true, Bool.or_eq_true, Bool.not_eq_true', decide_eq_true_eq, decide_eq_false_iff_not]
  constructor
  · rintro ⟨⟨⟨⟨h1, h2⟩, h3⟩, h4⟩, h5⟩; exact ⟨h1, ⟨h4, h2, h3⟩, h5⟩
  · rintro ⟨h1, ⟨h4, h2, h3⟩, h5⟩; exact ⟨⟨⟨⟨h1, h2⟩, h3⟩, h4⟩, h5⟩
theorem fit_in {l : List Ty} {i : Int} {most : Nat} (h : fitB l i most = true) : 0 ≤ i ∧ i < (l.length : Int) := by
  unfold fitB inL at h
  rw [Bool.and_eq_true] at h
  exact of_decide_eq_true h.1
theorem boundB_iff {l : List Ty} {most : Nat} {i : Int} : boundB l most i = true ↔ fitB l i most = true ∧ kindAt l i = 7 := by
  unfold boundB isB
  simp only [Bool.and_eq_true, decide_eq_true_eq]
  constructor
  · rintro ⟨⟨h1, h2⟩, h3⟩; exact ⟨h3, h2⟩
  · rintro ⟨h1, h2⟩
    refine ⟨⟨?_, h2⟩, h1⟩
    unfold fitB at h1
    rw [Bool.and_eq_true] at h1
    exact h1.1
theorem methB_iff {l : List Ty} {most : Nat} {m : Mt} : methB l most m = true ↔ nameB m.name = true ∧ fitB l m.sig most = true ∧ kindAt l m.sig = 5 := by
  unfold methB isB
  simp only [Bool.and_eq_true, decide_eq_true_eq]
  constructor
  · rintro ⟨⟨h0, ⟨h1, h2⟩⟩, h3⟩; exact ⟨h0, h3, h2⟩
  · rintro ⟨h0, h1, h2⟩
    refine ⟨⟨h0, ⟨?_, h2⟩⟩, h1⟩
    unfold fitB at h1
    rw [Bool.and_eq_true] at h1
    exact h1.1
theorem namesM_get {ms : List Mt} {i : Nat} (h : i < ms.length) : (ms.map (·.name)).getD i ⟨#[]⟩ = ms[i].name := by
  rw [getD_of (by rw [List.length_map]; exact h), List.getElem_map]
theorem rise_zero (xs : List ByteArray) : riseB xs 0 = true := rfl
theorem rise_succ {ms : List Mt} {k p : Nat} (hk : k < ms.length) (hp : k = p + 1) : riseB (ms.map (·.name)) k = lessB ms[p].name ms[k].name := by
  subst hp
  unfold riseB
  rw [decide_eq_false (by omega), Bool.false_or, Nat.add_sub_cancel, namesM_get hk, namesM_get (by omega)]
theorem rises_at {xs : List ByteArray} (h : risesB xs = true) {k : Nat} (hk : k < xs.length) : riseB xs k = true := List.all_eq_true.1 h k (List.mem_range.2 hk)
theorem rises_of {xs : List ByteArray} (h : ∀ k, k < xs.length → riseB xs k = true) : risesB xs = true := List.all_eq_true.2 fun k hk => h k (List.mem_range.1 hk)
theorem less_not {u v : ByteArray} : lessB v u = !(Op.bytesLess u.toList v.toList || u.toList == v.toList) := less_tri u.toList v.toList
theorem cell3m {w : World} {b : Nat} {a0 a1 a2 : Value} {T : TypeId} (h : BlockAt w b #[a0, a1, a2] T) : w.cell? ⟨b, 0, none⟩ = some a0 ∧ w.cell? ⟨b, 1, none⟩ = some a1 ∧ w.cell? ⟨b, 2, none⟩ = some a2 := ⟨h.cell 0, h.cell 1, h.cell 2⟩
set_option maxHeartbeats 16000000 in
set_option maxRecDepth 100000 in
theorem unamed_any (l : List Ty) (ao : Option Addr) (ac : Nat) (n : Nm) (bo mo : Option Addr) (bc mc qb : Nat) (w : World) (hl : ARow w ao l) (hr : rightT l = true) (hac : l.length ≤ ac) (hq : AskC w qb l) (hn : NmC w bo mo n) (hbc : n.bounds.length ≤ bc) (hmc : n.methods.length ≤ mc) (hm : MaxAt w) :
    Calls Tryz.prog 50 #[.slice ao l.length ac, .slice (some ⟨qb, 0, none⟩) l.length l.length, nmV n bo bc mo mc] w fun e w' => e = .returned (.bool (oneU l n)) ∧ Below w.heap.size w w' := by
  obtain ⟨R, hR⟩ : ∃ R, oneU l n = R := ⟨_, rfl⟩
  rw [hR]
  have HR := Lib.hid hR
  clear hR
  unfold nmV
  have ll := (right_step hr).1
  obtain ⟨L, hL⟩ : ∃ L, l.length = L := ⟨_, rfl⟩
  obtain ⟨nb, hnb⟩ : ∃ nb, n.bounds.length = nb := ⟨_, rfl⟩
  obtain ⟨nm, hnm⟩ : ∃ nm, n.methods.length = nm := ⟨_, rfl⟩
  obtain ⟨s, hs⟩ : ∃ s, n.name = s := ⟨_, rfl⟩
  obtain ⟨ud, hud⟩ : ∃ ud, n.under = ud := ⟨_, rfl⟩
  have HL := Lib.hid hL
  have HNB := Lib.hid hnb
  have HNM := Lib.hid hnm
  have HS := Lib.hid hs
  have HUD := Lib.hid hud
  have l1 := hn.ok.bl
  have l2 := hn.ok.ml
  have l3 := hn.ok.nl
  rw [hnb] at l1 hbc ⊢
  rw [hnm] at l2 hmc ⊢
  rw [hs] at l3 ⊢
  rw [hL] at ll ⊢
  rw [hud]
  have HN := Lib.hid hn
  have HA := Lib.hid hl
  obtain ⟨w1, h1⟩ : ∃ w1, w.alloc (.cells #[.slice ao L ac] 22) = w1 := ⟨_, rfl⟩
  obtain ⟨k1, q1, z1⟩ := box_new h1
  obtain ⟨w2, h2⟩ : ∃ w2, w1.alloc (.cells #[.slice (some ⟨qb, 0, none⟩) L L] 36) = w2 := ⟨_, rfl⟩
  obtain ⟨k2, q2, z2⟩ := box_new h2
  obtain ⟨w3, h3⟩ : ∃ w3, w2.alloc (.cells #[.string s, .slice bo nb bc, .int .i64 ud, .slice mo nm mc] 51) = w3 := ⟨_, rfl⟩
  obtain ⟨k3, q3, z3⟩ := box_new h3
  have B2 := q1.trans (q2.mono q1.size)
  have B3 := Lib.hid (B2.trans (q3.mono B2.size))
  have K1 := Lib.hid ((k1.below q2).below q3)
  have K2 := Lib.hid (k2.below q3)
  have K3 := Lib.hid k3
  obtain ⟨y0, y1, y2, y3⟩ := cell4 k3
  have HTW := Lib.hid (utwoNames_any s w3 (by omega) (hm.below B3.out))
  have HCQ0 : ∀ (i : Int) W, Below w3.heap.size w3 W → Calls Tryz.prog 72 #[.int .i64 i, .pointer (some ⟨w.heap.size, 0, none⟩), .pointer (some ⟨w1.heap.size, 0, none⟩), .pointer (some ⟨w2.heap.size, 0, none⟩)] W fun e w' => e = .returned (.bool (fitB l i nb)) ∧ ∃ n, w' = W.drewN n := fun i W hb =>
    named1_any l ao bo ac bc nb w.heap.size w1.heap.size w2.heap.size qb i W hac (by rw [hL]; omega) ((hq.below B3.out).below hb) (by rw [hL]; exact (hb.cell K1.out.lt).trans (K1.out.cell 0)) (by rw [hL]; exact (hb.cell K2.out.lt).trans (K2.out.cell 0)) ((hb.cell K3.out.lt).trans (K3.out.cell 1))
  have HCQ := Lib.hid HCQ0
  have HNL0 : ∀ (z : Nat) W, Below w3.heap.size w3 W → z < L → Calls Tryz.prog 73 #[.slice ao L ac, .int .i64 z] W fun e w' => e = .returned (.bool (nolessB l (z : Int))) ∧ W = w' := fun z W hb hz => by
    have := nameless_any l ao ac z W ((hl.below B3.out).below hb) hac (by rw [hL]; omega) (by rw [hL]; exact hz)
    rw [hL] at this
    exact this
  have HNL := Lib.hid HNL0
  rw [hL] at hac
  clear HCQ0 HNL0 hL hnb hnm hs hud hn hl hq hm hr k1 k2 k3 q1 q2 q3 z1 z2 z3 B2
  go_enter Tryz.func50, Tryz.ntmps50
  cases hnb : namedB s
  · have HV := Lib.hid (is_false (R := R) fun g => by
      have := (oneU_iff.1 (HR.out.trans g)).1
      rw [HS.out, hnb] at this
      cases this)
    rw [hnb] at HTW
    clear hnb
    go_wp2_with fail
    refine HTW.out.mono ?_
    rintro e w4 ⟨rfl, b4⟩
    have B4 := Lib.hid (B3.out.trans (b4.mono B3.out.size))
    clear b4 h1 h2 h3 y0 y1 y2 y3
    go_wp2_with fail
    go_ret
    exact ⟨ret_bool HV.out, B4.out⟩
  have NB := Lib.hid hnb
  rw [hnb] at HTW
  clear hnb
  by_cases c1 : 16 < nb
  · have HV := Lib.hid (is_false (R := R) fun g => by
      have := (oneU_iff.1 (HR.out.trans g)).2.1.1
      rw [HNB.out] at this
      omega)
    have hd1 : decide ((16 : Int) < (nb : Int)) = true := decide_eq_true (by omega)
    go_wp2_with fail
    refine HTW.out.mono ?_
    rintro e w4 ⟨rfl, b4⟩
    have B4 := Lib.hid (B3.out.trans (b4.mono B3.out.size))
    obtain ⟨y0, y1, y2, y3⟩ := cell4 (K3.out.below b4)
    clear b4 h1 h2 h3
    go_wp2_with fail
    go_ret
    exact ⟨ret_bool HV.out, B4.out⟩
  have hd1 : decide ((16 : Int) < (nb : Int)) = false := decide_eq_false (by omega)
  by_cases c2 : 16 < nm
  · have HV := Lib.hid (is_false (R := R) fun g => by
      have := (oneU_iff.1 (HR.out.trans g)).2.1.2
      rw [HNM.out] at this
      omega)
    have hd2 : decide ((16 : Int) < (nm : Int)) = true := decide_eq_true (by omega)
    go_wp2_with fail
    refine HTW.out.mono ?_
    rintro e w4 ⟨rfl, b4⟩
    have B4 := Lib.hid (B3.out.trans (b4.mono B3.out.size))
    obtain ⟨y0, y1, y2, y3⟩ := cell4 (K3.out.below b4)
    clear b4 h1 h2 h3
    go_wp2_with fail
    go_ret
    exact ⟨ret_bool HV.out, B4.out⟩
  have hd2 : decide ((16 : Int) < (nm : Int)) = false := decide_eq_false (by omega)
  go_wp2_with fail
  refine HTW.out.mono ?_
  rintro e w4 ⟨rfl, b4⟩
  have B4 := Lib.hid b4
  have B4w := Lib.hid (B3.out.trans (b4.mono B3.out.size))
  obtain ⟨y0, y1, y2, y3⟩ := cell4 (K3.out.below b4)
  clear b4 h1 h2 h3 HTW
  go_wp2_with fail
  go_loopw [33] (fun v wr => ∃ k : Nat, k ≤ nb ∧ v = .int .i64 k ∧ Hid (∀ j, j < k → boundB l nb (n.bounds.getD j 0) = true) ∧ Hid (Below w3.heap.size w3 wr)) (fun v _ => nb - (intOf v).toNat)
  case atStart => exact ⟨0, Nat.zero_le _, rfl, Lib.hid (fun j hj => absurd hj (Nat.not_lt_zero _)), B4⟩
  case round =>
    obtain ⟨k, hk, rfl, Hall, HB⟩ := hrel
    have BW := Lib.hid (B3.out.trans (HB.out.mono B3.out.size))
    by_cases hkn : k < nb
    · have hkI : (k : Int) < (nb : Int) := by omega
      have hkl : k < n.bounds.length := by rw [HNB.out]; exact hkn
      obtain ⟨ib, iof, rfl, hib, hic⟩ := (HN.out.bounds.below BW.out).cells (by omega)
      have ck := hic k hkl
      obtain ⟨i, hi⟩ : ∃ i, n.bounds.getD k 0 = i := ⟨_, rfl⟩
      have HI := Lib.hid hi
      rw [hi] at ck
      have HC0 := HCQ.out i wr HB.out
      have kl := (HB.out.cell (p := ⟨w.heap.size, 0, none⟩) K1.out.lt).trans (K1.out.cell 0)
      clear hi hic hib
      have BAD := Lib.hid (show boundB l nb i = false → false = R from fun h => is_false fun g => by
        have := (oneU_iff.1 (HR.out.trans g)).2.2.2.1 _ (getD_mem hkl)
        rw [HI.out, HNB.out, h] at this
        cases this)
      cases hf : fitB l i nb
      · have HV := Lib.hid (BAD.out (by cases hb : boundB l nb i; rfl; rw [(boundB_iff.1 hb).1] at hf; cases hf))
        rw [hf] at HC0
        have HC := Lib.hid HC0
        clear HC0 hf
        go_wp2_with fail
        refine HC.out.mono ?_
        rintro e w5 ⟨rfl, nq, rfl⟩
        clear HC
        go_wp2_with fail
        go_ret
        exact ⟨ret_bool HV.out, below_drewN BW.out nq⟩
      · have hin := fit_in hf
        rw [HL.out] at hin
        rw [hf] at HC0
        have HC := Lib.hid HC0
        have HF := Lib.hid hf
        clear HC0 hf
        obtain ⟨z, rfl⟩ : ∃ z : Nat, i = (z : Int) := ⟨i.toNat, by omega⟩
        have hzL : z < L := by omega
        have hzl : z < l.length := by rw [HL.out]; exact hzL
        obtain ⟨ab, aof, rfl, hab, hac2⟩ := (HA.out.below BW.out).cells (by omega)
        obtain ⟨_, _, _, _, ca, -⟩ := hac2 z hzl
        obtain ⟨X, hX⟩ : ∃ X, l[z].kind = X := ⟨_, rfl⟩
        rw [hX] at ca
        have HX := Lib.hid (show kindAt l (z : Int) = X by rw [kindAt_eq hzl]; exact hX)
        clear hX hac2 hab
        by_cases h7 : X = 7
        · have q7 : (X != 7) = false := by rw [bne_eq_false_iff_eq]; exact h7
          have Hall2 := Lib.hid (show ∀ j, j < k + 1 → boundB l nb (n.bounds.getD j 0) = true from fun j hj => by
            rcases Nat.lt_or_eq_of_le (Nat.le_of_lt_succ hj) with h | h
            · exact Hall.out j h
            · rw [h, HI.out, boundB_iff, HX.out]; exact ⟨HF.out, h7⟩)
          clear h7
          go_wp2_with fail
          refine HC.out.mono ?_
          rintro e w5 ⟨rfl, nq, rfl⟩
          have HB2 := Lib.hid (below_drewN HB.out nq)
          clear HC
          go_wp2_with fail
          go_roundw
          case rel => exact ⟨k + 1, by omega, by go_num, Hall2, HB2⟩
          case measure => first | (simp [intOf]; done) | (simp [intOf]; omega)
        · have q7 : (X != 7) = true := by rw [bne_iff_ne]; exact h7
          have HV := Lib.hid (BAD.out (by
            cases hb : boundB l nb (z : Int)
            · rfl
            · have := (boundB_iff.1 hb).2; rw [HX.out] at this; exact absurd this h7))
          clear h7
          go_wp2_with fail
          refine HC.out.mono ?_
          rintro e w5 ⟨rfl, nq, rfl⟩
          clear HC
          go_wp2_with fail
          go_ret
          exact ⟨ret_bool HV.out, below_drewN BW.out nq⟩
    · obtain rfl : k = nb := by omega
      have HBD := Lib.hid (show ∀ b ∈ n.bounds, boundB l k b = true from fun b hb => by
        obtain ⟨j, hj, rfl⟩ := List.getElem_of_mem hb
        have := Hall.out j (by rw [← HNB.out]; exact hj)
        rwa [getD_of hj] at this)
      have HC0 := HCQ.out ud wr HB.out
      have kl := (HB.out.cell (p := ⟨w.heap.size, 0, none⟩) K1.out.lt).trans (K1.out.cell 0)
      obtain ⟨y0, y1, y2, y3⟩ := cell4 (K3.out.below HB.out)
      have BAD := Lib.hid (show underB l n = false → false = R from fun h => is_false fun g => by
        have := (oneU_iff.1 (HR.out.trans g)).2.2.1
        rw [h] at this
        cases this)
      cases hf : fitB l ud k
      · have HV := Lib.hid (BAD.out (by unfold underB; rw [HUD.out, HNB.out, hf]; rfl))
        rw [hf] at HC0
        have HC := Lib.hid HC0
        clear HC0 hf Hall
        go_wp2_with fail
        refine HC.out.mono ?_
        rintro e w5 ⟨rfl, nq, rfl⟩
        clear HC
        go_wp2_with fail
        go_ret
        exact ⟨ret_bool HV.out, below_drewN BW.out nq⟩
      have hin := fit_in hf
      rw [HL.out] at hin
      rw [hf] at HC0
      have HC := Lib.hid HC0
      have HF := Lib.hid hf
      clear HC0 hf
      obtain ⟨z, rfl⟩ : ∃ z : Nat, ud = (z : Int) := ⟨ud.toNat, by omega⟩
      have hzL : z < L := by omega
      have hzl : z < l.length := by rw [HL.out]; exact hzL
      have HUI := Lib.hid (underB_iff hzl HUD.out)
      have HNLz := fun m => HNL.out z (wr.drewN m) (below_drewN HB.out m) hzL
      cases hno : nolessB l (z : Int)
      · have HV := Lib.hid (BAD.out (by
          cases hb : underB l n
          · rfl
          · have := (HUI.out.1 hb).2.1; rw [hno] at this; cases this))
        rw [hno] at HNLz
        have HNZ := Lib.hid HNLz
        clear HNLz hno Hall
        go_wp2_with fail
        refine HC.out.mono ?_
        rintro e w5 ⟨rfl, nq, rfl⟩
        have kl := ((below_drewN HB.out nq).cell (p := ⟨w.heap.size, 0, none⟩) K1.out.lt).trans (K1.out.cell 0)
        obtain ⟨y0, y1, y2, y3⟩ := cell4 (K3.out.below (below_drewN HB.out nq))
        clear HC
        go_wp2_with fail
        refine (HNZ.out _).mono ?_
        rintro e w6 ⟨rfl, rfl⟩
        clear HNZ
        go_wp2_with fail
        go_ret
        exact ⟨ret_bool HV.out, below_drewN BW.out nq⟩
      rw [hno] at HNLz
      have HNZ := Lib.hid HNLz
      have HNO := Lib.hid hno
      clear HNLz hno Hall
      obtain ⟨ab, aof, rfl, hab, hac2⟩ := (HA.out.below BW.out).cells (by omega)
      obtain ⟨_, _, _, _, ca, -⟩ := hac2 z hzl
      obtain ⟨X, hX⟩ : ∃ X, l[z].kind = X := ⟨_, rfl⟩
      rw [hX] at ca
      have HX := Lib.hid (show kindAt l (z : Int) = X by rw [kindAt_eq hzl]; exact hX)
      clear hX hac2
      go_wp2_with fail
      refine HC.out.mono ?_
      rintro e w5 ⟨rfl, nq, rfl⟩
      have HB5 := Lib.hid (below_drewN HB.out nq)
      have kl := (HB5.out.cell (p := ⟨w.heap.size, 0, none⟩) K1.out.lt).trans (K1.out.cell 0)
      obtain ⟨y0, y1, y2, y3⟩ := cell4 (K3.out.below HB5.out)
      have ca2 := ((below_drewN (Below.refl _ wr) nq).cell (p := ⟨ab, aof + z * 5, none⟩) hab).trans ca
      clear HC hab ca
      go_wp2_with fail
      refine (HNZ.out _).mono ?_
      rintro e w6 ⟨rfl, rfl⟩
      clear HNZ
      have BW5 := Lib.hid (B3.out.trans (HB5.out.mono B3.out.size))
      by_cases m0 : nm = 0
      · have HUN := Lib.hid (show underB l n = true from HUI.out.2 ⟨by rw [HNB.out]; exact HF.out, HNO.out, .inl (List.eq_nil_of_length_eq_zero (by rw [HNM.out]; exact m0))⟩)
        subst m0
        go_wp2_with fail
        clear kl y0 y1 y2 y3 ca2
        go_loopw [83] (fun v wr => v = .int .i64 0 ∧ Hid (Below w3.heap.size w3 wr)) (fun v _ => 0)
        case atStart => exact ⟨rfl, HB5⟩
        case round =>
          obtain ⟨rfl, HB6⟩ := hrel
          have BW6 := Lib.hid (B3.out.trans (HB6.out.mono B3.out.size))
          have HNIL := Lib.hid (List.eq_nil_of_length_eq_zero HNM.out)
          have HV := Lib.hid (show true = R by
            rw [← HR.out]
            exact (oneU_iff.2 ⟨by rw [HS.out]; exact NB.out, ⟨by rw [HNB.out]; omega, by rw [HNM.out]; omega⟩, HUN.out, by rw [HNB.out]; exact HBD.out, (fun m hm => by rw [HNIL.out] at hm; exact absurd hm (by simp)), by rw [HNIL.out]; rfl⟩).symm)
          go_wp2_with fail
          go_ret
          exact ⟨ret_bool HV.out, BW6.out⟩
      · have hz0 : decide ((0 : Int) < (nm : Int)) = true := decide_eq_true (by omega)
        have hz0n : 0 < nm := by omega
        have NOT := Lib.hid (show X = 7 ∨ X = 1 → false = R from fun h => BAD.out (by
          cases hb : underB l n
          · rfl
          · rcases (HUI.out.1 hb).2.2 with g | g
            · have := HNM.out
              rw [g] at this
              exact absurd this.symm m0
            · rw [HX.out] at g; omega))
        clear m0
        by_cases h7 : X = 7
        · have q7 : (X == 7) = true := by rw [beq_iff_eq]; exact h7
          have HV := Lib.hid (NOT.out (.inl h7))
          clear h7
          go_wp2_with fail
          go_ret
          exact ⟨ret_bool HV.out, BW5.out⟩
        have q7 : (X == 7) = false := by rw [beq_eq_false_iff_ne]; exact h7
        by_cases h1 : X = 1
        · have q1 : (X == 1) = true := by rw [beq_iff_eq]; exact h1
          have HV := Lib.hid (NOT.out (.inr h1))
          clear h1 h7
          go_wp2_with fail
          go_ret
          exact ⟨ret_bool HV.out, BW5.out⟩
        have q1 : (X == 1) = false := by rw [beq_eq_false_iff_ne]; exact h1
        have HUN := Lib.hid (show underB l n = true from HUI.out.2 ⟨by rw [HNB.out]; exact HF.out, HNO.out, .inr (by rw [HX.out]; exact ⟨h7, h1⟩)⟩)
        clear h1 h7
        go_wp2_with fail
        clear kl y0 y1 y2 y3 ca2
        go_loopw [83] (fun v wr => ∃ k2 : Nat, k2 ≤ nm ∧ v = .int .i64 k2 ∧ Hid (∀ j (hj : j < n.methods.length), j < k2 → methB l k n.methods[j] = true ∧ riseB (n.methods.map (·.name)) j = true) ∧ Hid (Below w3.heap.size w3 wr)) (fun v _ => nm - (intOf v).toNat)
        case atStart => exact ⟨0, Nat.zero_le _, rfl, Lib.hid (fun j _ hj => absurd hj (Nat.not_lt_zero _)), HB5⟩
        case round =>
          obtain ⟨k2, hk2, rfl, Hall, HB6⟩ := hrel
          have BW6 := Lib.hid (B3.out.trans (HB6.out.mono B3.out.size))
          by_cases hkm : k2 < nm
          · have hkI : (k2 : Int) < (nm : Int) := by omega
            have hkl2 : k2 < n.methods.length := by rw [HNM.out]; exact hkm
            obtain ⟨mb, mof, rfl, hmb, hmcell⟩ := (HN.out.methods.below BW6.out).cells (by omega)
            obtain ⟨m0, m1, m2⟩ := hmcell k2 hkl2
            have HMC := Lib.hid hmcell
            clear hmcell
            obtain ⟨x, hx⟩ : ∃ x, n.methods[k2] = x := ⟨_, rfl⟩
            rw [hx] at m0 m1 m2
            have HXE := Lib.hid hx
            have hsz := (HN.out.ok.ms _ (List.getElem_mem hkl2)).1
            rw [hx] at hsz
            obtain ⟨u, hu⟩ : ∃ u, x.name = u := ⟨_, rfl⟩
            obtain ⟨sg, hsg⟩ : ∃ sg, x.sig = sg := ⟨_, rfl⟩
            have HU := Lib.hid hu
            have HSG := Lib.hid hsg
            rw [hu] at m0 hsz
            rw [hsg] at m2
            obtain ⟨wn, hwn⟩ : ∃ wn, wr.alloc (.cells #[.string u, .bool x.ptr, .int .i64 sg] 48) = wn := ⟨_, rfl⟩
            obtain ⟨kx, qx, zx⟩ := box_new hwn
            obtain ⟨d0, d1, d2⟩ := cell3m kx
            have HBN := Lib.hid (HB6.out.trans (qx.mono HB6.out.size))
            have BWN := Lib.hid (B3.out.trans (HBN.out.mono B3.out.size))
            obtain ⟨y0, y1, y2, y3⟩ := cell4 (K3.out.below HBN.out)
            have kl := (HBN.out.cell (p := ⟨w.heap.size, 0, none⟩) K1.out.lt).trans (K1.out.cell 0)
            have HRQ0 : ∀ m, Calls Tryz.prog 72 #[.int .i64 sg, .pointer (some ⟨w.heap.size, 0, none⟩), .pointer (some ⟨w1.heap.size, 0, none⟩), .pointer (some ⟨w2.heap.size, 0, none⟩)] (wn.drewN m) fun e w' => e = .returned (.bool (fitB l sg k)) ∧ ∃ q, w' = wn.drewN q := fun m => (HCQ.out sg (wn.drewN m) (below_drewN HBN.out m)).mono fun _ _ h => ⟨h.1, by obtain ⟨q, hq⟩ := h.2; exact ⟨m + q, by rw [hq, World.drewN_drewN]⟩⟩
            have HNQ0 : ∀ W, Calls Tryz.prog 39 #[.string u] W fun e w' => e = .returned (.bool (nameB u)) ∧ w' = W := fun W => (name_any u W (by omega)).mono fun _ _ h => ⟨h.1, h.2.symm⟩
            have BADM := Lib.hid (show ¬ (methB l k x = true) → false = R from fun h => is_false fun g => h (by
              have := (oneU_iff.1 (HR.out.trans g)).2.2.2.2.1 _ (List.getElem_mem hkl2)
              rw [HXE.out, HNB.out] at this
              exact this))
            have BADR := Lib.hid (show riseB (n.methods.map (·.name)) k2 = false → false = R from fun h => is_false fun g => by
              have := rises_at (oneU_iff.1 (HR.out.trans g)).2.2.2.2.2 (k := k2) (by rw [List.length_map]; exact hkl2)
              rw [h] at this
              cases this)
            have GOOD := Lib.hid (show methB l k x = true → riseB (n.methods.map (·.name)) k2 = true → ∀ j (hj : j < n.methods.length), j < k2 + 1 → methB l k n.methods[j] = true ∧ riseB (n.methods.map (·.name)) j = true from fun h1 h2 j hj h => by
              rcases Nat.lt_or_eq_of_le (Nat.le_of_lt_succ h) with c | c
              · exact Hall.out j hj c
              · subst c; rw [HXE.out]; exact ⟨h1, h2⟩)
            clear hx hu hsg kx qx zx
            cases hna : nameB u <;> rw [hna] at HNQ0 <;> have NA := Lib.hid hna <;> have HNQ := Lib.hid HNQ0 <;> clear hna HNQ0
            · have HV := Lib.hid (BADM.out (fun g => by have := (methB_iff.1 g).1; rw [HU.out, NA.out] at this; cases this))
              have HRQ := Lib.hid HRQ0
              clear HRQ0
              go_wp2_with fail
              go_quiet (first | (go_at_call 39; exact Calls.quiet_of_same (HNQ.out _)) | (go_at_call 72; exact HRQ.out _))
              go_wp2_with fail
              go_ret
              exact ⟨ret_bool HV.out, below_drewN BWN.out _⟩
            by_cases h0 : k2 = 0
            · subst h0
              rw [Nat.zero_mul, Nat.add_zero] at m0 m1 m2
              have RI := Lib.hid (show riseB (n.methods.map (·.name)) 0 = true from rfl)
              cases hf2 : fitB l sg k <;> rw [hf2] at HRQ0 <;> have FF := Lib.hid hf2 <;> have HRQ := Lib.hid HRQ0
              · have HV := Lib.hid (BADM.out (fun g => by have := (methB_iff.1 g).2.1; rw [HSG.out, FF.out] at this; cases this))
                clear HRQ0 hf2
                go_wp2_with fail
                go_quiet (first | (go_at_call 39; exact Calls.quiet_of_same (HNQ.out _)) | (go_at_call 72; exact HRQ.out _))
                go_wp2_with fail
                go_ret
                exact ⟨ret_bool HV.out, below_drewN BWN.out _⟩
              · have hin2 := fit_in hf2
                rw [HL.out] at hin2
                clear HRQ0 hf2
                obtain ⟨z2, rfl⟩ : ∃ z2 : Nat, sg = (z2 : Int) := ⟨sg.toNat, by omega⟩
                have hzL2 : z2 < L := by omega
                have hzl2 : z2 < l.length := by rw [HL.out]; exact hzL2
                obtain ⟨ab2, aof2, hae, hab2, hac3⟩ := (HA.out.below BWN.out).cells (by omega)
                injection hae with hae
                injection hae with hae1 hae2
                subst hae1
                subst hae2
                obtain ⟨_, _, _, _, ca2, -⟩ := hac3 z2 hzl2
                obtain ⟨X2, hX2⟩ : ∃ X, l[z2].kind = X := ⟨_, rfl⟩
                rw [hX2] at ca2
                have HX2 := Lib.hid (show kindAt l (z2 : Int) = X2 by rw [kindAt_eq hzl2]; exact hX2)
                clear hX2 hac3 hab2
                by_cases h5 : X2 = 5
                · have q5 : (X2 != 5) = false := by rw [bne_eq_false_iff_eq]; exact h5
                  have Hx := Lib.hid (GOOD.out (methB_iff.2 ⟨by rw [HU.out]; exact NA.out, by rw [HSG.out]; exact FF.out, by rw [HSG.out, HX2.out]; exact h5⟩) RI.out)
                  clear h5
                  go_wp2_with fail
                  go_quiet (first | (go_at_call 39; exact Calls.quiet_of_same (HNQ.out _)) | (go_at_call 72; exact HRQ.out _))
                  go_wp2_with fail
                  go_roundw
                  case rel => exact ⟨0 + 1, by omega, by go_num, Hx, Lib.hid (below_drewN HBN.out _)⟩
                  case measure => first | (simp [intOf]; done) | (simp [intOf]; omega)
                · have q5 : (X2 != 5) = true := by rw [bne_iff_ne]; exact h5
                  have HV := Lib.hid (BADM.out (fun g => by have := (methB_iff.1 g).2.2; rw [HSG.out, HX2.out] at this; exact h5 this))
                  clear h5
                  go_wp2_with fail
                  go_quiet (first | (go_at_call 39; exact Calls.quiet_of_same (HNQ.out _)) | (go_at_call 72; exact HRQ.out _))
                  go_wp2_with fail
                  go_ret
                  exact ⟨ret_bool HV.out, below_drewN BWN.out _⟩
            · obtain ⟨p, hp⟩ : ∃ p, k2 = p + 1 := ⟨k2 - 1, by omega⟩
              have HP := Lib.hid hp
              have hpl : p < n.methods.length := by omega
              have hpn : p < nm := by omega
              have hpI : (p : Int) < (nm : Int) := by omega
              have cp := (HMC.out p hpl).1
              obtain ⟨v, hv⟩ : ∃ v, n.methods[p].name = v := ⟨_, rfl⟩
              rw [hv] at cp
              have HVE := Lib.hid hv
              have cpn := ((show Below wr.heap.size wr wn from by rw [← hwn]; exact (Below.refl _ _).alloc (Nat.le_refl _) _).cell (p := ⟨mb, mof + p * 3, none⟩) hmb).trans cp
              have hpos : (0 : Int) < (k2 : Int) := by omega
              have hposd : decide ((0 : Int) < (k2 : Int)) = true := decide_eq_true hpos
              have hposn : 0 < k2 := by omega
              have hsub : (k2 : Int) - 1 = (p : Int) := by omega
              have hsubw : IntKind.i64.wrap ((k2 : Int) - 1) = (p : Int) := by rw [hsub]; exact IntWalk.i64_in _ (by omega)
              have HRE := Lib.hid (show riseB (n.methods.map (·.name)) k2 = lessB v u by rw [rise_succ hkl2 hp, hv]; congr 1; rw [HXE.out, HU.out])
              clear hp hv cp h0
              cases hls : Op.bytesLess u.toList v.toList
              · have LS := Lib.hid hls
                cases heq : (u.toList == v.toList)
                · have EQ := Lib.hid heq
                  have RI := Lib.hid (show riseB (n.methods.map (·.name)) k2 = true by rw [HRE.out, less_not, LS.out, EQ.out]; rfl)
                  cases hf2 : fitB l sg k <;> rw [hf2] at HRQ0 <;> have FF := Lib.hid hf2 <;> have HRQ := Lib.hid HRQ0
                  · have HV := Lib.hid (BADM.out (fun g => by have := (methB_iff.1 g).2.1; rw [HSG.out, FF.out] at this; cases this))
                    clear HRQ0 hf2
                    go_wp2_with fail
                    go_quiet (first | (go_at_call 39; exact Calls.quiet_of_same (HNQ.out _)) | (go_at_call 72; exact HRQ.out _))
                    go_wp2_with fail
                    go_ret
                    exact ⟨ret_bool HV.out, below_drewN BWN.out _⟩
                  · have hin2 := fit_in hf2
                    rw [HL.out] at hin2
                    clear HRQ0 hf2
                    obtain ⟨z2, rfl⟩ : ∃ z2 : Nat, sg = (z2 : Int) := ⟨sg.toNat, by omega⟩
                    have hzL2 : z2 < L := by omega
                    have hzl2 : z2 < l.length := by rw [HL.out]; exact hzL2
                    obtain ⟨ab2, aof2, hae, hab2, hac3⟩ := (HA.out.below BWN.out).cells (by omega)
                    injection hae with hae
                    injection hae with hae1 hae2
                    subst hae1
                    subst hae2
                    obtain ⟨_, _, _, _, ca2, -⟩ := hac3 z2 hzl2
                    obtain ⟨X2, hX2⟩ : ∃ X, l[z2].kind = X := ⟨_, rfl⟩
                    rw [hX2] at ca2
                    have HX2 := Lib.hid (show kindAt l (z2 : Int) = X2 by rw [kindAt_eq hzl2]; exact hX2)
                    clear hX2 hac3 hab2
                    by_cases h5 : X2 = 5
                    · have q5 : (X2 != 5) = false := by rw [bne_eq_false_iff_eq]; exact h5
                      have Hx := Lib.hid (GOOD.out (methB_iff.2 ⟨by rw [HU.out]; exact NA.out, by rw [HSG.out]; exact FF.out, by rw [HSG.out, HX2.out]; exact h5⟩) RI.out)
                      clear h5
                      go_wp2_with fail
                      go_quiet (first | (go_at_call 39; exact Calls.quiet_of_same (HNQ.out _)) | (go_at_call 72; exact HRQ.out _))
                      go_wp2_with fail
                      go_roundw
                      case rel => exact ⟨k2 + 1, by omega, by go_num, Hx, Lib.hid (below_drewN HBN.out _)⟩
                      case measure => first | (simp [intOf]; done) | (simp [intOf]; omega)
                    · have q5 : (X2 != 5) = true := by rw [bne_iff_ne]; exact h5
                      have HV := Lib.hid (BADM.out (fun g => by have := (methB_iff.1 g).2.2; rw [HSG.out, HX2.out] at this; exact h5 this))
                      clear h5
                      go_wp2_with fail
                      go_quiet (first | (go_at_call 39; exact Calls.quiet_of_same (HNQ.out _)) | (go_at_call 72; exact HRQ.out _))
                      go_wp2_with fail
                      go_ret
                      exact ⟨ret_bool HV.out, below_drewN BWN.out _⟩
                · have EQ := Lib.hid heq
                  have HV := Lib.hid (BADR.out (by rw [HRE.out, less_not, LS.out, EQ.out]; rfl))
                  have HRQ := Lib.hid HRQ0
                  clear HRQ0
                  go_wp2_with fail
                  go_quiet (first | (go_at_call 39; exact Calls.quiet_of_same (HNQ.out _)) | (go_at_call 72; exact HRQ.out _))
                  go_wp2_with fail
                  go_ret
                  exact ⟨ret_bool HV.out, below_drewN BWN.out _⟩
              · have LS := Lib.hid hls
                have HV := Lib.hid (BADR.out (by rw [HRE.out, less_not, LS.out]; rfl))
                have HRQ := Lib.hid HRQ0
                clear HRQ0
                go_wp2_with fail
                go_quiet (first | (go_at_call 39; exact Calls.quiet_of_same (HNQ.out _)) | (go_at_call 72; exact HRQ.out _))
                go_wp2_with fail
                go_ret
                exact ⟨ret_bool HV.out, below_drewN BWN.out _⟩
          · obtain rfl : k2 = nm := by omega
            have HV := Lib.hid (show true = R by
              rw [← HR.out]
              exact (oneU_iff.2 ⟨by rw [HS.out]; exact NB.out, ⟨by rw [HNB.out]; omega, by rw [HNM.out]; omega⟩, HUN.out, by rw [HNB.out]; exact HBD.out, fun m hm => by
                obtain ⟨j, hj, rfl⟩ := List.getElem_of_mem hm
                rw [HNB.out]
                exact (Hall.out j hj (by rw [← HNM.out]; exact hj)).1, rises_of fun j hj => (Hall.out j (by rw [List.length_map] at hj; exact hj) (by rw [List.length_map] at hj; rw [← HNM.out]; exact hj)).2⟩).symm)
            go_wp2_with fail
            go_ret
            exact ⟨ret_bool HV.out, BW6.out⟩
end Go.Proofs.YtkmnfkhchcoamaaGreatDoor
/- The program's told; the search for a type that is not told. -/
namespace Go.Proofs.YtkmnfkhchcoamaaGreatDoor
open Go.RowKit
set_option linter.unusedSimpArgs false
set_option linter.unusedVariables false

theorem fits_other {ns : List Nm} {t : Ty} (h : t.kind ≠ 8) : fitsU ns t = true := by unfold fitsU; rw [decide_eq_true h]; rfl
theorem fits_found {ns : List Nm} {t : Ty} (hr : risesB (namesU ns) = true) (h8 : t.kind = 8) : fitsU ns t = (foundU ns t.name && decide ((ns.getD (lowU (namesU ns) t.name) ⟨⟨#[]⟩, [], 0, []⟩).bounds.length = t.kids.length)) := by
  unfold fitsU foundU
  rw [decide_eq_false (fun g => g h8), Bool.false_or, low_at (show risesB (ns.map (·.name)) = true from hr)]
  obtain ⟨L, hL⟩ : ∃ L, lowU (namesU ns) t.name = L := ⟨_, rfl⟩
  rw [show lowU (ns.map (·.name)) t.name = L from hL, hL]
  by_cases c : L < ns.length
  · have e : (namesU ns).getD L ⟨#[]⟩ = (ns.getD L ⟨⟨#[]⟩, [], 0, []⟩).name := by rw [namesU_get c, getD_of c]
    rw [e]
    obtain ⟨x, hx⟩ : ∃ x, ns.getD L ⟨⟨#[]⟩, [], 0, []⟩ = x := ⟨_, rfl⟩
    rw [hx]
    by_cases d : x.name = t.name
    · rw [if_pos ⟨c, d⟩, Int.toNat_natCast, hx]
      simp [c, d]
    · rw [if_neg (fun g => d g.2)]
      simp [d]
  · rw [if_neg (fun g => c g.1)]
    simp [c]
set_option maxHeartbeats 4000000 in
set_option maxRecDepth 100000 in
theorem told_any (u : Un) (ao no : Option Addr) (ac nc : Nat) (t : Ty) (wo ko : Option Addr) (wc kc : Nat) (w : World) (hU : UnC w ao no ac nc u) (ht : TyC w wo ko t) (hr : risesB (namesU u.named) = true) :
    Calls Tryz.prog 35 #[unV u ao ac no nc, tyV t wo wc ko kc] w fun e w' => e = .returned (.bool (fitsU u.named t)) ∧ Below w.heap.size w w' := by
  obtain ⟨R, hR⟩ : ∃ R, fitsU u.named t = R := ⟨_, rfl⟩
  rw [hR]
  have HR := Lib.hid hR
  have HU := Lib.hid hU
  have hnl := hU.nl
  have HRI := Lib.hid hr
  obtain ⟨w1, h1⟩ : ∃ w1, w.alloc (.cells #[.slice ao u.types.length ac, .slice no u.named.length nc] 25) = w1 := ⟨_, rfl⟩
  obtain ⟨k1, q1, z1⟩ := box_new h1
  obtain ⟨w2, h2⟩ : ∃ w2, w1.alloc (.cells #[.int .i64 t.kind, .string t.name, .int .i64 t.n, .slice wo t.words.length wc, .slice ko t.kids.length kc] 38) = w2 := ⟨_, rfl⟩
  obtain ⟨k2, q2, z2⟩ := box_new h2
  have K1 := Lib.hid (k1.below q2)
  have K2 := Lib.hid k2
  have B2 := Lib.hid (q1.trans (q2.mono q1.size))
  have HF0 := ufind_any u ao no ac nc t.name w2 (hU.below B2.out) hr
  unfold unV at HF0
  unfold unV tyV
  obtain ⟨kd, hkd⟩ : ∃ kd, t.kind = kd := ⟨_, rfl⟩
  obtain ⟨s, hs⟩ : ∃ s, t.name = s := ⟨_, rfl⟩
  obtain ⟨kl, hkl⟩ : ∃ kl, t.kids.length = kl := ⟨_, rfl⟩
  obtain ⟨n, hn⟩ : ∃ n, u.named.length = n := ⟨_, rfl⟩
  obtain ⟨lo, hlo⟩ : ∃ lo, lowU (namesU u.named) t.name = lo := ⟨_, rfl⟩
  have HKD := Lib.hid hkd
  have HS := Lib.hid hs
  have HKL := Lib.hid hkl
  have HN := Lib.hid hn
  have HLO := Lib.hid hlo
  rw [hlo, hs] at HF0
  rw [hkd, hs, hkl] at h2 ⊢
  rw [hn] at h1 hnl HF0 ⊢
  obtain ⟨c0, c1⟩ := cell2 (k1.below q2)
  obtain ⟨d0, d1, d2, d3, d4⟩ := cell5 k2
  rw [hn] at c1
  rw [hkd] at d0
  rw [hs] at d1
  rw [hkl] at d4
  by_cases h8 : kd = 8
  · have q8 : (kd != 8) = false := by rw [bne_eq_false_iff_eq]; exact h8
    have HRF := Lib.hid (show (foundU u.named s && decide ((u.named.getD lo ⟨⟨#[]⟩, [], 0, []⟩).bounds.length = kl)) = R by
      rw [← HR.out, fits_found hr (by rw [hkd]; exact h8), hs, HKL.out]
      rw [← HLO.out, hs])
    clear hkd hs hkl hn hlo k1 q1 z1 k2 q2 z2 hR hU hr ht h8
    cases hfo : foundU u.named s
    · rw [hfo] at HF0 HRF
      have HF := Lib.hid HF0
      have HV := Lib.hid (show false = R from HRF.out)
      clear HF0 hfo
      go_enter Tryz.func35, Tryz.ntmps35
      go_wp2_with fail
      refine HF.out.mono ?_
      rintro e w3 ⟨rfl, b3⟩
      have B3 := Lib.hid (B2.out.trans (b3.mono B2.out.size))
      clear b3 c0 c1 d0 d1 d2 d3 d4 h1 h2
      go_wp2_with fail
      go_quiet (fail)
      rename_i nq
      go_wp2_with fail
      go_ret
      exact ⟨ret_bool HV.out, below_drewN B3.out nq⟩
    · have hfo2 := hfo
      unfold foundU at hfo2
      obtain ⟨g1, -⟩ := of_decide_eq_true hfo2
      rw [hfo] at HF0 HRF
      have HF := Lib.hid HF0
      have hlu : lo < u.named.length := by rw [← HLO.out, HS.out]; exact g1
      have hln : lo < n := by rw [← HN.out]; exact hlu
      have hI : (lo : Int) < (n : Int) := by omega
      obtain ⟨b, o, rfl, hb, hc⟩ := HU.out.named.cells (by omega)
      obtain ⟨bo, bc, mo, mc, -, a1', -, -, -, -, -⟩ := hc lo hlu
      obtain ⟨bl, hbl⟩ : ∃ bl, u.named[lo].bounds.length = bl := ⟨_, rfl⟩
      rw [hbl] at a1'
      have HV := Lib.hid (show ((bl : Int) == (kl : Int)) = R by
        rw [← HRF.out, getD_of hlu, hbl, Bool.eq_iff_iff, beq_iff_eq, Bool.true_and, decide_eq_true_eq]
        omega)
      clear HF0 hfo hfo2 hc hbl g1
      go_enter Tryz.func35, Tryz.ntmps35
      go_wp2_with fail
      refine HF.out.mono ?_
      rintro e w3 ⟨rfl, b3⟩
      have B3 := Lib.hid (B2.out.trans (b3.mono B2.out.size))
      have a1 := (B3.out.cell hb).trans a1'
      have e1 := (b3.cell (p := ⟨w.heap.size, 1, none⟩) (cell_ltB c1)).trans c1
      have e4 := (b3.cell (p := ⟨w1.heap.size, 4, none⟩) (cell_ltB d4)).trans d4
      clear b3 c0 c1 d0 d1 d2 d3 d4 h1 h2 a1' hb
      go_wp2_with fail
      go_quiet (fail)
      rename_i nq
      go_wp2_with fail
      go_ret
      exact ⟨ret_bool HV.out, below_drewN B3.out nq⟩
  · have q8 : (kd != 8) = true := by rw [bne_iff_ne]; exact h8
    have HV := Lib.hid (show true = R by rw [← HR.out, fits_other (by rw [hkd]; exact h8)])
    clear hkd hs hkl hn hlo k1 q1 z1 k2 q2 z2 hR hU hr ht h8 HF0
    go_enter Tryz.func35, Tryz.ntmps35
    go_wp2_with fail
    go_ret
    exact ⟨ret_bool HV.out, B2.out⟩
set_option maxHeartbeats 4000000 in
set_option maxRecDepth 100000 in
theorem rn1_any (u : Un) (ao no : Option Addr) (ac nc ub : Nat) (t : Ty) (wo ko : Option Addr) (wc kc : Nat) (w : World) (hU : UnC w ao no ac nc u) (ht : TyC w wo ko t) (hr : risesB (namesU u.named) = true) (hu : BlockAt w ub #[.slice ao u.types.length ac, .slice no u.named.length nc] 25) :
    Calls Tryz.prog 52 #[tyV t wo wc ko kc, .pointer (some ⟨ub, 0, none⟩)] w fun e w' => e = .returned (.bool (!fitsU u.named t)) ∧ Below w.heap.size w w' := by
  obtain ⟨w1, h1⟩ : ∃ w1, w.alloc (.cells #[.int .i64 t.kind, .string t.name, .int .i64 t.n, .slice wo t.words.length wc, .slice ko t.kids.length kc] 38) = w1 := ⟨_, rfl⟩
  obtain ⟨k1, q1, z1⟩ := box_new h1
  have B1 := Lib.hid q1
  have HT := told_any u ao no ac nc t wo ko wc kc w1 (hU.below q1) (ht.below q1) hr
  obtain ⟨c0, c1⟩ := cell2 (hu.below q1)
  obtain ⟨d0, d1, d2, d3, d4⟩ := cell5 k1
  unfold tyV unV at HT
  unfold tyV
  have HT := Lib.hid HT
  obtain ⟨f, hf⟩ : ∃ f, fitsU u.named t = f := ⟨_, rfl⟩
  rw [hf] at HT ⊢
  clear hf k1 q1 z1 hU ht hr hu
  go_enter Tryz.func52, Tryz.ntmps52
  go_wp2_with fail
  refine HT.out.mono ?_
  rintro e w2 ⟨rfl, b2⟩
  have B2 := Lib.hid (B1.out.trans (b2.mono B1.out.size))
  clear b2 c0 c1 d0 d1 d2 d3 d4 h1
  go_wp2_with fail
  go_ret
  exact ⟨rfl, B2.out⟩
set_option maxHeartbeats 4000000 in
set_option maxRecDepth 100000 in
theorem indexT_any (u : Un) (ao no : Option Addr) (ac nc ub : Nat) (w : World) (hU : UnC w ao no ac nc u) (hr : risesB (namesU u.named) = true) (hu : BlockAt w ub #[.slice ao u.types.length ac, .slice no u.named.length nc] 25) :
    Calls Tryz.prog 74 #[.slice ao u.types.length ac, .func (.func 52) #[] #[.pointer (some ⟨ub, 0, none⟩)]] w fun e w' => (∃ r : Int, e = .returned (.int .i64 r) ∧ decide (0 ≤ r) = !u.types.all (fitsU u.named)) ∧ Below w.heap.size w w' := by
  have HC := Lib.hid (fun (t : Ty) wo wc ko kc W (hb : Below w.heap.size w W) (ht : TyC W wo ko t) => rn1_any u ao no ac nc ub t wo ko wc kc W (hU.below hb) ht hr (hu.below hb))
  unfold tyV at HC
  have HA := Lib.hid hU.types
  have htl := hU.tl
  obtain ⟨R, hR⟩ : ∃ R, u.types.all (fitsU u.named) = R := ⟨_, rfl⟩
  have HR := Lib.hid hR
  rw [hR]
  obtain ⟨n, hn⟩ : ∃ n, u.types.length = n := ⟨_, rfl⟩
  have HN := Lib.hid hn
  rw [hn] at htl ⊢
  clear hn hR hU hr hu
  go_enter Tryz.func74, Tryz.ntmps74
  go_wp2_with fail
  go_loopw [8] (fun i wr => ∃ k : Nat, k ≤ n ∧ i = .int .i64 k ∧ Hid (∀ j (hj : j < u.types.length), j < k → fitsU u.named u.types[j] = true) ∧ Hid (Below w.heap.size w wr)) (fun i _ => n - (intOf i).toNat)
  case atStart => exact ⟨0, Nat.zero_le _, rfl, Lib.hid (fun j _ hj => absurd hj (Nat.not_lt_zero _)), Lib.hid (Below.refl _ _)⟩
  case round =>
    obtain ⟨k, hk, rfl, Hno, HB⟩ := hrel
    by_cases hkn : k < n
    · have hkx : k < u.types.length := by rw [HN.out]; exact hkn
      have hkI : (k : Int) < (n : Int) := by omega
      obtain ⟨b, o, rfl, hb, hc⟩ := (HA.out.below HB.out).cells (by omega)
      obtain ⟨xw, xwc, xk, xkc, a0, a1, a2, a3, a4, -, -, hxc⟩ := hc k hkx
      obtain ⟨x, hx⟩ : ∃ x, u.types[k] = x := ⟨_, rfl⟩
      rw [hx] at a0 a1 a2 a3 a4 hxc
      have HX := Lib.hid hx
      have HC1 := HC.out x xw xwc xk xkc wr HB.out hxc
      clear hx hc hb hxc
      cases hf : fitsU u.named x <;> rw [hf] at HC1 <;> have HF := Lib.hid hf <;> have HCC := Lib.hid HC1 <;> clear hf HC1
      · have HV := Lib.hid (show decide (0 ≤ (k : Int)) = !R by
          have e : R = false := by
            rw [← HR.out]
            cases hh : u.types.all (fitsU u.named)
            · rfl
            · have := List.all_eq_true.1 hh _ (List.getElem_mem hkx)
              rw [HX.out, HF.out] at this
              cases this
          rw [e, decide_eq_true (by omega)]; rfl)
        go_wp2_with fail
        refine HCC.out.mono ?_
        rintro e w2 ⟨rfl, b2⟩
        have B2 := Lib.hid (HB.out.trans (b2.mono HB.out.size))
        clear b2 a0 a1 a2 a3 a4
        go_wp2_with fail
        go_ret
        exact ⟨⟨_, rfl, HV.out⟩, B2.out⟩
      · have Hx := Lib.hid (show ∀ j (hj : j < u.types.length), j < k + 1 → fitsU u.named u.types[j] = true from fun j hj h => by
          rcases Nat.lt_or_eq_of_le (Nat.le_of_lt_succ h) with g | g
          · exact Hno.out j hj g
          · subst g; rw [HX.out]; exact HF.out)
        go_wp2_with fail
        refine HCC.out.mono ?_
        rintro e w2 ⟨rfl, b2⟩
        have B2 := Lib.hid (HB.out.trans (b2.mono HB.out.size))
        clear b2 a0 a1 a2 a3 a4
        go_wp2_with fail
        go_roundw
        case rel => exact ⟨k + 1, by omega, by go_num, Hx, B2⟩
        case measure => first | (simp [intOf]; done) | (simp [intOf]; omega)
    · obtain rfl : k = n := by omega
      have HV := Lib.hid (show decide (0 ≤ (-1 : Int)) = !R by
        have e : R = true := by
          rw [← HR.out, List.all_eq_true]
          intro x hx
          obtain ⟨j, hj, rfl⟩ := List.getElem_of_mem hx
          exact Hno.out j hj (by rw [← HN.out]; exact hj)
        rw [e]; rfl)
      go_wp2_with fail
      go_ret
      exact ⟨⟨_, rfl, HV.out⟩, HB.out⟩
set_option maxHeartbeats 4000000 in
theorem containsT_any (u : Un) (ao no : Option Addr) (ac nc ub : Nat) (w : World) (hU : UnC w ao no ac nc u) (hr : risesB (namesU u.named) = true) (hu : BlockAt w ub #[.slice ao u.types.length ac, .slice no u.named.length nc] 25) :
    Calls Tryz.prog 51 #[.slice ao u.types.length ac, .func (.func 52) #[] #[.pointer (some ⟨ub, 0, none⟩)]] w fun e w' => e = .returned (.bool (!u.types.all (fitsU u.named))) ∧ Below w.heap.size w w' := by
  have HI := Lib.hid (indexT_any u ao no ac nc ub w hU hr hu)
  obtain ⟨R, hR⟩ : ∃ R, (!u.types.all (fitsU u.named)) = R := ⟨_, rfl⟩
  rw [hR] at HI ⊢
  clear hR hU hr hu
  go_enter Tryz.func51, Tryz.ntmps51
  go_wp2_with fail
  refine HI.out.mono ?_
  rintro e w2 ⟨⟨r, rfl, hv⟩, b2⟩
  have HV := Lib.hid hv
  have B2 := Lib.hid b2
  clear hv b2
  go_wp2_with fail
  go_ret
  exact ⟨ret_bool HV.out, B2.out⟩
end Go.Proofs.YtkmnfkhchcoamaaGreatDoor
/- The program's rightNames, Right, Find. -/
namespace Go.Proofs.YtkmnfkhchcoamaaGreatDoor
open Go.RowKit
set_option linter.unusedSimpArgs false
set_option linter.unusedVariables false

/-- May a unit be, of which the arena may be? -/
def restU (u : Un) : Bool := decide (u.named.length ≤ 60) && u.named.all (oneU u.types) && risesB (namesU u.named) && u.types.all (fitsU u.named)
theorem rightU_rest (u : Un) : rightU u = (rightT u.types && restU u) := by
  unfold rightU restU namesU
  simp only [Bool.and_assoc]
theorem restU_iff {u : Un} : restU u = true ↔ u.named.length ≤ 60 ∧ (∀ n ∈ u.named, oneU u.types n = true) ∧ risesB (namesU u.named) = true ∧ u.types.all (fitsU u.named) = true := by
  unfold restU
  simp only [Bool.and_eq_true, decide_eq_true_eq, List.all_eq_true]
  constructor
  · rintro ⟨⟨⟨h1, h2⟩, h3⟩, h4⟩; exact ⟨h1, h2, h3, h4⟩
  · rintro ⟨h1, h2, h3, h4⟩; exact ⟨⟨⟨h1, h2⟩, h3⟩, h4⟩
theorem riseN_succ {ns : List Nm} {k p : Nat} (hk : k < ns.length) (hp : k = p + 1) : riseB (namesU ns) k = lessB ns[p].name ns[k].name := by
  subst hp
  unfold riseB
  rw [decide_eq_false (by omega), Bool.false_or, Nat.add_sub_cancel, namesU_get hk, namesU_get (by omega)]
set_option maxHeartbeats 16000000 in
set_option maxRecDepth 100000 in
theorem rightNames_any (u : Un) (ao no : Option Addr) (ac nc : Nat) (w : World) (hU : UnC w ao no ac nc u) (hr : rightT u.types = true) (hm : MaxAt w) :
    Calls Tryz.prog 23 #[unV u ao ac no nc] w fun e w' => e = .returned (.bool (restU u)) ∧ Below w.heap.size w w' := by
  unfold unV
  obtain ⟨R, hR⟩ : ∃ R, restU u = R := ⟨_, rfl⟩
  rw [hR]
  have HR := Lib.hid hR
  have HU := Lib.hid hU
  have HRT := Lib.hid hr
  have HM := Lib.hid hm
  have hnl := hU.nl
  have htl := hU.tl
  have hcc := hU.tc
  obtain ⟨w1, h1⟩ : ∃ w1, w.alloc (.cells #[.slice ao u.types.length ac, .slice no u.named.length nc] 25) = w1 := ⟨_, rfl⟩
  obtain ⟨k1, q1, z1⟩ := box_new h1
  have B1 := Lib.hid q1
  have K1 := Lib.hid k1
  have HP0 := uparams_any u.types ao ac w1 (hU.types.below q1) hr hcc
  obtain ⟨L, hL⟩ : ∃ L, u.types.length = L := ⟨_, rfl⟩
  obtain ⟨n, hn⟩ : ∃ n, u.named.length = n := ⟨_, rfl⟩
  have HL := Lib.hid hL
  have HN := Lib.hid hn
  have HP := Lib.hid HP0
  rw [hL, hn] at h1 K1
  rw [hL] at htl HP hcc ⊢
  rw [hn] at hnl ⊢
  obtain ⟨c0, c1⟩ := cell2 k1
  rw [hL] at c0
  rw [hn] at c1
  have BAD := Lib.hid (show (restU u = true → False) → false = R from fun h => is_false fun g => h (HR.out.trans g))
  clear hL hn hU hr hm hR HP0 k1 q1 z1
  go_enter Tryz.func23, Tryz.ntmps23
  by_cases h60 : 60 < n
  · have hd : decide ((60 : Int) < (n : Int)) = true := decide_eq_true (by omega)
    have HV := Lib.hid (BAD.out fun g => by have := (restU_iff.1 g).1; rw [HN.out] at this; omega)
    go_wp2_with fail
    go_ret
    exact ⟨ret_bool HV.out, B1.out⟩
  have hd : decide ((60 : Int) < (n : Int)) = false := decide_eq_false (by omega)
  go_wp2_with fail
  refine HP.out.mono ?_
  rintro e w2 ⟨qb, rfl, kq, hqb, b2⟩
  have B2 := Lib.hid (B1.out.trans (b2.mono B1.out.size))
  have HQ := Lib.hid (show AskC w2 qb u.types from ask_row (by rw [HL.out]; exact kq))
  have K2 := Lib.hid (K1.out.below b2)
  obtain ⟨e0, e1⟩ := cell2 K2.out
  clear c0 c1 b2 kq hqb h1 HP
  go_wp2_with fail
  clear e0 e1
  go_loopw [16] (fun v wr => ∃ k : Nat, k ≤ n ∧ v = .int .i64 k ∧ Hid (∀ j (hj : j < u.named.length), j < k → oneU u.types u.named[j] = true ∧ riseB (namesU u.named) j = true) ∧ Hid (Below w2.heap.size w2 wr)) (fun v _ => n - (intOf v).toNat)
  case atStart => exact ⟨0, Nat.zero_le _, rfl, Lib.hid (fun j _ hj => absurd hj (Nat.not_lt_zero _)), Lib.hid (Below.refl _ _)⟩
  case round =>
    obtain ⟨k, hk, rfl, Hall, HB⟩ := hrel
    have BW := Lib.hid (B2.out.trans (HB.out.mono B2.out.size))
    by_cases hkn : k < n
    · have hkI : (k : Int) < (n : Int) := by omega
      have hku : k < u.named.length := by rw [HN.out]; exact hkn
      obtain ⟨b, o, rfl, hb, hc⟩ := (HU.out.named.below BW.out).cells (by omega)
      obtain ⟨bo, bc, mo, mc, a0, a1, a2, a3, hbc, hmc, hnc⟩ := hc k hku
      have HCC := Lib.hid hc
      clear hc
      obtain ⟨x, hx⟩ : ∃ x, u.named[k] = x := ⟨_, rfl⟩
      rw [hx] at a0 a1 a2 a3 hbc hmc hnc
      have HX := Lib.hid hx
      obtain ⟨wn, hwn⟩ : ∃ wn, wr.alloc (.cells #[.string x.name, .slice bo x.bounds.length bc, .int .i64 x.under, .slice mo x.methods.length mc] 51) = wn := ⟨_, rfl⟩
      obtain ⟨kx, qx, zx⟩ := box_new hwn
      have HBN := Lib.hid (HB.out.trans (qx.mono HB.out.size))
      have BWN := Lib.hid (B2.out.trans (HBN.out.mono B2.out.size))
      obtain ⟨xb, hxb⟩ : ∃ xb, wr.heap.size = xb := ⟨_, rfl⟩
      rw [hxb] at kx
      obtain ⟨d0, d1, d2, d3⟩ := cell4 kx
      obtain ⟨e0, e1⟩ := cell2 (K2.out.below HBN.out)
      have HNA0 := unamed_any u.types ao ac x bo mo bc mc qb wn.drew ((HU.out.types.below BWN.out).below (Below.refl _ _).drew) HRT.out HU.out.tc ((HQ.out.below HBN.out).below (Below.refl _ _).drew) ((hnc.below qx).below (Below.refl _ _).drew) hbc hmc ((HM.out.below BWN.out).below (Below.refl _ _).drew)
      unfold nmV at HNA0
      rw [HL.out] at HNA0
      have BADO := Lib.hid (show oneU u.types x = false → false = R from fun h => BAD.out fun g => by
        have := (restU_iff.1 g).2.1 _ (List.getElem_mem hku)
        rw [HX.out, h] at this
        cases this)
      have BADR := Lib.hid (show riseB (namesU u.named) k = false → false = R from fun h => BAD.out fun g => by
        have := rises_at (restU_iff.1 g).2.2.1 (k := k) (by rw [namesU_len]; exact hku)
        rw [h] at this
        cases this)
      have GOOD := Lib.hid (show oneU u.types x = true → riseB (namesU u.named) k = true → ∀ j (hj : j < u.named.length), j < k + 1 → oneU u.types u.named[j] = true ∧ riseB (namesU u.named) j = true from fun h1 h2 j hj h => by
        rcases Nat.lt_or_eq_of_le (Nat.le_of_lt_succ h) with c | c
        · exact Hall.out j hj c
        · subst c; rw [HX.out]; exact ⟨h1, h2⟩)
      clear hx hnc kx qx zx hbc hmc
      by_cases h0 : k = 0
      · have RI := Lib.hid (show riseB (namesU u.named) k = true from by rw [h0]; rfl)
        have hn0 : ¬ (0 : Int) < (k : Int) := by omega
        have hd0 : decide ((0 : Int) < (k : Int)) = false := decide_eq_false hn0
        have hnn : ¬ 0 < k := by omega
        clear h0
        cases ho : oneU u.types x <;> rw [ho] at HNA0 <;> have HO := Lib.hid ho <;> have HNA := Lib.hid HNA0 <;> clear ho HNA0
        · have HV := Lib.hid (BADO.out HO.out)
          go_upto_region 7 with fail
          clear hwn a0 a1 a2 a3 hxb
          refine GoG.start [(19, ⟨w.heap.size, 0, none⟩, .slice ao L ac), (19, ⟨xb, 0, none⟩, .string x.name), (19, ⟨xb, 1, none⟩, .slice bo x.bounds.length bc), (19, ⟨xb, 2, none⟩, .int .i64 x.under), (19, ⟨xb, 3, none⟩, .slice mo x.methods.length mc)] (by kernel_rfl) ?_ ?_
          · exact Keeps.cons (by first | exact e0 | assumption) (Keeps.cons (by first | exact d0 | assumption) (Keeps.cons (by first | exact d1 | assumption) (Keeps.cons (by first | exact d2 | assumption) (Keeps.cons (by first | exact d3 | assumption) (Keeps.nil)))))
          refine GoG.take (i := 0) (v := ?_) [] rfl (by kernel_rfl) (by kernel_rfl) (by kernel_rfl) (by kernel_rfl) (by kernel_rfl) (by kernel_rfl) (fun _ _ _ h => h) (yields_free (by rfl) (fun w => ?_)) ?_
          rotate_left
          · go_simp; try (with_reducible rfl)
          try simp only [Act.put, List.getElem_toArray, List.getElem_cons_succ, List.getElem_cons_zero, List.setIfInBounds_toArray, List.set_cons_zero, List.set_cons_succ]
          refine GoG.take (i := 1) (v := ?_) [] rfl (by kernel_rfl) (by kernel_rfl) (by kernel_rfl) (by kernel_rfl) (by kernel_rfl) (by kernel_rfl) (fun _ _ _ h => h) (yields_free (by rfl) (fun w => ?_)) ?_
          rotate_left
          · go_simp; try (with_reducible rfl)
          try simp only [Act.put, List.getElem_toArray, List.getElem_cons_succ, List.getElem_cons_zero, List.setIfInBounds_toArray, List.set_cons_zero, List.set_cons_succ]
          refine GoG.take (i := 2) (v := ?_) [] rfl (by kernel_rfl) (by kernel_rfl) (by kernel_rfl) (by kernel_rfl) (by kernel_rfl) (by kernel_rfl) (fun _ _ _ h => h) (yields_free (by rfl) (fun w => ?_)) ?_
          rotate_left
          · go_simp; try (with_reducible rfl)
          try simp only [Act.put, List.getElem_toArray, List.getElem_cons_succ, List.getElem_cons_zero, List.setIfInBounds_toArray, List.set_cons_zero, List.set_cons_succ]
          refine GoG.take (i := 3) (v := undef) [] rfl (by kernel_rfl) (by kernel_rfl) (by kernel_rfl) (by kernel_rfl) (by kernel_rfl) (by kernel_rfl) (fun _ _ _ h => h) (.inr ⟨by rfl, rfl⟩) ?_
          try simp only [Act.put, List.getElem_toArray, List.getElem_cons_succ, List.getElem_cons_zero, List.setIfInBounds_toArray, List.set_cons_zero, List.set_cons_succ]
          refine GoG.take (i := 4) (v := undef) [] rfl (by kernel_rfl) (by kernel_rfl) (by kernel_rfl) (by kernel_rfl) (by kernel_rfl) (by kernel_rfl) (fun _ _ _ h => h) (.inr ⟨by rfl, rfl⟩) ?_
          try simp only [Act.put, List.getElem_toArray, List.getElem_cons_succ, List.getElem_cons_zero, List.setIfInBounds_toArray, List.set_cons_zero, List.set_cons_succ]
          refine GoG.take (i := 5) (v := undef) [] rfl (by kernel_rfl) (by kernel_rfl) (by kernel_rfl) (by kernel_rfl) (by kernel_rfl) (by kernel_rfl) (fun _ _ _ h => h) (.inr ⟨by rfl, rfl⟩) ?_
          try simp only [Act.put, List.getElem_toArray, List.getElem_cons_succ, List.getElem_cons_zero, List.setIfInBounds_toArray, List.set_cons_zero, List.set_cons_succ]
          refine GoG.take (i := 6) (v := undef) [] rfl (by kernel_rfl) (by kernel_rfl) (by kernel_rfl) (by kernel_rfl) (by kernel_rfl) (by kernel_rfl) (fun _ _ _ h => h) (.inr ⟨by rfl, rfl⟩) ?_
          try simp only [Act.put, List.getElem_toArray, List.getElem_cons_succ, List.getElem_cons_zero, List.setIfInBounds_toArray, List.set_cons_zero, List.set_cons_succ]
          refine GoG.take (i := 7) (v := undef) [] rfl (by kernel_rfl) (by kernel_rfl) (by kernel_rfl) (by kernel_rfl) (by kernel_rfl) (by kernel_rfl) (fun _ _ _ h => h) (.inr ⟨by rfl, rfl⟩) ?_
          try simp only [Act.put, List.getElem_toArray, List.getElem_cons_succ, List.getElem_cons_zero, List.setIfInBounds_toArray, List.set_cons_zero, List.set_cons_succ]
          refine GoG.take (i := 8) (v := undef) [] rfl (by kernel_rfl) (by kernel_rfl) (by kernel_rfl) (by kernel_rfl) (by kernel_rfl) (by kernel_rfl) (fun _ _ _ h => h) (.inr ⟨by rfl, rfl⟩) ?_
          try simp only [Act.put, List.getElem_toArray, List.getElem_cons_succ, List.getElem_cons_zero, List.setIfInBounds_toArray, List.set_cons_zero, List.set_cons_succ]
          refine GoG.take (i := 9) (v := undef) [] rfl (by kernel_rfl) (by kernel_rfl) (by kernel_rfl) (by kernel_rfl) (by kernel_rfl) (by kernel_rfl) (fun _ _ _ h => h) (.inr ⟨by rfl, rfl⟩) ?_
          try simp only [Act.put, List.getElem_toArray, List.getElem_cons_succ, List.getElem_cons_zero, List.setIfInBounds_toArray, List.set_cons_zero, List.set_cons_succ]
          refine GoG.take (i := 10) (v := undef) [] rfl (by kernel_rfl) (by kernel_rfl) (by kernel_rfl) (by kernel_rfl) (by kernel_rfl) (by kernel_rfl) (fun _ _ _ h => h) (.inr ⟨by rfl, rfl⟩) ?_
          try simp only [Act.put, List.getElem_toArray, List.getElem_cons_succ, List.getElem_cons_zero, List.setIfInBounds_toArray, List.set_cons_zero, List.set_cons_succ]
          refine GoG.take (i := 11) (v := undef) [] rfl (by kernel_rfl) (by kernel_rfl) (by kernel_rfl) (by kernel_rfl) (by kernel_rfl) (by kernel_rfl) (fun _ _ _ h => h) (.inr ⟨by rfl, rfl⟩) ?_
          try simp only [Act.put, List.getElem_toArray, List.getElem_cons_succ, List.getElem_cons_zero, List.setIfInBounds_toArray, List.set_cons_zero, List.set_cons_succ]
          refine GoG.take (i := 12) (v := undef) [] rfl (by kernel_rfl) (by kernel_rfl) (by kernel_rfl) (by kernel_rfl) (by kernel_rfl) (by kernel_rfl) (fun _ _ _ h => h) (.inr ⟨by rfl, rfl⟩) ?_
          try simp only [Act.put, List.getElem_toArray, List.getElem_cons_succ, List.getElem_cons_zero, List.setIfInBounds_toArray, List.set_cons_zero, List.set_cons_succ]
          refine GoG.take (i := 13) (v := ?_) [] rfl (by kernel_rfl) (by kernel_rfl) (by kernel_rfl) (by kernel_rfl) (by kernel_rfl) (by kernel_rfl) (fun _ _ _ h => h) (yields_free (by rfl) (fun w => ?_)) ?_
          rotate_left
          · go_simp; try (with_reducible rfl)
          try simp only [Act.put, List.getElem_toArray, List.getElem_cons_succ, List.getElem_cons_zero, List.setIfInBounds_toArray, List.set_cons_zero, List.set_cons_succ]
          refine GoG.take (i := 14) (v := ?_) [] rfl (by kernel_rfl) (by kernel_rfl) (by kernel_rfl) (by kernel_rfl) (by kernel_rfl) (by kernel_rfl) (fun _ _ _ h => h) (yields_free (by rfl) (fun w => ?_)) ?_
          rotate_left
          · go_simp; try (with_reducible rfl)
          try simp only [Act.put, List.getElem_toArray, List.getElem_cons_succ, List.getElem_cons_zero, List.setIfInBounds_toArray, List.set_cons_zero, List.set_cons_succ]
          refine GoG.take (i := 15) (v := ?_) [] rfl (by kernel_rfl) (by kernel_rfl) (by kernel_rfl) (by kernel_rfl) (by kernel_rfl) (by kernel_rfl) (fun _ _ _ h => h) (yields_free (by rfl) (fun w => ?_)) ?_
          rotate_left
          · go_simp; try (with_reducible rfl)
          try simp only [Act.put, List.getElem_toArray, List.getElem_cons_succ, List.getElem_cons_zero, List.setIfInBounds_toArray, List.set_cons_zero, List.set_cons_succ]
          refine GoG.take (i := 16) (v := ?_) [19] rfl (by kernel_rfl) (by kernel_rfl) (by kernel_rfl) (by kernel_rfl) (by kernel_rfl) (by kernel_rfl) (fun _ _ _ h => h) (yields_load 19 ⟨w.heap.size, 0, none⟩ (.slice ao L ac) (by simp) (by decide) (by rfl) (fun w hw => ?_)) ?_
          rotate_left
          · go_simp; try (with_reducible rfl)
          try simp only [Act.put, List.getElem_toArray, List.getElem_cons_succ, List.getElem_cons_zero, List.setIfInBounds_toArray, List.set_cons_zero, List.set_cons_succ]
          refine GoG.take (i := 17) (v := ?_) [] rfl (by kernel_rfl) (by kernel_rfl) (by kernel_rfl) (by kernel_rfl) (by kernel_rfl) (by kernel_rfl) (fun _ _ _ h => h) (yields_free (by rfl) (fun w => ?_)) ?_
          rotate_left
          · go_simp; try (with_reducible rfl)
          try simp only [Act.put, List.getElem_toArray, List.getElem_cons_succ, List.getElem_cons_zero, List.setIfInBounds_toArray, List.set_cons_zero, List.set_cons_succ]
          refine GoG.take (i := 18) (v := ?_) [19] rfl (by kernel_rfl) (by kernel_rfl) (by kernel_rfl) (by kernel_rfl) (by kernel_rfl) (by kernel_rfl) (fun _ _ _ h => h) (.inl ⟨by rfl, fun w hS => ?_⟩) ?_
          rotate_left
          · have g0 : w.cell? ⟨xb, 0, none⟩ = some (.string x.name) := hS (19, ⟨xb, 0, none⟩, .string x.name) (by simp) (by simp)
            have g1 : w.cell? ⟨xb, 1, none⟩ = some (.slice bo x.bounds.length bc) := hS (19, ⟨xb, 1, none⟩, .slice bo x.bounds.length bc) (by simp) (by simp)
            have g2 : w.cell? ⟨xb, 2, none⟩ = some (.int .i64 x.under) := hS (19, ⟨xb, 2, none⟩, .int .i64 x.under) (by simp) (by simp)
            have g3 : w.cell? ⟨xb, 3, none⟩ = some (.slice mo x.methods.length mc) := hS (19, ⟨xb, 3, none⟩, .slice mo x.methods.length mc) (by simp) (by simp)
            clear hS
            go_simp; try (with_reducible rfl)
          try simp only [Act.put, List.getElem_toArray, List.getElem_cons_succ, List.getElem_cons_zero, List.setIfInBounds_toArray, List.set_cons_zero, List.set_cons_succ]
          refine GoG.one (i := 19) rfl (by kernel_rfl) (fun K hK => ?_)
          go_simp
          refine HNA.out.mono ?_
          rintro e w6 ⟨rfl, b6⟩
          have B6w := Lib.hid (BWN.out.drew.trans (b6.mono BWN.out.drew.size))
          have B6 := Lib.hid (HBN.out.drew.trans (b6.mono HBN.out.drew.size))
          clear b6
          refine hK.out _ _ (Keeps.up (by rfl) (Keeps.up (by rfl) (Keeps.up (by rfl) (Keeps.up (by rfl) (Keeps.up (by rfl) (Keeps.nil)))))) ?_
          clear hK K
          try simp only [Act.put, List.getElem_toArray, List.getElem_cons_succ, List.getElem_cons_zero, List.setIfInBounds_toArray, List.set_cons_zero, List.set_cons_succ]
          refine GoG.take (i := 20) (v := ?_) [] rfl (by kernel_rfl) (by kernel_rfl) (by kernel_rfl) (by kernel_rfl) (by kernel_rfl) (by kernel_rfl) (fun _ _ _ h => h) (yields_free (by rfl) (fun w => ?_)) ?_
          rotate_left
          · go_simp; try (with_reducible rfl)
          try simp only [Act.put, List.getElem_toArray, List.getElem_cons_succ, List.getElem_cons_zero, List.setIfInBounds_toArray, List.set_cons_zero, List.set_cons_succ]
          refine GoG.take (i := 21) (v := ?_) [] rfl (by kernel_rfl) (by kernel_rfl) (by kernel_rfl) (by kernel_rfl) (by kernel_rfl) (by kernel_rfl) (fun _ _ _ h => h) (yields_free (by rfl) (fun w => ?_)) ?_
          rotate_left
          · go_simp; try (with_reducible rfl)
          try simp only [Act.put, List.getElem_toArray, List.getElem_cons_succ, List.getElem_cons_zero, List.setIfInBounds_toArray, List.set_cons_zero, List.set_cons_succ]
          refine GoG.done (by kernel_rfl) ?_ _
          clear d0 d1 d2 d3 e0 e1
          go_wp2_with fail
          go_ret
          exact ⟨ret_bool HV.out, B6w.out⟩
        · have Hx := Lib.hid (GOOD.out HO.out RI.out)
          go_upto_region 7 with fail
          clear hwn a0 a1 a2 a3 hxb
          refine GoG.start [(19, ⟨w.heap.size, 0, none⟩, .slice ao L ac), (19, ⟨xb, 0, none⟩, .string x.name), (19, ⟨xb, 1, none⟩, .slice bo x.bounds.length bc), (19, ⟨xb, 2, none⟩, .int .i64 x.under), (19, ⟨xb, 3, none⟩, .slice mo x.methods.length mc)] (by kernel_rfl) ?_ ?_
          · exact Keeps.cons (by first | exact e0 | assumption) (Keeps.cons (by first | exact d0 | assumption) (Keeps.cons (by first | exact d1 | assumption) (Keeps.cons (by first | exact d2 | assumption) (Keeps.cons (by first | exact d3 | assumption) (Keeps.nil)))))
          refine GoG.take (i := 0) (v := ?_) [] rfl (by kernel_rfl) (by kernel_rfl) (by kernel_rfl) (by kernel_rfl) (by kernel_rfl) (by kernel_rfl) (fun _ _ _ h => h) (yields_free (by rfl) (fun w => ?_)) ?_
          rotate_left
          · go_simp; try (with_reducible rfl)
          try simp only [Act.put, List.getElem_toArray, List.getElem_cons_succ, List.getElem_cons_zero, List.setIfInBounds_toArray, List.set_cons_zero, List.set_cons_succ]
          refine GoG.take (i := 1) (v := ?_) [] rfl (by kernel_rfl) (by kernel_rfl) (by kernel_rfl) (by kernel_rfl) (by kernel_rfl) (by kernel_rfl) (fun _ _ _ h => h) (yields_free (by rfl) (fun w => ?_)) ?_
          rotate_left
          · go_simp; try (with_reducible rfl)
          try simp only [Act.put, List.getElem_toArray, List.getElem_cons_succ, List.getElem_cons_zero, List.setIfInBounds_toArray, List.set_cons_zero, List.set_cons_succ]
          refine GoG.take (i := 2) (v := ?_) [] rfl (by kernel_rfl) (by kernel_rfl) (by kernel_rfl) (by kernel_rfl) (by kernel_rfl) (by kernel_rfl) (fun _ _ _ h => h) (yields_free (by rfl) (fun w => ?_)) ?_
          rotate_left
          · go_simp; try (with_reducible rfl)
          try simp only [Act.put, List.getElem_toArray, List.getElem_cons_succ, List.getElem_cons_zero, List.setIfInBounds_toArray, List.set_cons_zero, List.set_cons_succ]
          refine GoG.take (i := 3) (v := undef) [] rfl (by kernel_rfl) (by kernel_rfl) (by kernel_rfl) (by kernel_rfl) (by kernel_rfl) (by kernel_rfl) (fun _ _ _ h => h) (.inr ⟨by rfl, rfl⟩) ?_
          try simp only [Act.put, List.getElem_toArray, List.getElem_cons_succ, List.getElem_cons_zero, List.setIfInBounds_toArray, List.set_cons_zero, List.set_cons_succ]
          refine GoG.take (i := 4) (v := undef) [] rfl (by kernel_rfl) (by kernel_rfl) (by kernel_rfl) (by kernel_rfl) (by kernel_rfl) (by kernel_rfl) (fun _ _ _ h => h) (.inr ⟨by rfl, rfl⟩) ?_
          try simp only [Act.put, List.getElem_toArray, List.getElem_cons_succ, List.getElem_cons_zero, List.setIfInBounds_toArray, List.set_cons_zero, List.set_cons_succ]
          refine GoG.take (i := 5) (v := undef) [] rfl (by kernel_rfl) (by kernel_rfl) (by kernel_rfl) (by kernel_rfl) (by kernel_rfl) (by kernel_rfl) (fun _ _ _ h => h) (.inr ⟨by rfl, rfl⟩) ?_
          try simp only [Act.put, List.getElem_toArray, List.getElem_cons_succ, List.getElem_cons_zero, List.setIfInBounds_toArray, List.set_cons_zero, List.set_cons_succ]
          refine GoG.take (i := 6) (v := undef) [] rfl (by kernel_rfl) (by kernel_rfl) (by kernel_rfl) (by kernel_rfl) (by kernel_rfl) (by kernel_rfl) (fun _ _ _ h => h) (.inr ⟨by rfl, rfl⟩) ?_
          try simp only [Act.put, List.getElem_toArray, List.getElem_cons_succ, List.getElem_cons_zero, List.setIfInBounds_toArray, List.set_cons_zero, List.set_cons_succ]
          refine GoG.take (i := 7) (v := undef) [] rfl (by kernel_rfl) (by kernel_rfl) (by kernel_rfl) (by kernel_rfl) (by kernel_rfl) (by kernel_rfl) (fun _ _ _ h => h) (.inr ⟨by rfl, rfl⟩) ?_
          try simp only [Act.put, List.getElem_toArray, List.getElem_cons_succ, List.getElem_cons_zero, List.setIfInBounds_toArray, List.set_cons_zero, List.set_cons_succ]
          refine GoG.take (i := 8) (v := undef) [] rfl (by kernel_rfl) (by kernel_rfl) (by kernel_rfl) (by kernel_rfl) (by kernel_rfl) (by kernel_rfl) (fun _ _ _ h => h) (.inr ⟨by rfl, rfl⟩) ?_
          try simp only [Act.put, List.getElem_toArray, List.getElem_cons_succ, List.getElem_cons_zero, List.setIfInBounds_toArray, List.set_cons_zero, List.set_cons_succ]
          refine GoG.take (i := 9) (v := undef) [] rfl (by kernel_rfl) (by kernel_rfl) (by kernel_rfl) (by kernel_rfl) (by kernel_rfl) (by kernel_rfl) (fun _ _ _ h => h) (.inr ⟨by rfl, rfl⟩) ?_
          try simp only [Act.put, List.getElem_toArray, List.getElem_cons_succ, List.getElem_cons_zero, List.setIfInBounds_toArray, List.set_cons_zero, List.set_cons_succ]
          refine GoG.take (i := 10) (v := undef) [] rfl (by kernel_rfl) (by kernel_rfl) (by kernel_rfl) (by kernel_rfl) (by kernel_rfl) (by kernel_rfl) (fun _ _ _ h => h) (.inr ⟨by rfl, rfl⟩) ?_
          try simp only [Act.put, List.getElem_toArray, List.getElem_cons_succ, List.getElem_cons_zero, List.setIfInBounds_toArray, List.set_cons_zero, List.set_cons_succ]
          refine GoG.take (i := 11) (v := undef) [] rfl (by kernel_rfl) (by kernel_rfl) (by kernel_rfl) (by kernel_rfl) (by kernel_rfl) (by kernel_rfl) (fun _ _ _ h => h) (.inr ⟨by rfl, rfl⟩) ?_
          try simp only [Act.put, List.getElem_toArray, List.getElem_cons_succ, List.getElem_cons_zero, List.setIfInBounds_toArray, List.set_cons_zero, List.set_cons_succ]
          refine GoG.take (i := 12) (v := undef) [] rfl (by kernel_rfl) (by kernel_rfl) (by kernel_rfl) (by kernel_rfl) (by kernel_rfl) (by kernel_rfl) (fun _ _ _ h => h) (.inr ⟨by rfl, rfl⟩) ?_
          try simp only [Act.put, List.getElem_toArray, List.getElem_cons_succ, List.getElem_cons_zero, List.setIfInBounds_toArray, List.set_cons_zero, List.set_cons_succ]
          refine GoG.take (i := 13) (v := ?_) [] rfl (by kernel_rfl) (by kernel_rfl) (by kernel_rfl) (by kernel_rfl) (by kernel_rfl) (by kernel_rfl) (fun _ _ _ h => h) (yields_free (by rfl) (fun w => ?_)) ?_
          rotate_left
          · go_simp; try (with_reducible rfl)
          try simp only [Act.put, List.getElem_toArray, List.getElem_cons_succ, List.getElem_cons_zero, List.setIfInBounds_toArray, List.set_cons_zero, List.set_cons_succ]
          refine GoG.take (i := 14) (v := ?_) [] rfl (by kernel_rfl) (by kernel_rfl) (by kernel_rfl) (by kernel_rfl) (by kernel_rfl) (by kernel_rfl) (fun _ _ _ h => h) (yields_free (by rfl) (fun w => ?_)) ?_
          rotate_left
          · go_simp; try (with_reducible rfl)
          try simp only [Act.put, List.getElem_toArray, List.getElem_cons_succ, List.getElem_cons_zero, List.setIfInBounds_toArray, List.set_cons_zero, List.set_cons_succ]
          refine GoG.take (i := 15) (v := ?_) [] rfl (by kernel_rfl) (by kernel_rfl) (by kernel_rfl) (by kernel_rfl) (by kernel_rfl) (by kernel_rfl) (fun _ _ _ h => h) (yields_free (by rfl) (fun w => ?_)) ?_
          rotate_left
          · go_simp; try (with_reducible rfl)
          try simp only [Act.put, List.getElem_toArray, List.getElem_cons_succ, List.getElem_cons_zero, List.setIfInBounds_toArray, List.set_cons_zero, List.set_cons_succ]
          refine GoG.take (i := 16) (v := ?_) [19] rfl (by kernel_rfl) (by kernel_rfl) (by kernel_rfl) (by kernel_rfl) (by kernel_rfl) (by kernel_rfl) (fun _ _ _ h => h) (yields_load 19 ⟨w.heap.size, 0, none⟩ (.slice ao L ac) (by simp) (by decide) (by rfl) (fun w hw => ?_)) ?_
          rotate_left
          · go_simp; try (with_reducible rfl)
          try simp only [Act.put, List.getElem_toArray, List.getElem_cons_succ, List.getElem_cons_zero, List.setIfInBounds_toArray, List.set_cons_zero, List.set_cons_succ]
          refine GoG.take (i := 17) (v := ?_) [] rfl (by kernel_rfl) (by kernel_rfl) (by kernel_rfl) (by kernel_rfl) (by kernel_rfl) (by kernel_rfl) (fun _ _ _ h => h) (yields_free (by rfl) (fun w => ?_)) ?_
          rotate_left
          · go_simp; try (with_reducible rfl)
          try simp only [Act.put, List.getElem_toArray, List.getElem_cons_succ, List.getElem_cons_zero, List.setIfInBounds_toArray, List.set_cons_zero, List.set_cons_succ]
          refine GoG.take (i := 18) (v := ?_) [19] rfl (by kernel_rfl) (by kernel_rfl) (by kernel_rfl) (by kernel_rfl) (by kernel_rfl) (by kernel_rfl) (fun _ _ _ h => h) (.inl ⟨by rfl, fun w hS => ?_⟩) ?_
          rotate_left
          · have g0 : w.cell? ⟨xb, 0, none⟩ = some (.string x.name) := hS (19, ⟨xb, 0, none⟩, .string x.name) (by simp) (by simp)
            have g1 : w.cell? ⟨xb, 1, none⟩ = some (.slice bo x.bounds.length bc) := hS (19, ⟨xb, 1, none⟩, .slice bo x.bounds.length bc) (by simp) (by simp)
            have g2 : w.cell? ⟨xb, 2, none⟩ = some (.int .i64 x.under) := hS (19, ⟨xb, 2, none⟩, .int .i64 x.under) (by simp) (by simp)
            have g3 : w.cell? ⟨xb, 3, none⟩ = some (.slice mo x.methods.length mc) := hS (19, ⟨xb, 3, none⟩, .slice mo x.methods.length mc) (by simp) (by simp)
            clear hS
            go_simp; try (with_reducible rfl)
          try simp only [Act.put, List.getElem_toArray, List.getElem_cons_succ, List.getElem_cons_zero, List.setIfInBounds_toArray, List.set_cons_zero, List.set_cons_succ]
          refine GoG.one (i := 19) rfl (by kernel_rfl) (fun K hK => ?_)
          go_simp
          refine HNA.out.mono ?_
          rintro e w6 ⟨rfl, b6⟩
          have B6w := Lib.hid (BWN.out.drew.trans (b6.mono BWN.out.drew.size))
          have B6 := Lib.hid (HBN.out.drew.trans (b6.mono HBN.out.drew.size))
          clear b6
          refine hK.out _ _ (Keeps.up (by rfl) (Keeps.up (by rfl) (Keeps.up (by rfl) (Keeps.up (by rfl) (Keeps.up (by rfl) (Keeps.nil)))))) ?_
          clear hK K
          try simp only [Act.put, List.getElem_toArray, List.getElem_cons_succ, List.getElem_cons_zero, List.setIfInBounds_toArray, List.set_cons_zero, List.set_cons_succ]
          refine GoG.take (i := 20) (v := ?_) [] rfl (by kernel_rfl) (by kernel_rfl) (by kernel_rfl) (by kernel_rfl) (by kernel_rfl) (by kernel_rfl) (fun _ _ _ h => h) (yields_free (by rfl) (fun w => ?_)) ?_
          rotate_left
          · go_simp; try (with_reducible rfl)
          try simp only [Act.put, List.getElem_toArray, List.getElem_cons_succ, List.getElem_cons_zero, List.setIfInBounds_toArray, List.set_cons_zero, List.set_cons_succ]
          refine GoG.take (i := 21) (v := ?_) [] rfl (by kernel_rfl) (by kernel_rfl) (by kernel_rfl) (by kernel_rfl) (by kernel_rfl) (by kernel_rfl) (fun _ _ _ h => h) (yields_free (by rfl) (fun w => ?_)) ?_
          rotate_left
          · go_simp; try (with_reducible rfl)
          try simp only [Act.put, List.getElem_toArray, List.getElem_cons_succ, List.getElem_cons_zero, List.setIfInBounds_toArray, List.set_cons_zero, List.set_cons_succ]
          refine GoG.done (by kernel_rfl) ?_ _
          clear d0 d1 d2 d3 e0 e1
          go_wp2_with fail
          go_roundw
          case rel => exact ⟨k + 1, by omega, by go_num, Hx, B6⟩
          case measure => first | (simp [intOf]; done) | (simp [intOf]; omega)
      · obtain ⟨p, hp⟩ : ∃ p, k = p + 1 := ⟨k - 1, by omega⟩
        have hpu : p < u.named.length := by omega
        have hpn : p < n := by omega
        have hpI : (p : Int) < (n : Int) := by omega
        obtain ⟨_, _, _, _, cp, -⟩ := HCC.out p hpu
        obtain ⟨v, hv⟩ : ∃ v, u.named[p].name = v := ⟨_, rfl⟩
        rw [hv] at cp
        have cpn := ((show Below wr.heap.size wr wn from by rw [← hwn]; exact (Below.refl _ _).alloc (Nat.le_refl _) _).cell (p := ⟨b, o + p * 4, none⟩) hb).trans cp
        have hpos : (0 : Int) < (k : Int) := by omega
        have hposd : decide ((0 : Int) < (k : Int)) = true := decide_eq_true hpos
        have hposn : 0 < k := by omega
        have hwp : IntKind.i64.wrap (p : Int) = (p : Int) := IntWalk.i64_in _ (by omega)
        have hsub : (k : Int) - 1 = (p : Int) := by omega
        have hsubw : IntKind.i64.wrap ((k : Int) - 1) = (p : Int) := by rw [hsub]; exact IntWalk.i64_in _ (by omega)
        have HRE := Lib.hid (show riseB (namesU u.named) k = lessB v x.name by rw [riseN_succ hku hp, hv]; congr 1; rw [HX.out])
        obtain ⟨s, hs⟩ : ∃ s, x.name = s := ⟨_, rfl⟩
        rw [hs] at a0 d0 hwn HNA0 HRE
        clear hp hv cp h0 hb hs
        cases hls : Op.bytesLess s.toList v.toList
        · have LS := Lib.hid hls
          cases heq : (s.toList == v.toList)
          · have EQ := Lib.hid heq
            have RI := Lib.hid (show riseB (namesU u.named) k = true by rw [HRE.out, less_not, LS.out, EQ.out]; rfl)
            cases ho : oneU u.types x <;> rw [ho] at HNA0 <;> have HO := Lib.hid ho <;> have HNA := Lib.hid HNA0 <;> clear ho HNA0
            · have HV := Lib.hid (BADO.out HO.out)
              go_wp2_with fail
              go_still_tail 19, (by kernel_rfl)
              change wpList _ _ _ _ _ wn.drew
              have BD := Lib.hid (show Below w.heap.size w wn.drew from BWN.out.drew)
              clear a0 a1 a2 a3 d0 d1 d2 d3 e0 e1 hwn hxb
              generalize wn.drew = w5 at *
              go_wp2_with fail
              refine HNA.out.mono ?_
              rintro e w6 ⟨rfl, b6⟩
              have B6 := Lib.hid (BD.out.trans (b6.mono BD.out.size))
              clear b6
              go_wp2_with fail
              go_ret
              exact ⟨ret_bool HV.out, B6.out⟩
            · have Hx := Lib.hid (GOOD.out HO.out RI.out)
              go_wp2_with fail
              go_still_tail 19, (by kernel_rfl)
              change wpList _ _ _ _ _ wn.drew
              have BD := Lib.hid (show Below w2.heap.size w2 wn.drew from HBN.out.drew)
              clear a0 a1 a2 a3 d0 d1 d2 d3 e0 e1 hwn hxb
              generalize wn.drew = w5 at *
              go_wp2_with fail
              refine HNA.out.mono ?_
              rintro e w6 ⟨rfl, b6⟩
              have B6 := Lib.hid (BD.out.trans (b6.mono BD.out.size))
              clear b6
              go_wp2_with fail
              go_roundw
              case rel => exact ⟨k + 1, by omega, by go_num, Hx, B6⟩
              case measure => first | (simp [intOf]; done) | (simp [intOf]; omega)
          · have EQ := Lib.hid heq
            have HV := Lib.hid (BADR.out (by rw [HRE.out, less_not, LS.out, EQ.out]; rfl))
            clear HNA0
            go_wp2_with fail
            go_quiet (fail)

            go_wp2_with fail
            go_ret
            exact ⟨ret_bool HV.out, below_drewN BWN.out _⟩
        · have LS := Lib.hid hls
          have HV := Lib.hid (BADR.out (by rw [HRE.out, less_not, LS.out]; rfl))
          clear HNA0
          go_wp2_with fail
          go_quiet (fail)

          go_wp2_with fail
          go_ret
          exact ⟨ret_bool HV.out, below_drewN BWN.out _⟩
    · obtain rfl : k = n := by omega
      have HRI := Lib.hid (show risesB (namesU u.named) = true from rises_of fun j hj => (Hall.out j (by rw [namesU_len] at hj; exact hj) (by rw [namesU_len] at hj; rw [← HN.out]; exact hj)).2)
      have HCT0 := containsT_any u ao no ac nc w.heap.size wr (HU.out.below BW.out) HRI.out (by rw [HL.out, HN.out]; exact K2.out.below HB.out)
      rw [HL.out] at HCT0
      have HV := Lib.hid (show (!(!u.types.all (fitsU u.named))) = R by
        rw [← HR.out, Bool.not_not, Bool.eq_iff_iff, restU_iff]
        constructor
        · intro h
          exact ⟨by rw [HN.out]; omega, fun m hm => by
            obtain ⟨j, hj, rfl⟩ := List.getElem_of_mem hm
            exact (Hall.out j hj (by rw [← HN.out]; exact hj)).1, HRI.out, h⟩
        · exact fun h => h.2.2.2)
      obtain ⟨f, hf⟩ : ∃ f, (!u.types.all (fitsU u.named)) = f := ⟨_, rfl⟩
      rw [hf] at HCT0 HV
      have HCT := Lib.hid HCT0
      obtain ⟨e0, e1⟩ := cell2 (K2.out.below HB.out)
      clear hf HCT0
      go_wp2_with fail
      refine HCT.out.mono ?_
      rintro e w6 ⟨rfl, b6⟩
      have B6 := Lib.hid (BW.out.trans (b6.mono BW.out.size))
      clear b6 e0 e1
      go_wp2_with fail
      go_ret
      exact ⟨ret_bool HV.out, B6.out⟩
set_option maxHeartbeats 4000000 in
set_option maxRecDepth 100000 in
theorem right_uany (u : Un) (ao no : Option Addr) (ac nc : Nat) (w : World) (hU : UnC w ao no ac nc u) (hE : Env w) (hm : MaxAt w) :
    Calls Tryz.prog 8 #[unV u ao ac no nc] w fun e w' => e = .returned (.bool (rightU u)) ∧ Below w.heap.size w w' := by
  obtain ⟨w1, h1⟩ : ∃ w1, w.alloc (.cells #[.slice ao u.types.length ac, .slice no u.named.length nc] 25) = w1 := ⟨_, rfl⟩
  obtain ⟨k1, q1, z1⟩ := box_new h1
  have B1 := Lib.hid q1
  have K1 := Lib.hid k1
  have HP0 := pright_any u.types ao ac w1 (hU.types.below q1) hU.tl hU.tc (hE.below q1)
  have HN0 := fun W (hb : Below w.heap.size w W) (hr : rightT u.types = true) => rightNames_any u ao no ac nc W (hU.below hb) hr (hm.below hb)
  unfold unV at HN0
  unfold unV
  rw [rightU_rest]
  have HN := Lib.hid HN0
  obtain ⟨c0, c1⟩ := cell2 k1
  clear hU hE hm HN0 k1 q1 z1
  cases ht : rightT u.types <;> rw [ht] at HP0 <;> have HT := Lib.hid ht <;> have HP := Lib.hid HP0 <;> clear ht HP0
  · rw [Bool.false_and]
    go_enter Tryz.func8, Tryz.ntmps8
    go_wp2_with fail
    refine HP.out.mono ?_
    rintro e w2 ⟨rfl, b2⟩
    have B2 := Lib.hid (B1.out.trans (b2.mono B1.out.size))
    clear b2 c0 c1 h1
    go_wp2_with fail
    go_ret
    exact ⟨rfl, B2.out⟩
  · rw [Bool.true_and]
    go_enter Tryz.func8, Tryz.ntmps8
    go_wp2_with fail
    refine HP.out.mono ?_
    rintro e w2 ⟨rfl, b2⟩
    have B2 := Lib.hid (B1.out.trans (b2.mono B1.out.size))
    obtain ⟨e0, e1⟩ := cell2 (K1.out.below b2)
    have HNN := Lib.hid (HN.out w2 B2.out HT.out)
    clear b2 c0 c1 h1
    go_wp2_with fail
    refine HNN.out.mono ?_
    rintro e w3 ⟨rfl, b3⟩
    have B3 := Lib.hid (B2.out.trans (b3.mono B2.out.size))
    clear b3 e0 e1 HNN
    go_wp2_with fail
    go_ret
    exact ⟨rfl, B3.out⟩
/-- What Find gives. -/
def findU (u : Un) (s : ByteArray) : Int × Int := if rightU u = false then (0, 1) else if atU u.named s < 0 then (0, 8) else (atU u.named s, 0)
theorem found_at {ns : List Nm} {s : ByteArray} (hr : risesB (namesU ns) = true) : (foundU ns s = true ∧ atU ns s = (lowU (namesU ns) s : Int)) ∨ (foundU ns s = false ∧ atU ns s = -1) := by
  have h := low_at (show risesB (ns.map (·.name)) = true from hr) s
  unfold foundU
  by_cases c : lowU (ns.map (·.name)) s < ns.length
  · have e : (namesU ns).getD (lowU (namesU ns) s) ⟨#[]⟩ = (ns.getD (lowU (ns.map (·.name)) s) ⟨⟨#[]⟩, [], 0, []⟩).name := by
      rw [show lowU (namesU ns) s = lowU (ns.map (·.name)) s from rfl, namesU_get c, getD_of c]
    by_cases d : (ns.getD (lowU (ns.map (·.name)) s) ⟨⟨#[]⟩, [], 0, []⟩).name = s
    · rw [if_pos ⟨c, d⟩] at h
      exact .inl ⟨decide_eq_true ⟨c, by rw [e]; exact d⟩, h⟩
    · rw [if_neg (fun g => d g.2)] at h
      exact .inr ⟨decide_eq_false (fun g => d (by rw [← e]; exact g.2)), h⟩
  · rw [if_neg (fun g => c g.1)] at h
    exact .inr ⟨decide_eq_false (fun g => c g.1), h⟩
set_option maxHeartbeats 4000000 in
set_option maxRecDepth 100000 in
theorem find_uany (u : Un) (ao no : Option Addr) (ac nc : Nat) (s : ByteArray) (w : World) (hU : UnC w ao no ac nc u) (hE : Env w) (hm : MaxAt w) :
    Calls Tryz.prog 6 #[unV u ao ac no nc, .string s] w fun e w' => e = .returned (.tuple #[.int .i64 (findU u s).1, .int .i64 (findU u s).2]) ∧ Below w.heap.size w w' := by
  obtain ⟨w1, h1⟩ : ∃ w1, w.alloc (.cells #[.slice ao u.types.length ac, .slice no u.named.length nc] 25) = w1 := ⟨_, rfl⟩
  obtain ⟨k1, q1, z1⟩ := box_new h1
  have B1 := Lib.hid q1
  have K1 := Lib.hid k1
  have HP0 := right_uany u ao no ac nc w1 (hU.below q1) (hE.below q1) (hm.below q1)
  have HN0 := fun W (hb : Below w.heap.size w W) (hr : risesB (namesU u.named) = true) => ufind_any u ao no ac nc s W (hU.below hb) hr
  unfold unV at HN0 HP0
  unfold unV
  have HN := Lib.hid HN0
  obtain ⟨c0, c1⟩ := cell2 k1
  clear hU hE hm HN0 k1 q1 z1
  cases ht : rightU u <;> rw [ht] at HP0 <;> have HT := Lib.hid ht <;> have HP := Lib.hid HP0 <;> clear ht HP0
  · have HV := Lib.hid (show ((0 : Int), (1 : Int)) = findU u s by unfold findU; rw [HT.out]; rfl)
    go_enter Tryz.func6, Tryz.ntmps6
    go_wp2_with fail
    refine HP.out.mono ?_
    rintro e w2 ⟨rfl, b2⟩
    have B2 := Lib.hid (B1.out.trans (b2.mono B1.out.size))
    clear b2 c0 c1 h1
    go_wp2_with fail
    go_ret2
    exact ⟨by rw [← HV.out]; first | done | rfl | simp, B2.out⟩
  · have HRI := Lib.hid (show risesB (namesU u.named) = true by
      have := HT.out
      rw [rightU_rest, Bool.and_eq_true] at this
      exact (restU_iff.1 this.2).2.2.1)
    have HFA := Lib.hid (found_at (s := s) HRI.out)
    go_enter Tryz.func6, Tryz.ntmps6
    go_wp2_with fail
    refine HP.out.mono ?_
    rintro e w2 ⟨rfl, b2⟩
    have B2 := Lib.hid (B1.out.trans (b2.mono B1.out.size))
    obtain ⟨e0, e1⟩ := cell2 (K1.out.below b2)
    have HNN0 := HN.out w2 B2.out HRI.out
    clear b2 c0 c1 h1
    cases hfo : foundU u.named s
    · have HV := Lib.hid (show ((0 : Int), (8 : Int)) = findU u s by
        unfold findU
        rcases HFA.out with g | g
        · rw [hfo] at g; cases g.1
        · rw [HT.out, if_neg (by decide), if_pos (by rw [g.2]; decide)])
      rw [hfo] at HNN0
      have HNN := Lib.hid HNN0
      clear HNN0 hfo
      go_wp2_with fail
      refine HNN.out.mono ?_
      rintro e w3 ⟨rfl, b3⟩
      have B3 := Lib.hid (B2.out.trans (b3.mono B2.out.size))
      clear b3 e0 e1 HNN
      go_wp2_with fail
      go_ret2
      exact ⟨by rw [← HV.out]; first | done | rfl | simp, B3.out⟩
    · have HV := Lib.hid (show ((lowU (namesU u.named) s : Int), (0 : Int)) = findU u s by
        unfold findU
        rcases HFA.out with g | g
        · rw [HT.out, if_neg (by decide), if_neg (by rw [g.2]; omega), g.2]
        · rw [hfo] at g; cases g.1)
      rw [hfo] at HNN0
      obtain ⟨lo, hlo⟩ : ∃ lo, lowU (namesU u.named) s = lo := ⟨_, rfl⟩
      rw [hlo] at HNN0 HV
      have HNN := Lib.hid HNN0
      clear HNN0 hfo hlo
      go_wp2_with fail
      refine HNN.out.mono ?_
      rintro e w3 ⟨rfl, b3⟩
      have B3 := Lib.hid (B2.out.trans (b3.mono B2.out.size))
      clear b3 e0 e1 HNN
      go_wp2_with fail
      go_ret2
      exact ⟨by rw [← HV.out]; first | done | rfl | simp, B3.out⟩
end Go.Proofs.YtkmnfkhchcoamaaGreatDoor

