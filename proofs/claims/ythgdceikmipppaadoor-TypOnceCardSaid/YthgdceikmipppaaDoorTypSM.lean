/- The program's Same, of an arena and itself. -/
import Derived.Test.YthgdceikmipppaaDoorTypTI
import Derived.Test.YthgdceikmipppaaDoorTypTX
namespace Go.Proofs.YthgdceikmipppaaDoor
open Go.RowKit
set_option linter.unusedSimpArgs false
set_option linter.unusedVariables false

def rowZ (L : Nat) (f : Nat → Int) : Array Value := ((List.range L).map fun j => Value.int .i64 (f j)).toArray
theorem rowZ_get {L : Nat} {f : Nat → Int} {j : Nat} (h : j < L) : (rowZ L f)[j]? = some (.int .i64 (f j)) := by unfold rowZ; simp [h]
theorem rowZ_size {L : Nat} {f : Nat → Int} : (rowZ L f).size = L := by simp [rowZ]
theorem rowZ_set {L : Nat} {f : Nat → Int} {k : Nat} {d : Int} : (rowZ L f).setIfInBounds k (.int .i64 d) = rowZ L fun j => if j = k then d else f j := by
  apply Array.ext_getElem?
  intro j
  by_cases hj : j < L
  · rw [rowZ_get hj]
    by_cases hk : k = j
    · subst hk
      rw [Array.getElem?_setIfInBounds_self_of_lt (by rw [rowZ_size]; exact hj)]
      simp
    · rw [Array.getElem?_setIfInBounds_ne hk, rowZ_get hj, if_neg (fun e => hk e.symm)]
  · rw [Array.getElem?_eq_none (by rw [Array.size_setIfInBounds, rowZ_size]; omega), Array.getElem?_eq_none (by rw [rowZ_size]; omega)]
theorem rowZ_made (n : Nat) : madeCells #[.int .i64 0] n = rowZ n fun _ => 0 := by
  apply Array.toList_inj.1
  rw [toList_madeCells_one]
  unfold rowZ
  simp [List.map_const']
theorem info_intZ : (Tryd.prog.info? 3).map (fun i => (i.zero, i.size, i.bytes)) = some (some (.int .i64 0), 1, 8) := by kernel_rfl
theorem make_intsZ (n : Nat) (hn : n ≤ 1000000) (w : World) :
    (Instr.makeSlice 29 (.int .i64 (n : Int)) (.int .i64 (n : Int))).run Tryd.prog w = .ok (.slice (some ⟨w.heap.size, 0, none⟩) n n) (w.alloc (.cells (rowZ n fun _ => 0) 3)) := by
  rw [← rowZ_made]
  exact run_make_row' 29 3 (.int .i64 0) 8 Tryd.underlying29 info_intZ rfl .i64 .i64 n (by omega) (by omega) w
def idF (k : Nat) : Nat → Int := fun c => if c < k then (c : Int) else 0
theorem idF_zero : idF 0 = fun _ => 0 := by funext c; simp [idF]
theorem idF_step (k : Nat) : (fun j => if j = k then (k : Int) else if j = k then -1 else idF k j) = idF (k + 1) := by
  funext j
  unfold idF
  by_cases h : j = k
  · rw [if_pos h, if_pos (by omega), h]
  · rw [if_neg h, if_neg h]
    by_cases h2 : j < k
    · rw [if_pos h2, if_pos (by omega)]
    · rw [if_neg h2, if_neg (by omega)]
def kzF (ks : List Int) (q : Nat) : Nat → Int := fun c => if c < q then ks.getD c 0 else 0
theorem kzF_zero (ks : List Int) : kzF ks 0 = fun _ => 0 := by funext c; simp [kzF]
theorem kzF_step (ks : List Int) (q : Nat) : (fun j => if j = q then ks.getD q 0 else kzF ks q j) = kzF ks (q + 1) := by
  funext j
  unfold kzF
  by_cases h : j = q
  · rw [if_pos h, if_pos (by omega), h]
  · rw [if_neg h]
    by_cases h2 : j < q
    · rw [if_pos h2, if_pos (by omega)]
    · rw [if_neg h2, if_neg (by omega)]
theorem kzF_row {w : World} {b : Nat} {ks : List Int} (h : BlockAt w b (rowZ ks.length (kzF ks ks.length)) 3) : IRow w (some ⟨b, 0, none⟩) ks := by
  refine .inr ⟨b, 0, rfl, h.lt, fun i hi => ?_⟩
  rw [Nat.zero_add, h.cell i, rowZ_get hi]
  unfold kzF
  rw [if_pos hi]
set_option maxHeartbeats 64000000 in
set_option maxRecDepth 100000 in
theorem same_any (l : List Ty) (ao : Option Addr) (ac i j : Nat) (w : World) (hl : ARow w ao l) (hr : rightT l = true) (hac : l.length ≤ ac) (hE : Env w) (hi : i < l.length) (hj : j < l.length) :
    Calls Tryd.prog 17 #[.slice ao l.length ac, .int .i64 (i : Int), .slice ao l.length ac, .int .i64 (j : Int)] w fun e w' => e = .returned (.tuple #[.bool (decide ((i : Int) = (j : Int))), .int .i64 0]) ∧ Below w.heap.size w w' := by
  have hlen := (right_step hr).1
  have HIX0 := index_any l ao ac w hl (by omega) hac hE
  obtain ⟨n, hn⟩ : ∃ n, l.length = n := ⟨_, rfl⟩
  have HN := Lib.hid hn
  have HA := Lib.hid hl
  have HE := Lib.hid hE
  have HRT := Lib.hid hr
  have HAC := Lib.hid hac
  rw [hn] at hlen hac hi hj HIX0 ⊢
  have HIX := Lib.hid HIX0
  have d1 : decide ((i : Int) < 0) = false := decide_eq_false (by omega)
  have d2 : decide ((n : Int) ≤ (i : Int)) = false := decide_eq_false (by omega)
  have d2n : decide (n ≤ i) = false := decide_eq_false (by omega)
  have d3 : decide ((j : Int) < 0) = false := decide_eq_false (by omega)
  have d4 : decide ((n : Int) ≤ (j : Int)) = false := decide_eq_false (by omega)
  have d4n : decide (n ≤ j) = false := decide_eq_false (by omega)
  clear hl hr hE hn HIX0
  go_enter Tryd.func17, Tryd.ntmps17
  go_wp2_with fail
  refine HIX.out.mono ?_
  rintro e w1 ⟨mo, rfl, b1, hmap⟩
  obtain ⟨mb, rfl, hmb, hkm⟩ := hmap HRT.out
  have B1 := Lib.hid b1
  have KM := Lib.hid hkm
  have HE1 := Lib.hid (HE.out.below b1)
  have HA1 := Lib.hid (HA.out.below b1)
  have HPR0 := pright_any l ao ac w1 HA1.out (by rw [HN.out]; omega) HAC.out HE1.out
  rw [HN.out, HRT.out] at HPR0
  have HPR := Lib.hid HPR0
  rw [HRT.out]
  clear b1 hmap hmb hkm HIX HPR0
  go_wp2_with fail
  refine HPR.out.mono ?_
  rintro e w2 ⟨rfl, b2⟩
  have B2 := Lib.hid (B1.out.trans (b2.mono B1.out.size))
  have KM2 := Lib.hid (KM.out.below b2)
  have HE2 := Lib.hid (HE1.out.below b2)
  have HA2 := Lib.hid (HA1.out.below b2)
  obtain ⟨ob, hob⟩ : ∃ ob, w2.heap.size = ob := ⟨_, rfl⟩
  have hmk := make_intsZ (i + 1) (by omega) w2
  obtain ⟨w3, h3⟩ : ∃ w3, w2.alloc (.cells (rowZ (i + 1) fun _ => 0) 3) = w3 := ⟨_, rfl⟩
  obtain ⟨k3, q3, z3⟩ := box_new h3
  rw [h3, hob, show ((i + 1 : Nat) : Int) = (i : Int) + 1 by omega] at hmk
  rw [hob] at k3
  have K3 := Lib.hid (show BlockAt w3 ob (rowZ (i + 1) (idF 0)) 3 from by rw [idF_zero]; exact k3)
  have B3 := Lib.hid q3
  have HOB := Lib.hid hob
  clear b2 h3 k3 q3 z3 hob HPR HE1 HA1 KM
  go_wp2_with fail
  clear hmk
  go_loopw [58] (fun v wr => ∃ k : Nat, k ≤ i + 1 ∧ v = .int .i64 k ∧ Hid (BlockAt wr ob (rowZ (i + 1) (idF k)) 3) ∧ Hid (Below w2.heap.size w2 wr)) (fun v _ => i + 1 - (intOf v).toNat)
  case atStart => exact ⟨0, Nat.zero_le _, rfl, K3, B3⟩
  case round =>
    obtain ⟨k, hk, rfl, KO, HB⟩ := hrel
    by_cases hkl : k < i + 1
    · have hkx : k < l.length := by rw [HN.out]; omega
      obtain ⟨ab, aof, rfl, hab, hcl⟩ := HA2.out.cells (by omega)
      have hat := hcl k hkx
      have HAT := Lib.hid (at_of HRT.out hkx rfl)
      have HRK := Lib.hid (right_kids HRT.out hkx)
      obtain ⟨x, hx⟩ : ∃ x, l[k] = x := ⟨_, rfl⟩
      rw [hx] at hat HAT HRK
      obtain ⟨xw, xwc, xk, xkc, a0', a1', a2', a3', a4', hwc, hkc, hxc⟩ := hat
      have a0 := (HB.out.cell hab).trans a0'
      have a1 := (HB.out.cell hab).trans a1'
      have a2 := (HB.out.cell hab).trans a2'
      have a3 := (HB.out.cell hab).trans a3'
      have a4 := (HB.out.cell hab).trans a4'
      clear a0' a1' a2' a3' a4'
      obtain ⟨m, hm⟩ : ∃ m, x.kids.length = m := ⟨_, rfl⟩
      have hml := hxc.ok.kl
      rw [hm] at a4 hml
      have HM := Lib.hid hm
      obtain ⟨wn, hwn⟩ : ∃ wn, wr.alloc (.cells #[.int .i64 x.kind, .string x.name, .int .i64 x.n, .slice xw x.words.length xwc, .slice xk m xkc] 31) = wn := ⟨_, rfl⟩
      obtain ⟨kx, qx, zx⟩ := box_new hwn
      obtain ⟨xb, hxb⟩ : ∃ xb, wr.heap.size = xb := ⟨_, rfl⟩
      rw [hxb] at kx
      obtain ⟨c0, c1, c2, c3, c4⟩ := cell5 kx
      obtain ⟨kb, hkb⟩ : ∃ kb, wn.heap.size = kb := ⟨_, rfl⟩
      have hmk := make_intsZ m (by omega) wn
      obtain ⟨w5, h5⟩ : ∃ w5, wn.alloc (.cells (rowZ m fun _ => 0) 3) = w5 := ⟨_, rfl⟩
      obtain ⟨k5, q5, z5⟩ := box_new h5
      rw [h5, hkb] at hmk
      rw [hkb] at k5
      have KX5 := Lib.hid (kx.below q5)
      have KK5 := Lib.hid (show BlockAt w5 kb (rowZ m (kzF x.kids 0)) 3 from by rw [kzF_zero]; exact k5)
      have KO5 := Lib.hid ((KO.out.below qx).below q5)
      have B5 := Lib.hid (HB.out.trans ((qx.trans (q5.mono qx.size)).mono HB.out.size))
      have HZ := Lib.hid (show ob < xb ∧ xb < kb ∧ w2.heap.size ≤ ob from ⟨by rw [← hxb]; exact KO.out.lt, by rw [← hkb, ← hxb]; omega, by rw [HOB.out]; exact Nat.le_refl _⟩)
      have HWC := Lib.hid hwc
      have HXR := Lib.hid hxc
      obtain ⟨d0, d1', d2', d3', d4'⟩ := cell5 (kx.below q5)
      clear hx hcl hab hwc hkc hxc hm kx qx zx k5 q5 z5 KO
      go_wp2_with fail
      clear hmk hwn a0 a1 a2 a3 a4 c0 c1 c2 c3 c4 d0 d1' d2' d3' d4' h5
      go_loopw [70] (fun v wr => ∃ q : Nat, q ≤ m ∧ v = .int .i64 q ∧ Hid (BlockAt wr kb (rowZ m (kzF x.kids q)) 3) ∧ Hid (BlockAt wr xb #[.int .i64 x.kind, .string x.name, .int .i64 x.n, .slice xw x.words.length xwc, .slice xk m xkc] 31) ∧ Hid (BlockAt wr ob (rowZ (i + 1) (idF k)) 3) ∧ Hid (Below w2.heap.size w2 wr)) (fun v _ => m - (intOf v).toNat)
      case atStart => exact ⟨0, Nat.zero_le _, rfl, KK5, KX5, KO5, B5⟩
      case round =>
        obtain ⟨q, hq, rfl, KK, KX, KO, HQ⟩ := hrel
        by_cases hql : q < m
        · have hqx : q < x.kids.length := by rw [HM.out]; exact hql
          obtain ⟨yb, yof, rfl, hyb, hkcell⟩ := HXR.out.kids.cells (by omega)
          have ck : wr.cell? ⟨yb, yof + q, none⟩ = some (.int .i64 (x.kids.getD q 0)) := (HQ.out.cell hyb).trans (hkcell q hqx)
          obtain ⟨g1, g2⟩ := HRK.out _ (getD_mem hqx)
          obtain ⟨z, hz⟩ : ∃ z : Nat, x.kids.getD q 0 = (z : Int) := ⟨(x.kids.getD q 0).toNat, by omega⟩
          rw [hz] at ck g2
          have hzk : z < k := by omega
          have co := KO.out.cell z
          rw [rowZ_get (by omega), show idF k z = (z : Int) from by unfold idF; rw [if_pos hzk]] at co
          have cq := KK.out.cell q
          rw [rowZ_get hql] at cq
          have fq := KK.out.free q
          obtain ⟨w7, h7⟩ : ∃ w7, wr.setCell ⟨kb, q, none⟩ (.int .i64 (z : Int)) = w7 := ⟨_, rfl⟩
          have KK7 := Lib.hid (show BlockAt w7 kb (rowZ m (kzF x.kids (q + 1))) 3 from by
            rw [← kzF_step, hz, ← rowZ_set, ← h7]
            exact KK.out.set q _)
          have KX7 := Lib.hid (show BlockAt w7 xb _ 31 from by rw [← h7]; exact KX.out.other (by have := HZ.out; omega) q _)
          have KO7 := Lib.hid (show BlockAt w7 ob (rowZ (i + 1) (idF k)) 3 from by rw [← h7]; exact KO.out.other (by have := HZ.out; omega) q _)
          have HQ7 := Lib.hid (show Below w2.heap.size w2 w7 from by rw [← h7]; exact HQ.out.setCell (p := ⟨kb, q, none⟩) (by have := HZ.out; show w2.heap.size ≤ kb; omega) _)
          have hzi : z < i + 1 := by omega
          obtain ⟨cq0, hcq0⟩ : ∃ c, kzF x.kids q q = c := ⟨_, rfl⟩
          rw [hcq0] at cq
          clear hz hkcell hyb g1 hcq0
          go_wp2_with fail
          go_roundw
          case rel => exact ⟨q + 1, by omega, by go_num, KK7, KX7, KO7, HQ7⟩
          case measure => first | (simp [intOf]; done) | (simp [intOf]; omega)
        · obtain rfl : q = m := by omega
          obtain ⟨c0, c1, c2, c3, c4⟩ := cell5 KX.out
          have f4 := KX.out.free 4
          obtain ⟨w7, h7⟩ : ∃ w7, wr.setCell ⟨xb, 4, none⟩ (.slice (some ⟨kb, 0, none⟩) q q) = w7 := ⟨_, rfl⟩
          have KX7 := Lib.hid (show BlockAt w7 xb #[.int .i64 x.kind, .string x.name, .int .i64 x.n, .slice xw x.words.length xwc, .slice (some ⟨kb, 0, none⟩) q q] 31 from by rw [← h7]; exact KX.out.set 4 _)
          have KO7 := Lib.hid (show BlockAt w7 ob (rowZ (i + 1) (idF k)) 3 from by rw [← h7]; exact KO.out.other (by have := HZ.out; omega) 4 _)
          have KK7 := Lib.hid (show BlockAt w7 kb (rowZ q (kzF x.kids q)) 3 from by rw [← h7]; exact KK.out.other (by have := HZ.out; omega) 4 _)
          have B7 := Lib.hid (show Below w2.heap.size w2 w7 from by rw [← h7]; exact HQ.out.setCell (p := ⟨xb, 4, none⟩) (by have := HZ.out; show w2.heap.size ≤ xb; omega) _)
          have co := KO7.out.cell k
          rw [rowZ_get hkl] at co
          have fo := KO7.out.free k
          obtain ⟨cz, hcz⟩ : ∃ c, idF k k = c := ⟨_, rfl⟩
          rw [hcz] at co
          obtain ⟨w8, h8⟩ : ∃ w8, w7.setCell ⟨ob, k, none⟩ (.int .i64 (-1)) = w8 := ⟨_, rfl⟩
          have KX8 := Lib.hid (show BlockAt w8 xb #[.int .i64 x.kind, .string x.name, .int .i64 x.n, .slice xw x.words.length xwc, .slice (some ⟨kb, 0, none⟩) q q] 31 from by rw [← h8]; exact KX7.out.other (by have := HZ.out; omega) k _)
          have KO8 := Lib.hid (show BlockAt w8 ob (rowZ (i + 1) (fun j => if j = k then -1 else idF k j)) 3 from by rw [← h8, ← rowZ_set]; exact KO7.out.set k _)
          have KK8 := Lib.hid (show BlockAt w8 kb (rowZ q (kzF x.kids q)) 3 from by rw [← h8]; exact KK7.out.other (by have := HZ.out; omega) k _)
          have B8 := Lib.hid (show Below w2.heap.size w2 w8 from by rw [← h8]; exact B7.out.setCell (p := ⟨ob, k, none⟩) (by have := HZ.out; show w2.heap.size ≤ ob; omega) _)
          have hkr : IRow w8 (some ⟨kb, 0, none⟩) x.kids := kzF_row (by rw [HM.out]; exact KK8.out)
          have HFD0 := find_any l (some ⟨ab, aof, none⟩) ac mb x xw (some ⟨kb, 0, none⟩) xwc q w8 (HA2.out.below B8.out) HRT.out HAC.out (HE2.out.below B8.out) (KM2.out.below B8.out) ⟨(HXR.out.below B8.out).words, hkr, HXR.out.ok⟩ HWC.out (by rw [HM.out]; exact Nat.le_refl _)
          unfold tyV at HFD0
          rw [HN.out, HM.out, HAT.out] at HFD0
          unfold FindR at HFD0
          rw [if_pos (Int.natCast_nonneg k), decide_eq_true (Int.natCast_nonneg k)] at HFD0
          have HFD := Lib.hid HFD0
          obtain ⟨e0, e1, e2, e3, e4⟩ := cell5 KX8.out
          clear HFD0 hkr hcz
          go_wp2_with fail
          refine HFD.out.mono ?_
          rintro e w9 ⟨rfl, b9⟩
          have KO9 := Lib.hid (KO8.out.below b9)
          have B9 := Lib.hid (B8.out.trans (b9.mono B8.out.size))
          have c9 := KO9.out.cell k
          rw [rowZ_get hkl, if_pos rfl] at c9
          have f9 := KO9.out.free k
          obtain ⟨wz, hz⟩ : ∃ wz, w9.setCell ⟨ob, k, none⟩ (.int .i64 (k : Int)) = wz := ⟨_, rfl⟩
          have KOz := Lib.hid (show BlockAt wz ob (rowZ (i + 1) (idF (k + 1))) 3 from by rw [← hz, ← idF_step, ← rowZ_set]; exact KO9.out.set k _)
          have Bz := Lib.hid (show Below w2.heap.size w2 wz from by rw [← hz]; exact B9.out.setCell (p := ⟨ob, k, none⟩) (by have := HZ.out; show w2.heap.size ≤ ob; omega) _)
          clear b9 c0 c1 c2 c3 c4 f4 h7 co fo h8 e0 e1 e2 e3 e4 HFD
          go_wp2_with fail
          go_roundw
          case rel => exact ⟨k + 1, by omega, by go_num, KOz, Bz⟩
          case measure => first | (simp [intOf]; done) | (simp [intOf]; omega)
    · have HKI := Lib.hid (show k = i + 1 by omega)
      have ci := KO.out.cell i
      rw [rowZ_get (by omega), show idF k i = (i : Int) from by unfold idF; rw [if_pos (by omega)]] at ci
      have B9 := Lib.hid (B2.out.trans (HB.out.mono B2.out.size))
      go_wp2_with fail
      go_ret2
      exact ⟨by first | rfl | (simp; done), B9.out⟩
end Go.Proofs.YthgdceikmipppaaDoor
