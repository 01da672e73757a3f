/- The law AstParts: its walk. -/
import Derived.Test.YtfcoelnibpinmaaDoorAstPartsM
import Derived.Test.YtfcoelnibpinmaaDoorAstRightW
import Derived.Deep.RegionHeld3
import Derived.Deep.DrawnRows
namespace Go.Proofs.YtfcoelnibpinmaaDoor
open Go.RowKit

theorem cut_kids_le {ns : List Nd} (_tp : TreeP ns) {m : Nat} (hk : ∀ n ∈ ns, n.kids.length ≤ m) (i : Nat) : ∀ n ∈ cutNs ns i, n.kids.length ≤ m := by
  intro n hn
  unfold cutNs at hn
  obtain ⟨k, _, rfl⟩ := List.mem_map.1 hn
  simp only [List.length_map]
  unfold kidsAt
  split
  · rename_i nd h
    obtain ⟨hl, e⟩ := List.getElem?_eq_some_iff.1 h
    exact hk nd (e ▸ List.getElem_mem hl)
  · exact Nat.zero_le _
theorem s15 {p q : Prop} {w w' : World} (h : p ∧ q ∧ Below w.heap.size w w') : Below w.heap.size w w' := h.2.2
theorem s15_later {w8 w1 w2 : World} {pb po b o : Nat} {kn : Int} (h1 : pb < w8.heap.size) (h2 : b < w8.heap.size) (h : w1.cell? ⟨pb, po, none⟩ = some (.int .i64 kn) ∧ w1.cell? ⟨b, o, none⟩ = some (.int .i64 kn) ∧ Below w8.heap.size w8 w1) (bq : Below w1.heap.size w1 w2) :
    w2.cell? ⟨pb, po, none⟩ = some (.int .i64 kn) ∧ w2.cell? ⟨b, o, none⟩ = some (.int .i64 kn) ∧ Below w8.heap.size w8 w2 := by
  obtain ⟨a1, a2, a3⟩ := h
  exact ⟨by rw [bq.cell (p := ⟨pb, po, none⟩) (Nat.lt_of_lt_of_le h1 a3.size)]; exact a1, by rw [bq.cell (p := ⟨b, o, none⟩) (Nat.lt_of_lt_of_le h2 a3.size)]; exact a2, a3.trans (bq.mono a3.size)⟩
set_option maxHeartbeats 16000000 in
set_option maxRecDepth 100000 in
theorem parts_walk (a0 : Option Addr) (ns0 : List Nd) (cap0 : Nat) (w : World) (h0 : Came w a0 ns0 cap0) (hC : Counts w) :
    Calls Tryd.prog 5 #[.slice a0 ns0.length cap0] w fun e w' => e = .returned (.bool true) ∧ Below w.heap.size w w' := by
  have F0 := Lib.hid (few_came a0 cap0 ns0 w h0)
  have HC := Lib.hid hC
  clear h0 hC
  go_enter Tryd.func5, Tryd.ntmps5
  go_wp2_with fail
  refine F0.out.mono ?_
  rintro e w1 ⟨⟨v, ms, rfl, ⟨ao, ca, rfl, -, r0⟩, l0, k0⟩, b1⟩
  have k2 : ∀ n ∈ ms, n.kids.length ≤ 2000 := fun n hn => by have := k0 n hn; omega
  have HR := Lib.hid (right_any ao ca ms w1 r0 (HC.out.below b1) k2 (by omega))
  have R1 := Lib.hid r0
  have K0 := Lib.hid k0
  have K2 := Lib.hid k2
  have C1 := Lib.hid (HC.out.below b1)
  have B1 := Lib.hid b1
  clear r0 k0 k2 b1 F0 HC
  go_wp2_with fail
  refine HR.out.mono ?_
  rintro e w2 ⟨rfl, b2⟩
  have R2 := Lib.hid (R1.out.below b2)
  have C2 := Lib.hid (C1.out.below b2)
  have B2 := Lib.hid (B1.out.trans (b2.mono B1.out.size))
  clear b2 R1 C1 B1 HR
  cases ht : treeB ms
  · have HA := Lib.hid (alive_any w2 C2.out)
    clear ht
    go_wp2_with fail
    refine HA.out.mono ?_
    rintro e w3 ⟨rfl, b3⟩
    have B3 := Lib.hid (B2.out.trans (b3.mono B2.out.size))
    clear b3
    go_wp2_with fail
    go_ret
    exact ⟨rfl, B3.out⟩
  · have tp := tree_of ht
    have Ht := Lib.hid ht
    have Htp := Lib.hid tp
    have hpos := tp.1
    obtain ⟨L, hL⟩ : ∃ L, ms.length = L := ⟨_, rfl⟩
    have HL := Lib.hid hL
    obtain ⟨j, hj⟩ : ∃ j, ms.length - 1 = j := ⟨_, rfl⟩
    have Hj := Lib.hid hj
    have hjL : j < L := by omega
    have hjL2 : (L : Int) - 1 = (j : Int) := by omega
    have HCut := Lib.hid (cut_ok ao ca ms j w2 R2.out C2.out K2.out Ht.out (by omega))
    rw [hL] at l0 hpos HCut ⊢
    clear ht tp hL hj
    have hw : IntKind.i64.wrap ((L : Int) - 1) = (j : Int) := by rw [IntWalk.i64_in _ (by omega)]; exact hjL2
    go_wp2_with fail
    refine HCut.out.mono ?_
    rintro e w3 ⟨⟨v, rfl, hv⟩, b3⟩
    rw [← Hj.out, cut_root Htp.out] at hv
    have HV := Lib.hid hv
    have R3 := Lib.hid (R2.out.below b3)
    have C3 := Lib.hid (C2.out.below b3)
    have B3 := Lib.hid (B2.out.trans (b3.mono B2.out.size))
    have HD := Lib.hid (deep_ok ao ca ms w3 R3.out C3.out K2.out (by rw [HL.out]; omega) Ht.out)
    rw [HL.out, show L - 1 = j by omega] at HD
    clear hv b3 R2 C2 B2 HCut hw
    obtain ⟨D, hD⟩ : ∃ D, dep ms j = D := ⟨_, rfl⟩
    rw [hD] at HD
    have HDj := Lib.hid hD
    clear hD
    go_wp2_with fail
    refine HD.out.mono ?_
    rintro e w4 ⟨rfl, b4⟩
    obtain ⟨bo, cb, rfl, -, rv⟩ := HV.out.below b4
    have R4 := Lib.hid (R3.out.below b4)
    have C4 := Lib.hid (C3.out.below b4)
    have B4 := Lib.hid (B3.out.trans (b4.mono B3.out.size))
    have HL4 := Lib.hid (reflike_any bo ao cb ca ms ms w4 rv R4.out K2.out K2.out (by rw [HL.out]; omega))
    rw [HL.out] at HL4
    rw [HL.out]
    clear rv b4 R3 C3 B3 HD HV
    go_wp2_with fail
    refine HL4.out.mono ?_
    rintro e w5 ⟨rfl, b5⟩
    rw [likeB_refl]
    have R5 := Lib.hid (R4.out.below b5)
    have C5 := Lib.hid (C4.out.below b5)
    have B5 := Lib.hid (B4.out.trans (b5.mono B4.out.size))
    have HA := Lib.hid (alive_any w5 C5.out)
    clear b5 R4 C4 B4 HL4
    go_wp2_with fail
    refine HA.out.mono ?_
    rintro e w6 ⟨rfl, b6⟩
    have C6 := Lib.hid (C5.out.below b6)
    have B6 := Lib.hid (B5.out.trans (b6.mono B5.out.size))
    obtain ⟨b, off, rfl, hb, hc⟩ := (R5.out.below b6).nodes (by rw [HL.out]; omega)
    have Hc := Lib.hid hc
    obtain ⟨nd, hnd⟩ : ∃ nd, ms[j]'(by rw [HL.out]; exact hjL) = nd := ⟨_, rfl⟩
    have hda := hc j (by rw [HL.out]; exact hjL)
    rw [hnd] at hda
    have hkk := K0.out _ (List.getElem_mem (show j < ms.length by rw [HL.out]; exact hjL))
    rw [hnd] at hkk
    have Hnd := Lib.hid (show kidsAt ms (ms.length - 1) = nd.kids by rw [Hj.out, kidsAt_get (show j < ms.length by rw [HL.out]; exact hjL), hnd])
    obtain ⟨kd, tx, ks, pl⟩ := nd
    obtain ⟨-, -, ⟨ka, kc, d2, d3, hrow⟩, -⟩ := hda
    simp only at d2 d3 hkk Hnd
    have Hrow := Lib.hid hrow
    clear hnd hc b6 hrow R5 C5 B5 HA
    go_wp2_with fail
    go_loopw [8, 9, 58] (fun sm mo p wr => ∃ q : Nat, q ≤ ks.length ∧ sm = .int .i64 (((sumTo ms (ks.take q) + 1 : Nat)) : Int) ∧ mo = .int .i64 ((maxl (dep ms) (ks.take q) : Nat) : Int) ∧ p = .int .i64 q ∧ Hid (Below w6.heap.size w6 wr)) (fun _ _ p _ => ks.length - (intOf p).toNat)
    case atStart => exact ⟨0, Nat.zero_le _, by rw [List.take_zero]; rfl, by rw [List.take_zero]; rfl, rfl, Lib.hid (Below.refl _ _)⟩
    case round =>
      clear d2 d3
      obtain ⟨q, hq, rfl, rfl, rfl, HB⟩ := hrel
      by_cases hql : q < ks.length
      · obtain ⟨kb, ko, rfl, hkb, hkc⟩ := Hrow.out.cells (by omega)
        have hcell : wr.cell? ⟨kb, ko + q, none⟩ = some (.int .i64 (ks.getD q 0)) := by rw [HB.out.cell (p := ⟨kb, ko + q, none⟩) hkb]; exact hkc q hql
        clear hkc
        have hg : ks.getD q 0 = ks[q] := by rw [List.getD_eq_getElem?_getD, List.getElem?_eq_getElem hql]; rfl
        rw [hg] at hcell
        have hmem : ks[q] ∈ kidsAt ms (ms.length - 1) := by rw [Hnd.out]; exact List.getElem_mem hql
        have hin := kids_in Htp.out _ _ hmem
        have hless := kid_less Htp.out hmem
        have hts : ks.take (q + 1) = ks.take q ++ [ks[q]] := List.take_succ_eq_append_getElem hql
        obtain ⟨ci, hci⟩ : ∃ ci, ks[q] = ci := ⟨_, rfl⟩
        rw [hci] at hcell hin hts hless
        rw [Hj.out] at hin hless
        obtain ⟨c, rfl⟩ : ∃ c : Nat, ci = (c : Int) := ⟨ci.toNat, by omega⟩
        rw [Int.toNat_natCast, HDj.out] at hless
        have hcj : c < j := by omega
        have hcL : c < ms.length := by rw [HL.out]; omega
        have Hsum := Lib.hid (show sumTo ms (ks.take (q + 1)) = sumTo ms (ks.take q) + (cutNs ms c).length by rw [hts, sumTo_snoc, cut_len Htp.out hcL, Int.toNat_natCast])
        have Hmx := Lib.hid (show maxl (dep ms) (ks.take (q + 1)) = max (maxl (dep ms) (ks.take q)) (dep ms c) by rw [hts, maxl_snoc, Int.toNat_natCast])
        have Hct := Lib.hid (cut_tree Htp.out hcL)
        have Hck := Lib.hid (cut_kids_le Htp.out K2.out c)
        have Hdt := Lib.hid (dep_top Htp.out hcL)
        obtain ⟨tn, htn, htk⟩ := cut_top Htp.out hcL
        have Htn := Lib.hid htn
        have Htk := Lib.hid htk
        obtain ⟨hcp, hc2⟩ := cut_pos Htp.out hcL
        have hsb : sumTo ms (ks.take q) ≤ 1000000 := by
          have h1 := sum_all Htp.out
          rw [HL.out] at h1
          have h2 : sumTo ms (kidsAt ms (ms.length - 1)) = sumTo ms (ks.take q) + sumTo ms (ks.drop q) := by
            rw [Hnd.out]
            unfold sumTo
            rw [← List.length_append, ← List.flatMap_append, List.take_append_drop]
          rw [HL.out] at h2
          omega
        obtain ⟨sm, hsm⟩ : ∃ sm, sumTo ms (ks.take q) = sm := ⟨_, rfl⟩
        obtain ⟨mo, hmo⟩ : ∃ mo, maxl (dep ms) (ks.take q) = mo := ⟨_, rfl⟩
        obtain ⟨dc, hdc⟩ : ∃ dc, dep ms c = dc := ⟨_, rfl⟩
        obtain ⟨mx, hmx⟩ : ∃ mx, max mo dc = mx := ⟨_, rfl⟩
        obtain ⟨n, hn⟩ : ∃ n, (cutNs ms c).length = n := ⟨_, rfl⟩
        rw [hsm] at Hsum hsb
        rw [hmo, hdc, hmx] at Hmx
        rw [hdc] at Hdt hless
        rw [hn] at Hsum Hdt Htn hcp hc2
        have Hn := Lib.hid hn
        have hdcb : dc ≤ 120 := by have := dep_le ms (kids_in Htp.out) c; omega
        have Hmax : ∀ (ts : Array TypeId) (t : TypeId) (W : World), (Builtin.max_ ts t #[.int .i64 (mo : Int), .int .i64 (dc : Int)]).run Tryd.prog W = .ok (.int .i64 (mx : Int)) W := fun ts t W => by rw [run_max_int2, show (if (dc : Int) > (mo : Int) then (dc : Int) else (mo : Int)) = (mx : Int) by rw [← hmx]; split <;> omega]
        rw [hsm, hmo]
        have RW := Lib.hid (show NRow wr (some ⟨b, off, none⟩) ms from .inr ⟨b, off, rfl, Nat.lt_of_lt_of_le hb HB.out.size, fun i h => (Hc.out i h).below hb HB.out⟩)
        have CW := Lib.hid (C6.out.below HB.out)
        have HCut := Lib.hid (cut_ok (some ⟨b, off, none⟩) ca ms c wr RW.out CW.out K2.out Ht.out hcL)
        rw [HL.out] at HCut
        have hkc2 := (Hc.out c hcL).1
        have hkind : (ms[c]'hcL).kind = tn.kind := Htk.out.symm
        rw [hkind] at hkc2
        have Hkc := Lib.hid hkc2
        clear hmem hin hts hg hci htn htk hsm hmo hdc hmx hn hkind hkc2 Htk
        go_wp2_with fail
        refine HCut.out.mono ?_
        rintro e w7 ⟨⟨v, rfl, ⟨po, pc, rfl, -, rp⟩⟩, b7⟩
        have RP := Lib.hid rp
        have C7 := Lib.hid (CW.out.below b7)
        have B7 := Lib.hid (HB.out.trans (b7.mono HB.out.size))
        have HD := Lib.hid (deep_ok po pc (cutNs ms c) w7 RP.out C7.out Hck.out (by rw [Hn.out]; omega) (treeB_yes Hct.out))
        rw [Hn.out, Hdt.out] at HD
        rw [Hn.out]
        clear rp b7 RW CW HB HCut hcell
        go_wp2_with fail
        refine HD.out.mono ?_
        rintro e w8 ⟨rfl, b8⟩
        have hrp := RP.out.below b8
        have HR := Lib.hid (fun (wx : World) (hx : Below w8.heap.size w8 wx) => right_any po pc (cutNs ms c) wx (hrp.below hx) ((C7.out.below b8).below hx) Hck.out (by rw [Hn.out]; omega))
        rw [Hn.out, treeB_yes Hct.out] at HR
        obtain ⟨pb, po2, rfl, hpb, hpc⟩ := hrp.nodes (by rw [Hn.out]; exact hcp)
        have p1 := (hpc (n - 1) (by rw [Hn.out]; omega)).1
        have ht1 : (cutNs ms c)[n - 1]'(by rw [Hn.out]; omega) = tn := by
          obtain ⟨_, e⟩ := List.getElem?_eq_some_iff.1 Htn.out
          exact e
        rw [ht1] at p1
        have B8 := Lib.hid (B7.out.trans (b8.mono B7.out.size))
        have p2 : w8.cell? ⟨b, off + c * 4, none⟩ = some (.int .i64 tn.kind) := by rw [B8.out.cell (p := ⟨b, off + c * 4, none⟩) hb]; exact Hkc.out
        have hb8 : b < w8.heap.size := Nat.lt_of_lt_of_le hb B8.out.size
        have hw1 : IntKind.i64.wrap ((n : Int) - 1) = ((n - 1 : Nat) : Int) := by rw [IntWalk.i64_in _ (by omega)]; omega
        obtain ⟨n1, hn1⟩ : ∃ n1, n - 1 = n1 := ⟨_, rfl⟩
        rw [hn1] at p1 hw1
        have hn2 : n1 < n := by omega
        have hn3 : ((n : Int) - 1) = (n1 : Int) := by omega
        have hw2 : IntKind.i64.wrap (n1 : Int) = (n1 : Int) := by rw [IntWalk.i64_in _ (by omega)]
        have hn4 : (0 : Int) ≤ (n1 : Int) := by omega
        have hn5 : (n1 : Int) < (n : Int) := by omega
        have hc4 : (0 : Int) ≤ (c : Int) := by omega
        have hc5 : (c : Int) < (L : Int) := by omega
        have hc6 : c < L := by omega
        have hnz : ((n : Int) == 0) = false := by rw [beq_eq_false_iff_ne]; omega
        have hge : decide (D ≤ dc) = false := by rw [decide_eq_false_iff_not]; omega
        have hge2 : decide ((D : Int) ≤ (dc : Int)) = false := by rw [decide_eq_false_iff_not]; omega
        clear hpc ht1 b8 hrp HD RP C7 B7 Hkc hn1 Hdt Htn
        go_upto_region 15 with fail
        generalize tn.kind = kn at *
        go_region_held3 (fun w' => w'.cell? ⟨pb, po2 + n1 * 4, none⟩ = some (.int .i64 kn) ∧ w'.cell? ⟨b, off + c * 4, none⟩ = some (.int .i64 kn) ∧ Below w8.heap.size w8 w')
          (first | exact ⟨p1, p2, (Below.refl _ _).drew⟩ | assumption)
          ((go_at_call 8; refine (HR.out _ (s15 (by assumption))).mono ?_; rintro e w' ⟨rfl, bq⟩; have hS2 := s15_later hpb hb8 (by assumption) bq))
        have B9 := Lib.hid (B8.out.trans ((s15 hS2).mono B8.out.size))
        have e1 := Lib.hid (show Value.int .i64 ((sm : Int) + 1 + (n : Int)) = Value.int .i64 (((sumTo ms (ks.take (q + 1)) + 1 : Nat)) : Int) by rw [Hsum.out]; go_num)
        have e2 := Lib.hid (show Value.int .i64 (mx : Int) = Value.int .i64 ((maxl (dep ms) (ks.take (q + 1)) : Nat) : Int) by rw [Hmx.out])
        clear hS2 bq p1 p2 hw1 hw2 hn3 hge hge2 hnz Hsum Hmx
        go_wp2_with fail
        go_roundw
        case rel => exact ⟨q + 1, by omega, e1.out, e2.out, by go_num, B9⟩
        case measure => simp [intOf]; omega
      · obtain rfl : q = ks.length := by omega
        have h1 := sum_all Htp.out
        have h2 := dep_rec ms (ms.length - 1) (kids_in Htp.out _)
        rw [Hnd.out] at h1 h2
        rw [Hj.out, HDj.out] at h2
        rw [HL.out] at h1
        rw [List.take_length]
        obtain ⟨sm, hsm⟩ : ∃ sm, sumTo ms ks = sm := ⟨_, rfl⟩
        obtain ⟨mo, hmo⟩ : ∃ mo, maxl (dep ms) ks = mo := ⟨_, rfl⟩
        rw [hsm] at h1 ⊢
        rw [hmo] at h2 ⊢
        have B9 := Lib.hid (B6.out.trans (HB.out.mono B6.out.size))
        have hD9 : D ≤ j + 1 := by have := dep_le ms (kids_in Htp.out) j; rw [HDj.out] at this; exact this
        have h4 : D = mo + 1 := by omega
        have hmb : (mo : Int) + 1 ≤ 1000 := by omega
        subst h4
        have h3 : (((sm + 1 : Nat) : Int) == (L : Int)) = true := by rw [beq_iff_eq]; omega
        rw [show ((sm + 1 : Nat) : Int) = (L : Int) by omega]
        clear hsm hmo h1 h2 h3
        go_wp2_with fail
        go_ret
        exact ⟨rfl, B9.out⟩
end Go.Proofs.YtfcoelnibpinmaaDoor
