import Derived.Test.YtkmnfkhchcoamaaGreatDoorTypPK
import Derived.Lib.AtoiErrMem
/- The program's keyOf: the walk. -/
namespace Go.Proofs.YtkmnfkhchcoamaaGreatDoor
open Go.RowKit
set_option linter.unusedSimpArgs false
set_option linter.unusedVariables false

theorem pos_of {n : Nat} (h : (0 : Int) < (n : Int)) : 0 < n := by omega
set_option maxRecDepth 100000 in
/-- What is left of the kids. -/
theorem left_slice (w : World) (ko : Option Addr) (kc : Nat) (ks : List Int) (m : Nat) (hk : IRow w ko ks) (hc : ks.length ≤ kc) (hm : m ≤ ks.length) :
    ∃ lo lc, (∀ W, (Instr.sliceAt 36 (.slice ko ks.length kc) (some (.int .i64 m)) none none).run Tryz.prog W = .ok (.slice lo (ks.length - m) lc) W) ∧ ks.length - m ≤ lc ∧ IRow w lo (ks.drop m) := by
  refine ⟨if kc = m then ko else ko.map (·.add m), kc - m, fun W => ?_, by omega, ?_⟩
  · rw [run_sliceAt_slice W 36 _ _ _ _ Tryz.underlying36, run_slice_l W 36 ko ks.length kc Tryz.underlying36 .i64 (m : Int) (by omega) (by omega)]
    have hs : (sizeOf (Tryz.prog.elem 36)).run Tryz.prog W = .ok 1 W := by
      rw [show Tryz.prog.elem 36 = 3 from by kernel_rfl]
      exact Tryz.sizeOf3 W
    rw [hs]
    simp [Result.andThen, sliced]
  · by_cases h : m = ks.length
    · exact .inl (by rw [h]; simp)
    · obtain ⟨b, off, rfl, hb, hcell⟩ := hk.cells (by omega)
      refine .inr ⟨b, off + m, ?_, hb, fun i hi => ?_⟩
      · rw [if_neg (by omega)]
        simp [addr_addK]
      · rw [List.length_drop] at hi
        have := hcell (m + i) (by omega)
        rw [← Nat.add_assoc] at this
        rw [this, getD_of (show m + i < ks.length by omega), getD_of (by rw [List.length_drop]; omega), List.getElem_drop]
theorem below_set6 {W w : World} {b : Nat} (h : Below W.heap.size W w) (hb : W.heap.size ≤ b) (v0 v1 v2 v3 v4 v5 : Value) :
    Below W.heap.size W ((((((w.setCell ⟨b, 0, none⟩ v0).setCell ⟨b, 1, none⟩ v1).setCell ⟨b, 2, none⟩ v2).setCell ⟨b, 3, none⟩ v3).setCell ⟨b, 4, none⟩ v4).setCell ⟨b, 5, none⟩ v5) :=
  (((((h.setCell hb _).setCell hb _).setCell hb _).setCell hb _).setCell hb _).setCell hb _
/-- The key, and nothing that was there has changed. -/
def KeyR (k : Ky) (w : World) (e : Ending) (w' : World) : Prop := e = .returned (keyV k) ∧ Below w.heap.size w w'
set_option maxHeartbeats 4000000 in
set_option maxRecDepth 100000 in
theorem keyOf_any (t : Ty) (wo ko : Option Addr) (wc kc : Nat) (w : World) (ht : TyC w wo ko t) (hsm : TySm t) (hwc : t.words.length ≤ wc) (hkc : t.kids.length ≤ kc) (hp : PowAt w) :
    Calls Tryz.prog 70 #[tyV t wo wc ko kc] w (KeyR (keyT t) w) := by
  obtain ⟨nk, hnk⟩ : ∃ n, t.kids.length = n := ⟨_, rfl⟩
  obtain ⟨w1, h1⟩ : ∃ w1, w.alloc (.cells #[.int .i64 t.kind, .string t.name, .int .i64 t.n, .slice wo t.words.length wc, .slice ko nk kc] 38) = w1 := ⟨_, rfl⟩
  obtain ⟨w2, h2⟩ : ∃ w2, w1.alloc (.cells #[.int .i64 0, .int .i64 0, .int .i64 0, .int .i64 0, .int .i64 0, .string ⟨#[]⟩] 100) = w2 := ⟨_, rfl⟩
  obtain ⟨w3, h3⟩ : ∃ w3, w2.alloc (.cells #[.int .i64 t.kind, .int .i64 t.n, .int .i64 nk, .int .i64 0, .int .i64 0, .string t.name] 100) = w3 := ⟨_, rfl⟩
  obtain ⟨k1, q1, z1⟩ := box_new h1
  obtain ⟨k2, q2, z2⟩ := box_new h2
  obtain ⟨k3, q3, z3⟩ := box_new h3
  have hlk : nk ≤ 18 := by rw [← hnk]; exact ht.ok.kl
  have hlw : t.words.length ≤ 18 := ht.ok.wl
  have Z := Lib.hid (And.intro z1 (And.intro z2 z3))
  have BW := Lib.hid (q1.trans ((q2.trans (q3.mono q2.size)).mono q1.size))
  have K1 := Lib.hid ((k1.below q2).below q3)
  have K2 := Lib.hid (k2.below q3)
  have K3 := Lib.hid k3
  have HT := Lib.hid ht
  have HSM := Lib.hid hsm
  have HP := Lib.hid hp
  obtain ⟨c0, c1, c2, c3, c4⟩ := cell5 k1
  obtain ⟨d0, d1, d2, d3, d4⟩ := cell5 (k1.below q2)
  obtain ⟨e0, e1, e2, e3, e4⟩ := cell5 K1.out
  have HJ := Lib.hid (fun h : 0 < t.words.length => join_any wo wc t.words ⟨#[32]⟩ 18 1100000 w3 (HT.out.words.below BW.out) h hlw HSM.out hwc (by decide) (by decide))
  have B3 := Lib.hid q3
  have K1' := Lib.hid (k1.below q2)
  have K2' := Lib.hid k2
  have BW2 := Lib.hid (q1.trans (q2.mono q1.size))
  have HBS := Lib.hid (show (t.words.length = 0 → t.name = baseT t) ∧ (0 < t.words.length → joinT t.words ⟨#[32]⟩ = baseT t) from
    ⟨fun h => (baseT_none (List.eq_nil_of_length_eq_zero h)).symm, fun h => (baseT_some (fun e => by rw [e] at h; exact absurd h (by decide))).symm⟩)
  have HWC := Lib.hid (And.intro hwc hkc)
  clear ht hsm hp k1 k2 k3 q1 q2 q3 z1 z2 z3 hwc hkc
  unfold tyV
  obtain ⟨nw, hnw⟩ : ∃ n, t.words.length = n := ⟨_, rfl⟩
  rw [hnw] at HJ HBS hlw h1 c3 d3 e3 K1 K1' ⊢
  have HNW := Lib.hid hnw
  have HNK := Lib.hid hnk
  rw [hnk] at HWC ⊢
  clear hnw hnk
  go_enter Tryz.func70, Tryz.ntmps70
  go_upto_if 21 with fail
  go_cut [] (fun wx => Hid (BlockAt wx w2.heap.size #[.int .i64 t.kind, .int .i64 t.n, .int .i64 nk, .int .i64 0, .int .i64 0, .string (baseT t)] 100) ∧ Hid (Below w2.heap.size w2 wx))
  case first =>
    go_wp2_with (go_at_call 76; refine (HJ.out (by assumption)).mono ?_; rintro e w4 ⟨rfl, b4⟩; have M := K3.out.below b4; have f5 := (cell6 M).2.2.2.2.2; have g5 := M.free 5; clear M)
    · have HB4 := Lib.hid b4
      have HS4 := Lib.hid (HBS.out.2 (by assumption))
      clear b4
      go_meet
      case rel =>
        refine ⟨Lib.hid ?_, Lib.hid ?_⟩
        · rw [← HS4.out]
          exact (K3.out.below HB4.out).set 5 (.string (joinT t.words ⟨#[32]⟩))
        · exact (B3.out.trans (HB4.out.mono B3.out.size)).setCell (by simp) _
    · have hh : ¬ 0 < nw := by assumption
      have HS4 := Lib.hid (HBS.out.1 (by omega))
      go_meet
      case rel =>
        refine ⟨Lib.hid ?_, Lib.hid B3.out⟩
        have := K3.out
        rw [HS4.out] at this
        exact this
  case rest =>
    obtain ⟨KB, B2⟩ := hcut
    clear c0 c1 c2 c3 c4 d0 d1 d2 d3 d4 e0 e1 e2 e3 e4 h1 h2 h3 HJ K1 K2 K3 B3 BW
    have HKR := Lib.hid (HT.out.kids.below (BW2.out.trans (B2.out.mono BW2.out.size)))
    obtain ⟨w4, hcp0, kb4, s4, o4, t4, u4, h4⟩ := copy_first wc.drew w2.heap.size _ _ _ _ ko kc t.kids KB.out (show IRow wc.drew ko t.kids from HKR.out)
    obtain ⟨m, hm⟩ : ∃ m, min t.kids.length 2 = m := ⟨_, rfl⟩
    obtain ⟨lo, lc, hsl0, hlc, hlr⟩ := left_slice w ko kc t.kids m HT.out.kids (by rw [HNK.out]; exact HWC.out.2) (by omega)
    obtain ⟨q, hq⟩ : ∃ q, nk - m = q := ⟨_, rfl⟩
    rw [hm, HNK.out] at hcp0
    rw [HNK.out] at hsl0
    rw [HNK.out, hq] at hlc
    rw [hq] at hsl0
    have HM := Lib.hid hm
    have HQ := Lib.hid hq
    have B4 := Lib.hid (show Below w2.heap.size w2 w4 from ⟨o4.trans B2.out.os, t4.trans B2.out.tape, u4.trans B2.out.output, by rw [s4]; exact B2.out.size, fun i hi => (h4 i (by omega)).trans (B2.out.block i hi)⟩)
    obtain ⟨a0, ha0⟩ : ∃ a, t.kids.getD 0 0 = a := ⟨_, rfl⟩
    obtain ⟨a1, ha1⟩ : ∃ a, t.kids.getD 1 0 = a := ⟨_, rfl⟩
    rw [ha0, ha1] at kb4
    have HA := Lib.hid (And.intro ha0 ha1)
    have KB4 := Lib.hid kb4
    have LR := Lib.hid (show IRow w4 lo (t.kids.drop m) from hlr.below (BW2.out.trans (B4.out.mono BW2.out.size)))
    obtain ⟨c0, c1, c2, c3, c4⟩ := cell5 (K1'.out.below B2.out)
    obtain ⟨f0, f1, f2, f3, f4, f5⟩ := cell6 KB.out
    obtain ⟨g0, g1, g2, g3, g4⟩ := cell5 (K1'.out.below B4.out)
    clear hm hq ha0 ha1 kb4 s4 o4 t4 u4 h4 hlr
    have R2 := Lib.hid (show ∀ W, Below w2.heap.size w2 W → BlockAt W w1.heap.size #[.int .i64 0, .int .i64 0, .int .i64 0, .int .i64 0, .int .i64 0, .string ⟨#[]⟩] 100 from fun W h => K2'.out.below h)
    by_cases h0 : q = 0
    · have HV := Lib.hid (show baseT t = restT t from by
        have hd : t.kids.drop 2 = [] := by
          apply List.drop_eq_nil_of_le
          rw [HNK.out]
          have := HM.out
          have := HQ.out
          rw [HNK.out] at *
          omega
        unfold restT restL baseT
        rw [hd]
        simp [kidsL])
      subst h0
      have M := R2.out w4 B4.out
      obtain ⟨r0, r1, r2, r3, r4, r5⟩ := cell6 M
      have s0 := M.free 0
      have s1 := M.free 1
      have s2 := M.free 2
      have s3 := M.free 3
      have s4 := M.free 4
      have s5 := M.free 5
      obtain ⟨y0, y1, y2, y3, y4, y5⟩ := cell6 KB4.out
      clear M
      go_wp2_with fail
      go_region
      all_goals
        go_wp2_with fail
        refine bodyPost_ret (v := .agg #[.int .i64 t.kind, .int .i64 t.n, .int .i64 nk, .int .i64 a0, .int .i64 a1, .string (baseT t)]) (by simp [results, Tryz.results70, go_sem, r0, r1, r2, r3, r4, r5]) rfl ?_
        refine ⟨?_, below_set6 (BW2.out.trans (B4.out.mono BW2.out.size)) (by have := Z.out.1; omega) _ _ _ _ _ _⟩
        unfold keyV keyT
        rw [HNK.out, HA.out.1, HA.out.2, HV.out]
    · have HM2 := Lib.hid (show m = 2 from by
        have h1 := HM.out
        have h2 := HQ.out
        rw [HNK.out] at h1
        omega)
      have hlen : (t.kids.drop 2).length = q := by rw [List.length_drop, HNK.out, ← HM2.out]; exact HQ.out
      rw [HM2.out] at LR
      have HLEN := Lib.hid hlen
      obtain ⟨lb, lof, rfl, hlb, hlcell⟩ := LR.out.cells (by rw [hlen]; omega)
      have HLC := Lib.hid hlcell
      have HKS := Lib.hid (show ∀ k ∈ t.kids.drop 2, -9223372036854775808 ≤ k ∧ k ≤ 9223372036854775807 from fun k hk => HT.out.ok.ks k (List.mem_of_mem_drop hk))
      obtain ⟨bs, hbs⟩ : ∃ s, baseT t = s := ⟨_, rfl⟩
      have HBL := Lib.hid (show baseL t = bs.data.toList from by rw [← hbs]; rfl)
      have HBSZ := Lib.hid (show bs.size ≤ 20000000 from by rw [← hbs]; exact baseT_size HT.out.ok HSM.out)
      have HV := Lib.hid (show (⟨(bs.data.toList ++ kidsL (t.kids.drop 2)).toArray⟩ : ByteArray) = restT t from by unfold restT restL; rw [HBL.out])
      rw [hbs] at KB4 KB f5
      obtain ⟨w5, h5⟩ : ∃ w5, Lib.bytesWorld w4 5 bs = w5 := ⟨_, rfl⟩
      have hcv := Lib.run_convert_string_bytes w4 9 113 5 bs Tryz.underlying9 Tryz.underlying113 Tryz.underlying5
      have hrc := rowC_conv w4 5 bs w4.heap.size (Nat.le_refl _) (by have := HBSZ.out; omega)
      have hb5 := Lib.bytesWorld_below w4 5 bs
      rw [h5] at hcv hrc hb5
      obtain ⟨gc, hgc⟩ : ∃ c, grownCap w4 bs.size 0 5 = c := ⟨_, rfl⟩
      rw [hgc] at hcv hrc
      have RC := Lib.hid hrc
      have B5 := Lib.hid hb5
      have HPW := Lib.hid (HP.out.below (BW2.out.trans (B4.out.mono BW2.out.size)))
      obtain ⟨y0, y1, y2, y3, y4, y5⟩ := cell6 KB4.out
      have hdq : decide (0 < q) = true := decide_eq_true (by omega)
      have hdqi : decide ((0 : Int) < (q : Int)) = true := decide_eq_true (by omega)
      have hq18 : q ≤ 18 := by have := HQ.out; omega
      clear hbs hgc hrc hb5 hlen hlcell h5
      go_wp2_with fail
      go_region
      all_goals
        go_wp2_with fail
        clear hcv hcp0 hsl0 c0 c1 c2 c3 c4 f0 f1 f2 f3 f4 f5 g0 g1 g2 g3 g4 y0 y1 y2 y3 y4 y5
        go_loopw [5, 42] (fun v i wr => ∃ k : Nat, k ≤ q ∧ i = .int .i64 k ∧ Hid (RowC wr w4.heap.size v (bs.data.toList ++ kidsL ((t.kids.drop 2).take k)).length (Lib.byteCells (bs.data.toList ++ kidsL ((t.kids.drop 2).take k)))) ∧ Hid (Below w4.heap.size w4 wr)) (fun _ i _ => q - (intOf i).toNat)
        case atStart =>
          refine ⟨0, Nat.zero_le _, rfl, Lib.hid ?_, B5⟩
          have := RC.out
          simp only [List.take_zero, show kidsL [] = [] from rfl, List.append_nil]
          rw [show bs.data.toList.length = bs.size by simp]
          exact this
        case round =>
          obtain ⟨k, hk, rfl, HR, HB⟩ := hrel
          by_cases hkq : k < q
          · have hcell : wr.cell? ⟨lb, lof + k, none⟩ = some (.int .i64 ((t.kids.drop 2).getD k 0)) := by
              rw [HB.out.cell (p := ⟨lb, lof + k, none⟩) hlb]
              exact HLC.out k (by rw [HLEN.out]; exact hkq)
            have HST := Lib.hid (kidsL_take (show k < (t.kids.drop 2).length by rw [HLEN.out]; exact hkq))
            have HKB := Lib.hid (HKS.out _ (getD_mem (show k < (t.kids.drop 2).length by rw [HLEN.out]; exact hkq)))
            have HSZ := Lib.hid (show (bs.data.toList ++ kidsL ((t.kids.drop 2).take k)).length ≤ 20001000 from by
              have h1 := kidsL_len (ks := (t.kids.drop 2).take k) (fun x hx => HKS.out x (List.mem_of_mem_take hx))
              have h2 : ((t.kids.drop 2).take k).length ≤ 18 := by rw [List.length_take]; have := HLEN.out; omega
              have h3 := HBSZ.out
              rw [List.length_append]
              have h4 : bs.data.toList.length = bs.size := by simp
              omega)
            have HSZ2 := Lib.hid (show bs.size + (kidsL ((t.kids.drop 2).take k)).length ≤ 20001000 from by
              have h1 := HSZ.out
              rw [List.length_append] at h1
              have h4 : bs.data.toList.length = bs.size := by simp
              omega)
            obtain ⟨x, hx⟩ : ∃ x, (t.kids.drop 2).getD k 0 = x := ⟨_, rfl⟩
            rw [hx] at hcell HST HKB
            clear hx
            obtain ⟨i0, hi, hz0, hz1, hz2⟩ := info_partsI info_u8
            go_wp2_with (at_builtin; refine wpList_append_C _ rfl _ _ rfl w4.heap.size Tryz.underlying113 hi hz0 hz1 hz2 _ _ _ rfl (HR.out.alloc _) ⟨wr.heap.size, 0, none⟩ 1 1 [.int .u8 32] rfl rfl ?c1 ?c2 ?c3 ?c4 ?_)
            case c1 => intro j u' hj; match j, hj with | 0, hj => simp at hj; subst hj; simp [Addr.add]
            case c2 => intro u' hu'; simp at hu'; subst hu'; rfl
            case c3 => have := HSZ.out; omega
            case c4 => have := HB.out.size; simp; omega
            intro v1 w6 hown1 hgrow
            have HN1 := Lib.hid ((HB.out.alloc HB.out.size _).grown hgrow (by have := HB.out.size; simp; omega) (fun j hj => (HR.out.lt j hj).1))
            have HO1 := Lib.hid hown1
            clear hown1 hgrow hcell
            go_wp2_with fail
            refine (appendInt_any w4 _ x HKB.out.1 HKB.out.2 v1 _ w6 HO1.out HN1.out (by have := HSZ2.out; have := HSZ.out; omega) HPW.out).mono ?_
            rintro e w7 ⟨v2, rfl, hown2, hnx2⟩
            have HO2 := Lib.hid hown2
            have HN2 := Lib.hid (HN1.out.trans hnx2)
            clear hown2 hnx2
            go_wp2_with fail
            go_roundw
            case rel =>
              refine ⟨k + 1, by omega, by go_num, Lib.hid ?_, HN2⟩
              have e : bs.data.toList ++ kidsL ((t.kids.drop 2).take (k + 1)) = bs.data.toList ++ kidsL ((t.kids.drop 2).take k) ++ (32 :: Lib.itoa x) := by rw [HST.out, List.append_assoc]
              rw [e]
              have := HO2.out
              simpa [Lib.byteCells, Nat.add_assoc, Nat.add_comm, Nat.add_left_comm] using this
            case measure => simp [intOf]; omega
          · obtain rfl : k = q := by omega
            have hall : (t.kids.drop 2).take k = t.kids.drop 2 := List.take_of_length_le (by rw [HLEN.out]; exact Nat.le_refl _)
            rw [hall] at HR
            have htx := HR.out.text
            rw [HV.out] at htx
            have KE := KB4.out.below HB.out
            obtain ⟨y0, y1, y2, y3, y4, y5⟩ := cell6 KE
            have z5 := KE.free 5
            have M := (R2.out w4 B4.out).below HB.out
            obtain ⟨r0, r1, r2, r3, r4, r5⟩ := cell6 M
            have s0 := M.free 0
            have s1 := M.free 1
            have s2 := M.free 2
            have s3 := M.free 3
            have s4 := M.free 4
            have s5 := M.free 5
            have BE := Lib.hid (B4.out.trans (HB.out.mono B4.out.size))
            have hne : w1.heap.size < w2.heap.size := by have := Z.out.2.1; omega
            clear KE M hall
            go_wp2_with fail
            refine bodyPost_ret (v := .agg #[.int .i64 t.kind, .int .i64 t.n, .int .i64 nk, .int .i64 a0, .int .i64 a1, .string (restT t)]) (by simp [results, Tryz.results70, go_sem, r0, r1, r2, r3, r4, r5]) rfl ?_
            refine ⟨?_, below_set6 ((BW2.out.trans (BE.out.mono BW2.out.size)).setCell (by have := Z.out; show w.heap.size ≤ w2.heap.size; omega) _) (by have := Z.out.1; omega) _ _ _ _ _ _⟩
            unfold keyV keyT
            rw [HNK.out, HA.out.1, HA.out.2]
end Go.Proofs.YtkmnfkhchcoamaaGreatDoor

