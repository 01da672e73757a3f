/- The reference's Parse. -/
import Derived.Test.YtbdhmelebedpiaaDoorSemRefV
import Derived.Test.YtbdhmelebedpiaaDoorSemRefNext
namespace Go.Proofs.YtbdhmelebedpiaaDoor
open Go.RowKit
set_option linter.unusedSimpArgs false
set_option linter.unusedVariables false

def refErr (E : Int) : Value := .agg #[.int .i64 0, .int .i64 0, .int .i64 0, .slice none 0 0, .slice none 0 0, .int .i64 E]
def mainE (NS PS BS : List ByteArray) : Int := if NS.any badNum = true then 5 else if (fewB PS && fewB BS) = false then 7 else if NS.any greatB = true then 2 else if PS.any greatB = true then 2 else 0
theorem SRowN.cellsN {base : Nat} {w : World} {ao : Option Addr} {ss : List ByteArray} (h : SRowN base w ao ss) (hn : 0 < ss.length) : ∃ b off, ao = some ⟨b, off, none⟩ ∧ base ≤ b ∧ b < w.heap.size ∧ ∀ i (h : i < ss.length), w.cell? ⟨b, off + i, none⟩ = some (.string ss[i]) := by
  rcases h with h | h
  · rw [h] at hn; exact absurd hn (by simp)
  · exact h
theorem main5 {NS PS BS : List ByteArray} (h : NS.any badNum = true) : mainE NS PS BS = 5 := by unfold mainE; rw [if_pos h]
theorem main7 {NS PS BS : List ByteArray} (h : NS.any badNum = false) (h2 : (fewB PS && fewB BS) = false) : mainE NS PS BS = 7 := by unfold mainE; rw [if_neg (by rw [h]; decide), if_pos h2]
theorem main2a {NS PS BS : List ByteArray} (h : NS.any badNum = false) (h2 : fewB PS = true ∧ fewB BS = true) (h3 : NS.any greatB = true) : mainE NS PS BS = 2 := by unfold mainE; rw [if_neg (by rw [h]; decide), if_neg (by rw [h2.1, h2.2]; decide), if_pos h3]
theorem main2b {NS PS BS : List ByteArray} (h : NS.any badNum = false) (h2 : fewB PS = true ∧ fewB BS = true) (h3 : NS.any greatB = false) (h4 : PS.any greatB = true) : mainE NS PS BS = 2 := by unfold mainE; rw [if_neg (by rw [h]; decide), if_neg (by rw [h2.1, h2.2]; decide), if_neg (by rw [h3]; decide), if_pos h4]
theorem main0 {NS PS BS : List ByteArray} (h : NS.any badNum = false) (h2 : fewB PS = true ∧ fewB BS = true) (h3 : NS.any greatB = false) (h4 : PS.any greatB = false) : mainE NS PS BS = 0 := by unfold mainE; rw [if_neg (by rw [h]; decide), if_neg (by rw [h2.1, h2.2]; decide), if_neg (by rw [h3]; decide), if_neg (by rw [h4]; decide)]
/-- What the main way gives. -/
def RefM (w0 : World) (a b c : ByteArray) (PS BS : List ByteArray) (e : Ending) (w' : World) : Prop := Below w0.heap.size w0 w' ∧
  ((mainE [a, b, c] PS BS ≠ 0 ∧ e = .returned (refErr (mainE [a, b, c] PS BS))) ∨
   (mainE [a, b, c] PS BS = 0 ∧ ∃ po pc bo bc, e = .returned (.agg #[.int .i64 ((valL 0 a.data.toList : Nat) : Int), .int .i64 ((valL 0 b.data.toList : Nat) : Int), .int .i64 ((valL 0 c.data.toList : Nat) : Int), .slice po PS.length pc, .slice bo BS.length bc, .int .i64 0]) ∧ SRow w' po PS ∧ SRow w' bo BS))
theorem dig_num {s : ByteArray} (h : isnumB s = true) : DigL s.data.toList := by rw [← ByteArray.toList_eq]; exact (lead_of h).1
theorem val_num {s : ByteArray} (h : isnumB s = true) (hg : greatB s = false) : valL 0 s.data.toList ≤ 9223372036854775807 := by
  have h1 := great_val h
  rw [hg] at h1
  have h2 := of_decide_eq_false h1.symm
  rw [← ByteArray.toList_eq]
  omega
theorem ext_full (s : ByteArray) (k : Nat) (_hk : k ≤ s.size) : (s.extract k s.size).data.toList = s.data.toList.drop k := by
  rw [extract_list, List.take_of_length_le (by rw [List.length_drop]; exact Nat.le_refl _)]
theorem ext_head (s : ByteArray) (k : Nat) : (s.extract 0 k).data.toList = s.data.toList.take k := by
  rw [extract_list, List.drop_zero, Nat.sub_zero]
set_option maxHeartbeats 64000000 in
set_option maxRecDepth 100000 in
theorem refparse_tt_len (s : ByteArray) (x b x2 p : List UInt8) (NS PS BS : List ByteArray) (w : World) (hs : s.size ≤ 1000) (hc1 : cutL 43 s.data.toList = (x, b, true)) (hc2 : cutL 45 x = (x2, p, true)) (hNS : dotsOf x2 = NS) (hPS : dotsOf p = PS) (hBS : dotsOf b = BS) (t1 : ¬ NS.length = 3) :
    Calls Tryd.prog 9 #[.string s] w fun e w' => e = .returned (refErr 5) ∧ Below w.heap.size w w' := by
  have c46 : ((46 : UInt8).toNat : Int) = 46 := rfl
  have F10 := fun w => find_any s 43 w (by omega)
  have hfc43 := find_cut 43 s.data.toList
  obtain ⟨kb, hk43, hl43, hcut43⟩ : ∃ k : Nat, findL 43 s.data.toList = k ∧ k < s.data.toList.length ∧ cutL 43 s.data.toList = (s.data.toList.take k, s.data.toList.drop (k + 1), true) := by
    rcases hfc43 with ⟨_, h2⟩ | h
    · rw [hc1] at h2; simp at h2
    · exact h
  rw [hc1] at hcut43
  simp only [Prod.mk.injEq, and_true] at hcut43
  have hl43 : kb < s.size := hl43
  obtain ⟨sb, hsb⟩ : ∃ t, s.extract (kb + 1) s.size = t := ⟨_, rfl⟩
  obtain ⟨sx, hsx⟩ : ∃ t, s.extract 0 kb = t := ⟨_, rfl⟩
  have dsb : sb.data.toList = b := by rw [← hsb, ext_full _ _ (by omega), ← hcut43.2]
  have dsx : sx.data.toList = x := by rw [← hsx, ext_head, ← hcut43.1]
  have zsb : sb.size ≤ 1000 := by rw [← hsb, ByteArray.size_extract]; omega
  have zsx : sx.size ≤ 1000 := by rw [← hsx, ByteArray.size_extract]; omega
  rw [hk43] at F10
  clear hk43 hcut43 hfc43
  have F1 := fun w => Lib.hid (F10 w)
  clear F10
  simp only [show ((43 : UInt8).toNat : Int) = 43 from rfl] at F1
  have hcx : cutL 45 sx.data.toList = (x2, p, true) := by rw [dsx]; exact hc2
  have F20 := fun w => find_any sx 45 w (by omega)
  have hfc45 := find_cut 45 sx.data.toList
  obtain ⟨kp, hk45, hl45, hcut45⟩ : ∃ k : Nat, findL 45 sx.data.toList = k ∧ k < sx.data.toList.length ∧ cutL 45 sx.data.toList = (sx.data.toList.take k, sx.data.toList.drop (k + 1), true) := by
    rcases hfc45 with ⟨_, h2⟩ | h
    · rw [hcx] at h2; simp at h2
    · exact h
  rw [hcx] at hcut45
  simp only [Prod.mk.injEq, and_true] at hcut45
  have hl45 : kp < sx.size := hl45
  obtain ⟨sp, hsp⟩ : ∃ t, sx.extract (kp + 1) sx.size = t := ⟨_, rfl⟩
  obtain ⟨sy, hsy⟩ : ∃ t, sx.extract 0 kp = t := ⟨_, rfl⟩
  have dsp : sp.data.toList = p := by rw [← hsp, ext_full _ _ (by omega), ← hcut45.2]
  have dsy : sy.data.toList = x2 := by rw [← hsy, ext_head, ← hcut45.1]
  have zsp : sp.size ≤ 1000 := by rw [← hsp, ByteArray.size_extract]; omega
  have zsy : sy.size ≤ 1000 := by rw [← hsy, ByteArray.size_extract]; omega
  rw [hk45] at F20
  clear hk45 hcut45 hfc45
  have F2 := fun w => Lib.hid (F20 w)
  clear F20
  simp only [show ((45 : UInt8).toNat : Int) = 45 from rfl] at F2
  have dcore : sy.data.toList = x2 := dsy
  have S1 := fun w => refsplit_any sy 46 w (by omega)
  rw [dcore, show partsOf 46 x2 = NS from hNS, c46] at S1
  have S1 := fun w => Lib.hid (S1 w)
  have S2 := fun w => refsplit_any sp 46 w (by omega)
  rw [dsp, show partsOf 46 p = PS from hPS, c46] at S2
  have S2 := fun w => Lib.hid (S2 w)
  have S3 := fun w => refsplit_any sb 46 w (by omega)
  rw [dsb, show partsOf 46 b = BS from hBS, c46] at S3
  have S3 := fun w => Lib.hid (S3 w)
  have lN := dots_len x2
  rw [hNS] at lN
  have zx2 : x2.length ≤ 1000 := by rw [← dcore]; show sy.size ≤ 1000; omega
  have zN := Lib.hid (show ∀ q ∈ NS, q.size ≤ 1000 from fun q hq => by have := lN.2 q hq; omega)
  have mN : NS.length ≤ 1001 := by have := lN.1; omega
  have lP := dots_len p
  rw [hPS] at lP
  have zp0 : p.length ≤ 1000 := by rw [← dsp]; show sp.size ≤ 1000; omega
  have zP := Lib.hid (show ∀ q ∈ PS, q.size ≤ 1000 from fun q hq => by have := lP.2 q hq; omega)
  have mP : PS.length ≤ 1001 := by have := lP.1; omega
  clear lP zp0 hPS
  have lB := dots_len b
  rw [hBS] at lB
  have zb0 : b.length ≤ 1000 := by rw [← dsb]; show sb.size ≤ 1000; omega
  have zB := Lib.hid (show ∀ q ∈ BS, q.size ≤ 1000 from fun q hq => by have := lB.2 q hq; omega)
  have mB : BS.length ≤ 1001 := by have := lB.1; omega
  clear lB zb0 hBS
  clear lN zx2 hNS c46 dcore hcx hc1 hc2 dsb dsx dsp dsy
  obtain ⟨wa, ha⟩ : ∃ wa, w.alloc (.cells #[.int .i64 0, .int .i64 0, .int .i64 0, .slice none 0 0, .slice none 0 0, .int .i64 0] 29) = wa := ⟨_, rfl⟩
  obtain ⟨k1, q1, z1⟩ := box_new ha
  go_enter Tryd.func9, Tryd.ntmps9
  go_wp2_with fail
  clear ha
  have bq : Below wa.heap.size wa (wa.alloc (.cells #[.int .i64 0, .int .i64 0, .int .i64 0, .slice none 0 0, .slice none 0 0, .int .i64 0] 29)) := (Below.refl _ _).alloc (Nat.le_refl _) _
  have k2 := BlockAt.new wa #[.int .i64 0, .int .i64 0, .int .i64 0, .slice none 0 0, .slice none 0 0, .int .i64 0] 29
  rw [z1] at k2
  have k1b := k1.below bq
  have bw := q1.trans (bq.mono q1.size)
  have zb1 : (wa.alloc (.cells #[.int .i64 0, .int .i64 0, .int .i64 0, .slice none 0 0, .slice none 0 0, .int .i64 0] 29)).heap.size = wa.heap.size + 1 := by simp
  generalize wa.alloc (.cells #[.int .i64 0, .int .i64 0, .int .i64 0, .slice none 0 0, .slice none 0 0, .int .i64 0] 29) = wb at *
  have KR0 := Lib.hid k1b
  have KP0 := Lib.hid k2
  have BB0 := Lib.hid bw
  have HZ := Lib.hid (And.intro z1 zb1)
  have ZZ0 := Lib.hid (Nat.le_refl wb.heap.size)
  clear bq k1 k2 k1b bw zb1 q1 z1
  refine (F1 wb).out.mono ?_
  rintro e w' ⟨rfl, rfl⟩
  go_wp2_with fail
  refine (S3 wb).out.mono ?_
  rintro e u1 ⟨⟨boo, boc, rfl, rr, cc⟩, bb⟩
  have RB := Lib.hid rr
  have KP1 := Lib.hid (KP0.out.below bb)
  have KR1 := Lib.hid (KR0.out.below bb)
  have BB1 := Lib.hid (BB0.out.trans (bb.mono BB0.out.size))
  have ZZ1 := Lib.hid (Nat.le_trans ZZ0.out bb.size)
  clear rr bb cc KP0 KR0 BB0
  obtain ⟨v2, hv2⟩ : ∃ v, u1.setCell ⟨w.heap.size + 1, 4, none⟩ (.slice boo BS.length boc) = v := ⟨_, rfl⟩
  have fr := KP1.out.free 4
  have ce := KP1.out.cell 4
  simp at ce
  have kp : BlockAt v2 (w.heap.size + 1) #[.int .i64 0, .int .i64 0, .int .i64 0, .slice none 0 0, .slice boo BS.length boc, .int .i64 0] 29 := by have h := KP1.out.set 4 (.slice boo BS.length boc); rw [hv2] at h; simpa using h
  have kr := KR1.out.other (c := w.heap.size + 1) (by have := HZ.out; omega) 4 (.slice boo BS.length boc)
  rw [hv2] at kr
  have bw : Below w.heap.size w v2 := by rw [← hv2]; exact BB1.out.setCell (by simp) _
  have zz : wb.heap.size ≤ v2.heap.size := by rw [← hv2]; simpa using ZZ1.out
  have rRB := RB.out.set (c := w.heap.size + 1) (k := 4) (by have := HZ.out; have := ZZ0.out; omega) (.slice boo BS.length boc)
  rw [hv2] at rRB
  have RBv := Lib.hid rRB
  clear rRB RB
  have KP2 := Lib.hid kp
  have KR2 := Lib.hid kr
  have BB2 := Lib.hid bw
  have ZZ2 := Lib.hid zz
  clear kp kr bw zz KP1 KR1 BB1
  go_wp2_with fail
  clear fr ce hv2
  refine (F2 v2).out.mono ?_
  rintro e w' ⟨rfl, rfl⟩
  go_wp2_with fail
  refine (S2 v2).out.mono ?_
  rintro e u3 ⟨⟨poo, poc, rfl, rr, cc⟩, bb⟩
  have RP := Lib.hid rr
  have RBvu := Lib.hid (RBv.out.below bb)
  clear RBv
  have KP3 := Lib.hid (KP2.out.below bb)
  have KR3 := Lib.hid (KR2.out.below bb)
  have BB3 := Lib.hid (BB2.out.trans (bb.mono BB2.out.size))
  have ZZ3 := Lib.hid (Nat.le_trans ZZ2.out bb.size)
  clear rr bb cc KP2 KR2 BB2
  obtain ⟨v4, hv4⟩ : ∃ v, u3.setCell ⟨w.heap.size + 1, 3, none⟩ (.slice poo PS.length poc) = v := ⟨_, rfl⟩
  have fr := KP3.out.free 3
  have ce := KP3.out.cell 3
  simp at ce
  have kp : BlockAt v4 (w.heap.size + 1) #[.int .i64 0, .int .i64 0, .int .i64 0, .slice poo PS.length poc, .slice boo BS.length boc, .int .i64 0] 29 := by have h := KP3.out.set 3 (.slice poo PS.length poc); rw [hv4] at h; simpa using h
  have kr := KR3.out.other (c := w.heap.size + 1) (by have := HZ.out; omega) 3 (.slice poo PS.length poc)
  rw [hv4] at kr
  have bw : Below w.heap.size w v4 := by rw [← hv4]; exact BB3.out.setCell (by simp) _
  have zz : wb.heap.size ≤ v4.heap.size := by rw [← hv4]; simpa using ZZ3.out
  have rRBvu := RBvu.out.set (c := w.heap.size + 1) (k := 3) (by have := HZ.out; have := ZZ0.out; omega) (.slice poo PS.length poc)
  rw [hv4] at rRBvu
  have RBvuv := Lib.hid rRBvu
  clear rRBvu RBvu
  have rRP := RP.out.set (c := w.heap.size + 1) (k := 3) (by have := HZ.out; have := ZZ2.out; omega) (.slice poo PS.length poc)
  rw [hv4] at rRP
  have RPv := Lib.hid rRP
  clear rRP RP
  have KP4 := Lib.hid kp
  have KR4 := Lib.hid kr
  have BB4 := Lib.hid bw
  have ZZ4 := Lib.hid zz
  clear kp kr bw zz KP3 KR3 BB3
  go_wp2_with fail
  clear fr ce hv4
  refine (S1 v4).out.mono ?_
  rintro e u5 ⟨⟨noo, noc, rfl, rr, cc⟩, bb⟩
  have RN := Lib.hid rr
  have RBvuvu := Lib.hid (RBvuv.out.below bb)
  clear RBvuv
  have RPvu := Lib.hid (RPv.out.below bb)
  clear RPv
  have KP5 := Lib.hid (KP4.out.below bb)
  have KR5 := Lib.hid (KR4.out.below bb)
  have BB5 := Lib.hid (BB4.out.trans (bb.mono BB4.out.size))
  have ZZ5 := Lib.hid (Nat.le_trans ZZ4.out bb.size)
  clear rr bb cc KP4 KR4 BB4
  obtain ⟨e0, e1, e2, e3, e4, e5⟩ := cell6 KP5.out
  have ht1 : ((NS.length : Int) != 3) = true := by rw [bne_iff_ne]; omega
  clear t1
  have f0 := KR5.out.free 0
  have f1 := KR5.out.free 1
  have f2 := KR5.out.free 2
  have f3 := KR5.out.free 3
  have f4 := KR5.out.free 4
  have f5 := KR5.out.free 5
  obtain ⟨g0, g1, g2, g3, g4, g5⟩ := cell6 KR5.out
  go_wp2_with fail
  refine bodyPost_ret (v := .agg #[.int .i64 0, .int .i64 0, .int .i64 0, .slice none 0 0, .slice none 0 0, .int .i64 5]) (by simp [results, Tryd.results9, go_sem, g0, g1, g2, g3, g4, g5, f0, f1, f2, f3, f4, f5]) rfl ?_
  have hb6 := (((((BB5.out.setCell (p := ⟨w.heap.size, 0, none⟩) (by simp) (.int .i64 0)).setCell (p := ⟨w.heap.size, 1, none⟩) (by simp) (.int .i64 0)).setCell (p := ⟨w.heap.size, 2, none⟩) (by simp) (.int .i64 0)).setCell (p := ⟨w.heap.size, 3, none⟩) (by simp) (.slice none 0 0)).setCell (p := ⟨w.heap.size, 4, none⟩) (by simp) (.slice none 0 0)).setCell (p := ⟨w.heap.size, 5, none⟩) (by simp) (.int .i64 5)
  exact ⟨rfl, hb6⟩
set_option maxHeartbeats 64000000 in
set_option maxRecDepth 100000 in
theorem refparse_tt_pre (s : ByteArray) (x b x2 p : List UInt8) (NS PS BS : List ByteArray) (w : World) (hs : s.size ≤ 1000) (hc1 : cutL 43 s.data.toList = (x, b, true)) (hc2 : cutL 45 x = (x2, p, true)) (hNS : dotsOf x2 = NS) (hPS : dotsOf p = PS) (hBS : dotsOf b = BS) (t1 : NS.length = 3) (t2 : PS.all (synB true) = false) :
    Calls Tryd.prog 9 #[.string s] w fun e w' => e = .returned (refErr 5) ∧ Below w.heap.size w w' := by
  have c46 : ((46 : UInt8).toNat : Int) = 46 := rfl
  have F10 := fun w => find_any s 43 w (by omega)
  have hfc43 := find_cut 43 s.data.toList
  obtain ⟨kb, hk43, hl43, hcut43⟩ : ∃ k : Nat, findL 43 s.data.toList = k ∧ k < s.data.toList.length ∧ cutL 43 s.data.toList = (s.data.toList.take k, s.data.toList.drop (k + 1), true) := by
    rcases hfc43 with ⟨_, h2⟩ | h
    · rw [hc1] at h2; simp at h2
    · exact h
  rw [hc1] at hcut43
  simp only [Prod.mk.injEq, and_true] at hcut43
  have hl43 : kb < s.size := hl43
  obtain ⟨sb, hsb⟩ : ∃ t, s.extract (kb + 1) s.size = t := ⟨_, rfl⟩
  obtain ⟨sx, hsx⟩ : ∃ t, s.extract 0 kb = t := ⟨_, rfl⟩
  have dsb : sb.data.toList = b := by rw [← hsb, ext_full _ _ (by omega), ← hcut43.2]
  have dsx : sx.data.toList = x := by rw [← hsx, ext_head, ← hcut43.1]
  have zsb : sb.size ≤ 1000 := by rw [← hsb, ByteArray.size_extract]; omega
  have zsx : sx.size ≤ 1000 := by rw [← hsx, ByteArray.size_extract]; omega
  rw [hk43] at F10
  clear hk43 hcut43 hfc43
  have F1 := fun w => Lib.hid (F10 w)
  clear F10
  simp only [show ((43 : UInt8).toNat : Int) = 43 from rfl] at F1
  have hcx : cutL 45 sx.data.toList = (x2, p, true) := by rw [dsx]; exact hc2
  have F20 := fun w => find_any sx 45 w (by omega)
  have hfc45 := find_cut 45 sx.data.toList
  obtain ⟨kp, hk45, hl45, hcut45⟩ : ∃ k : Nat, findL 45 sx.data.toList = k ∧ k < sx.data.toList.length ∧ cutL 45 sx.data.toList = (sx.data.toList.take k, sx.data.toList.drop (k + 1), true) := by
    rcases hfc45 with ⟨_, h2⟩ | h
    · rw [hcx] at h2; simp at h2
    · exact h
  rw [hcx] at hcut45
  simp only [Prod.mk.injEq, and_true] at hcut45
  have hl45 : kp < sx.size := hl45
  obtain ⟨sp, hsp⟩ : ∃ t, sx.extract (kp + 1) sx.size = t := ⟨_, rfl⟩
  obtain ⟨sy, hsy⟩ : ∃ t, sx.extract 0 kp = t := ⟨_, rfl⟩
  have dsp : sp.data.toList = p := by rw [← hsp, ext_full _ _ (by omega), ← hcut45.2]
  have dsy : sy.data.toList = x2 := by rw [← hsy, ext_head, ← hcut45.1]
  have zsp : sp.size ≤ 1000 := by rw [← hsp, ByteArray.size_extract]; omega
  have zsy : sy.size ≤ 1000 := by rw [← hsy, ByteArray.size_extract]; omega
  rw [hk45] at F20
  clear hk45 hcut45 hfc45
  have F2 := fun w => Lib.hid (F20 w)
  clear F20
  simp only [show ((45 : UInt8).toNat : Int) = 45 from rfl] at F2
  have dcore : sy.data.toList = x2 := dsy
  have S1 := fun w => refsplit_any sy 46 w (by omega)
  rw [dcore, show partsOf 46 x2 = NS from hNS, c46] at S1
  have S1 := fun w => Lib.hid (S1 w)
  have S2 := fun w => refsplit_any sp 46 w (by omega)
  rw [dsp, show partsOf 46 p = PS from hPS, c46] at S2
  have S2 := fun w => Lib.hid (S2 w)
  have S3 := fun w => refsplit_any sb 46 w (by omega)
  rw [dsb, show partsOf 46 b = BS from hBS, c46] at S3
  have S3 := fun w => Lib.hid (S3 w)
  have lN := dots_len x2
  rw [hNS] at lN
  have zx2 : x2.length ≤ 1000 := by rw [← dcore]; show sy.size ≤ 1000; omega
  have zN := Lib.hid (show ∀ q ∈ NS, q.size ≤ 1000 from fun q hq => by have := lN.2 q hq; omega)
  have mN : NS.length ≤ 1001 := by have := lN.1; omega
  have lP := dots_len p
  rw [hPS] at lP
  have zp0 : p.length ≤ 1000 := by rw [← dsp]; show sp.size ≤ 1000; omega
  have zP := Lib.hid (show ∀ q ∈ PS, q.size ≤ 1000 from fun q hq => by have := lP.2 q hq; omega)
  have mP : PS.length ≤ 1001 := by have := lP.1; omega
  clear lP zp0 hPS
  have lB := dots_len b
  rw [hBS] at lB
  have zb0 : b.length ≤ 1000 := by rw [← dsb]; show sb.size ≤ 1000; omega
  have zB := Lib.hid (show ∀ q ∈ BS, q.size ≤ 1000 from fun q hq => by have := lB.2 q hq; omega)
  have mB : BS.length ≤ 1001 := by have := lB.1; omega
  clear lB zb0 hBS
  clear lN zx2 hNS c46 dcore hcx hc1 hc2 dsb dsx dsp dsy
  obtain ⟨wa, ha⟩ : ∃ wa, w.alloc (.cells #[.int .i64 0, .int .i64 0, .int .i64 0, .slice none 0 0, .slice none 0 0, .int .i64 0] 29) = wa := ⟨_, rfl⟩
  obtain ⟨k1, q1, z1⟩ := box_new ha
  go_enter Tryd.func9, Tryd.ntmps9
  go_wp2_with fail
  clear ha
  have bq : Below wa.heap.size wa (wa.alloc (.cells #[.int .i64 0, .int .i64 0, .int .i64 0, .slice none 0 0, .slice none 0 0, .int .i64 0] 29)) := (Below.refl _ _).alloc (Nat.le_refl _) _
  have k2 := BlockAt.new wa #[.int .i64 0, .int .i64 0, .int .i64 0, .slice none 0 0, .slice none 0 0, .int .i64 0] 29
  rw [z1] at k2
  have k1b := k1.below bq
  have bw := q1.trans (bq.mono q1.size)
  have zb1 : (wa.alloc (.cells #[.int .i64 0, .int .i64 0, .int .i64 0, .slice none 0 0, .slice none 0 0, .int .i64 0] 29)).heap.size = wa.heap.size + 1 := by simp
  generalize wa.alloc (.cells #[.int .i64 0, .int .i64 0, .int .i64 0, .slice none 0 0, .slice none 0 0, .int .i64 0] 29) = wb at *
  have KR0 := Lib.hid k1b
  have KP0 := Lib.hid k2
  have BB0 := Lib.hid bw
  have HZ := Lib.hid (And.intro z1 zb1)
  have ZZ0 := Lib.hid (Nat.le_refl wb.heap.size)
  clear bq k1 k2 k1b bw zb1 q1 z1
  refine (F1 wb).out.mono ?_
  rintro e w' ⟨rfl, rfl⟩
  go_wp2_with fail
  refine (S3 wb).out.mono ?_
  rintro e u1 ⟨⟨boo, boc, rfl, rr, cc⟩, bb⟩
  have RB := Lib.hid rr
  have KP1 := Lib.hid (KP0.out.below bb)
  have KR1 := Lib.hid (KR0.out.below bb)
  have BB1 := Lib.hid (BB0.out.trans (bb.mono BB0.out.size))
  have ZZ1 := Lib.hid (Nat.le_trans ZZ0.out bb.size)
  clear rr bb cc KP0 KR0 BB0
  obtain ⟨v2, hv2⟩ : ∃ v, u1.setCell ⟨w.heap.size + 1, 4, none⟩ (.slice boo BS.length boc) = v := ⟨_, rfl⟩
  have fr := KP1.out.free 4
  have ce := KP1.out.cell 4
  simp at ce
  have kp : BlockAt v2 (w.heap.size + 1) #[.int .i64 0, .int .i64 0, .int .i64 0, .slice none 0 0, .slice boo BS.length boc, .int .i64 0] 29 := by have h := KP1.out.set 4 (.slice boo BS.length boc); rw [hv2] at h; simpa using h
  have kr := KR1.out.other (c := w.heap.size + 1) (by have := HZ.out; omega) 4 (.slice boo BS.length boc)
  rw [hv2] at kr
  have bw : Below w.heap.size w v2 := by rw [← hv2]; exact BB1.out.setCell (by simp) _
  have zz : wb.heap.size ≤ v2.heap.size := by rw [← hv2]; simpa using ZZ1.out
  have rRB := RB.out.set (c := w.heap.size + 1) (k := 4) (by have := HZ.out; have := ZZ0.out; omega) (.slice boo BS.length boc)
  rw [hv2] at rRB
  have RBv := Lib.hid rRB
  clear rRB RB
  have KP2 := Lib.hid kp
  have KR2 := Lib.hid kr
  have BB2 := Lib.hid bw
  have ZZ2 := Lib.hid zz
  clear kp kr bw zz KP1 KR1 BB1
  go_wp2_with fail
  clear fr ce hv2
  refine (F2 v2).out.mono ?_
  rintro e w' ⟨rfl, rfl⟩
  go_wp2_with fail
  refine (S2 v2).out.mono ?_
  rintro e u3 ⟨⟨poo, poc, rfl, rr, cc⟩, bb⟩
  have RP := Lib.hid rr
  have RBvu := Lib.hid (RBv.out.below bb)
  clear RBv
  have KP3 := Lib.hid (KP2.out.below bb)
  have KR3 := Lib.hid (KR2.out.below bb)
  have BB3 := Lib.hid (BB2.out.trans (bb.mono BB2.out.size))
  have ZZ3 := Lib.hid (Nat.le_trans ZZ2.out bb.size)
  clear rr bb cc KP2 KR2 BB2
  obtain ⟨v4, hv4⟩ : ∃ v, u3.setCell ⟨w.heap.size + 1, 3, none⟩ (.slice poo PS.length poc) = v := ⟨_, rfl⟩
  have fr := KP3.out.free 3
  have ce := KP3.out.cell 3
  simp at ce
  have kp : BlockAt v4 (w.heap.size + 1) #[.int .i64 0, .int .i64 0, .int .i64 0, .slice poo PS.length poc, .slice boo BS.length boc, .int .i64 0] 29 := by have h := KP3.out.set 3 (.slice poo PS.length poc); rw [hv4] at h; simpa using h
  have kr := KR3.out.other (c := w.heap.size + 1) (by have := HZ.out; omega) 3 (.slice poo PS.length poc)
  rw [hv4] at kr
  have bw : Below w.heap.size w v4 := by rw [← hv4]; exact BB3.out.setCell (by simp) _
  have zz : wb.heap.size ≤ v4.heap.size := by rw [← hv4]; simpa using ZZ3.out
  have rRBvu := RBvu.out.set (c := w.heap.size + 1) (k := 3) (by have := HZ.out; have := ZZ0.out; omega) (.slice poo PS.length poc)
  rw [hv4] at rRBvu
  have RBvuv := Lib.hid rRBvu
  clear rRBvu RBvu
  have rRP := RP.out.set (c := w.heap.size + 1) (k := 3) (by have := HZ.out; have := ZZ2.out; omega) (.slice poo PS.length poc)
  rw [hv4] at rRP
  have RPv := Lib.hid rRP
  clear rRP RP
  have KP4 := Lib.hid kp
  have KR4 := Lib.hid kr
  have BB4 := Lib.hid bw
  have ZZ4 := Lib.hid zz
  clear kp kr bw zz KP3 KR3 BB3
  go_wp2_with fail
  clear fr ce hv4
  refine (S1 v4).out.mono ?_
  rintro e u5 ⟨⟨noo, noc, rfl, rr, cc⟩, bb⟩
  have RN := Lib.hid rr
  have RBvuvu := Lib.hid (RBvuv.out.below bb)
  clear RBvuv
  have RPvu := Lib.hid (RPv.out.below bb)
  clear RPv
  have KP5 := Lib.hid (KP4.out.below bb)
  have KR5 := Lib.hid (KR4.out.below bb)
  have BB5 := Lib.hid (BB4.out.trans (bb.mono BB4.out.size))
  have ZZ5 := Lib.hid (Nat.le_trans ZZ4.out bb.size)
  clear rr bb cc KP4 KR4 BB4
  obtain ⟨e0, e1, e2, e3, e4, e5⟩ := cell6 KP5.out
  have CP := syn_any poo poc PS true u5 RPvu.out.row zP.out mP
  rw [t2] at CP
  have CP := Lib.hid CP
  clear t2
  have ht1 : ((NS.length : Int) != 3) = false := by rw [bne_eq_false_iff_eq]; omega
  clear t1
  have f0 := KR5.out.free 0
  have f1 := KR5.out.free 1
  have f2 := KR5.out.free 2
  have f3 := KR5.out.free 3
  have f4 := KR5.out.free 4
  have f5 := KR5.out.free 5
  obtain ⟨g0, g1, g2, g3, g4, g5⟩ := cell6 KR5.out
  go_wp2_with fail
  refine CP.out.mono ?_
  rintro e w' ⟨rfl, rfl⟩
  go_wp2_with fail
  refine bodyPost_ret (v := .agg #[.int .i64 0, .int .i64 0, .int .i64 0, .slice none 0 0, .slice none 0 0, .int .i64 5]) (by simp [results, Tryd.results9, go_sem, g0, g1, g2, g3, g4, g5, f0, f1, f2, f3, f4, f5]) rfl ?_
  have hb6 := (((((BB5.out.setCell (p := ⟨w.heap.size, 0, none⟩) (by simp) (.int .i64 0)).setCell (p := ⟨w.heap.size, 1, none⟩) (by simp) (.int .i64 0)).setCell (p := ⟨w.heap.size, 2, none⟩) (by simp) (.int .i64 0)).setCell (p := ⟨w.heap.size, 3, none⟩) (by simp) (.slice none 0 0)).setCell (p := ⟨w.heap.size, 4, none⟩) (by simp) (.slice none 0 0)).setCell (p := ⟨w.heap.size, 5, none⟩) (by simp) (.int .i64 5)
  exact ⟨rfl, hb6⟩
set_option maxHeartbeats 64000000 in
set_option maxRecDepth 100000 in
theorem refparse_tt_bld (s : ByteArray) (x b x2 p : List UInt8) (NS PS BS : List ByteArray) (w : World) (hs : s.size ≤ 1000) (hc1 : cutL 43 s.data.toList = (x, b, true)) (hc2 : cutL 45 x = (x2, p, true)) (hNS : dotsOf x2 = NS) (hPS : dotsOf p = PS) (hBS : dotsOf b = BS) (t1 : NS.length = 3) (t2 : PS.all (synB true) = true) (t3 : BS.all (synB false) = false) :
    Calls Tryd.prog 9 #[.string s] w fun e w' => e = .returned (refErr 5) ∧ Below w.heap.size w w' := by
  have c46 : ((46 : UInt8).toNat : Int) = 46 := rfl
  have F10 := fun w => find_any s 43 w (by omega)
  have hfc43 := find_cut 43 s.data.toList
  obtain ⟨kb, hk43, hl43, hcut43⟩ : ∃ k : Nat, findL 43 s.data.toList = k ∧ k < s.data.toList.length ∧ cutL 43 s.data.toList = (s.data.toList.take k, s.data.toList.drop (k + 1), true) := by
    rcases hfc43 with ⟨_, h2⟩ | h
    · rw [hc1] at h2; simp at h2
    · exact h
  rw [hc1] at hcut43
  simp only [Prod.mk.injEq, and_true] at hcut43
  have hl43 : kb < s.size := hl43
  obtain ⟨sb, hsb⟩ : ∃ t, s.extract (kb + 1) s.size = t := ⟨_, rfl⟩
  obtain ⟨sx, hsx⟩ : ∃ t, s.extract 0 kb = t := ⟨_, rfl⟩
  have dsb : sb.data.toList = b := by rw [← hsb, ext_full _ _ (by omega), ← hcut43.2]
  have dsx : sx.data.toList = x := by rw [← hsx, ext_head, ← hcut43.1]
  have zsb : sb.size ≤ 1000 := by rw [← hsb, ByteArray.size_extract]; omega
  have zsx : sx.size ≤ 1000 := by rw [← hsx, ByteArray.size_extract]; omega
  rw [hk43] at F10
  clear hk43 hcut43 hfc43
  have F1 := fun w => Lib.hid (F10 w)
  clear F10
  simp only [show ((43 : UInt8).toNat : Int) = 43 from rfl] at F1
  have hcx : cutL 45 sx.data.toList = (x2, p, true) := by rw [dsx]; exact hc2
  have F20 := fun w => find_any sx 45 w (by omega)
  have hfc45 := find_cut 45 sx.data.toList
  obtain ⟨kp, hk45, hl45, hcut45⟩ : ∃ k : Nat, findL 45 sx.data.toList = k ∧ k < sx.data.toList.length ∧ cutL 45 sx.data.toList = (sx.data.toList.take k, sx.data.toList.drop (k + 1), true) := by
    rcases hfc45 with ⟨_, h2⟩ | h
    · rw [hcx] at h2; simp at h2
    · exact h
  rw [hcx] at hcut45
  simp only [Prod.mk.injEq, and_true] at hcut45
  have hl45 : kp < sx.size := hl45
  obtain ⟨sp, hsp⟩ : ∃ t, sx.extract (kp + 1) sx.size = t := ⟨_, rfl⟩
  obtain ⟨sy, hsy⟩ : ∃ t, sx.extract 0 kp = t := ⟨_, rfl⟩
  have dsp : sp.data.toList = p := by rw [← hsp, ext_full _ _ (by omega), ← hcut45.2]
  have dsy : sy.data.toList = x2 := by rw [← hsy, ext_head, ← hcut45.1]
  have zsp : sp.size ≤ 1000 := by rw [← hsp, ByteArray.size_extract]; omega
  have zsy : sy.size ≤ 1000 := by rw [← hsy, ByteArray.size_extract]; omega
  rw [hk45] at F20
  clear hk45 hcut45 hfc45
  have F2 := fun w => Lib.hid (F20 w)
  clear F20
  simp only [show ((45 : UInt8).toNat : Int) = 45 from rfl] at F2
  have dcore : sy.data.toList = x2 := dsy
  have S1 := fun w => refsplit_any sy 46 w (by omega)
  rw [dcore, show partsOf 46 x2 = NS from hNS, c46] at S1
  have S1 := fun w => Lib.hid (S1 w)
  have S2 := fun w => refsplit_any sp 46 w (by omega)
  rw [dsp, show partsOf 46 p = PS from hPS, c46] at S2
  have S2 := fun w => Lib.hid (S2 w)
  have S3 := fun w => refsplit_any sb 46 w (by omega)
  rw [dsb, show partsOf 46 b = BS from hBS, c46] at S3
  have S3 := fun w => Lib.hid (S3 w)
  have lN := dots_len x2
  rw [hNS] at lN
  have zx2 : x2.length ≤ 1000 := by rw [← dcore]; show sy.size ≤ 1000; omega
  have zN := Lib.hid (show ∀ q ∈ NS, q.size ≤ 1000 from fun q hq => by have := lN.2 q hq; omega)
  have mN : NS.length ≤ 1001 := by have := lN.1; omega
  have lP := dots_len p
  rw [hPS] at lP
  have zp0 : p.length ≤ 1000 := by rw [← dsp]; show sp.size ≤ 1000; omega
  have zP := Lib.hid (show ∀ q ∈ PS, q.size ≤ 1000 from fun q hq => by have := lP.2 q hq; omega)
  have mP : PS.length ≤ 1001 := by have := lP.1; omega
  clear lP zp0 hPS
  have lB := dots_len b
  rw [hBS] at lB
  have zb0 : b.length ≤ 1000 := by rw [← dsb]; show sb.size ≤ 1000; omega
  have zB := Lib.hid (show ∀ q ∈ BS, q.size ≤ 1000 from fun q hq => by have := lB.2 q hq; omega)
  have mB : BS.length ≤ 1001 := by have := lB.1; omega
  clear lB zb0 hBS
  clear lN zx2 hNS c46 dcore hcx hc1 hc2 dsb dsx dsp dsy
  obtain ⟨wa, ha⟩ : ∃ wa, w.alloc (.cells #[.int .i64 0, .int .i64 0, .int .i64 0, .slice none 0 0, .slice none 0 0, .int .i64 0] 29) = wa := ⟨_, rfl⟩
  obtain ⟨k1, q1, z1⟩ := box_new ha
  go_enter Tryd.func9, Tryd.ntmps9
  go_wp2_with fail
  clear ha
  have bq : Below wa.heap.size wa (wa.alloc (.cells #[.int .i64 0, .int .i64 0, .int .i64 0, .slice none 0 0, .slice none 0 0, .int .i64 0] 29)) := (Below.refl _ _).alloc (Nat.le_refl _) _
  have k2 := BlockAt.new wa #[.int .i64 0, .int .i64 0, .int .i64 0, .slice none 0 0, .slice none 0 0, .int .i64 0] 29
  rw [z1] at k2
  have k1b := k1.below bq
  have bw := q1.trans (bq.mono q1.size)
  have zb1 : (wa.alloc (.cells #[.int .i64 0, .int .i64 0, .int .i64 0, .slice none 0 0, .slice none 0 0, .int .i64 0] 29)).heap.size = wa.heap.size + 1 := by simp
  generalize wa.alloc (.cells #[.int .i64 0, .int .i64 0, .int .i64 0, .slice none 0 0, .slice none 0 0, .int .i64 0] 29) = wb at *
  have KR0 := Lib.hid k1b
  have KP0 := Lib.hid k2
  have BB0 := Lib.hid bw
  have HZ := Lib.hid (And.intro z1 zb1)
  have ZZ0 := Lib.hid (Nat.le_refl wb.heap.size)
  clear bq k1 k2 k1b bw zb1 q1 z1
  refine (F1 wb).out.mono ?_
  rintro e w' ⟨rfl, rfl⟩
  go_wp2_with fail
  refine (S3 wb).out.mono ?_
  rintro e u1 ⟨⟨boo, boc, rfl, rr, cc⟩, bb⟩
  have RB := Lib.hid rr
  have KP1 := Lib.hid (KP0.out.below bb)
  have KR1 := Lib.hid (KR0.out.below bb)
  have BB1 := Lib.hid (BB0.out.trans (bb.mono BB0.out.size))
  have ZZ1 := Lib.hid (Nat.le_trans ZZ0.out bb.size)
  clear rr bb cc KP0 KR0 BB0
  obtain ⟨v2, hv2⟩ : ∃ v, u1.setCell ⟨w.heap.size + 1, 4, none⟩ (.slice boo BS.length boc) = v := ⟨_, rfl⟩
  have fr := KP1.out.free 4
  have ce := KP1.out.cell 4
  simp at ce
  have kp : BlockAt v2 (w.heap.size + 1) #[.int .i64 0, .int .i64 0, .int .i64 0, .slice none 0 0, .slice boo BS.length boc, .int .i64 0] 29 := by have h := KP1.out.set 4 (.slice boo BS.length boc); rw [hv2] at h; simpa using h
  have kr := KR1.out.other (c := w.heap.size + 1) (by have := HZ.out; omega) 4 (.slice boo BS.length boc)
  rw [hv2] at kr
  have bw : Below w.heap.size w v2 := by rw [← hv2]; exact BB1.out.setCell (by simp) _
  have zz : wb.heap.size ≤ v2.heap.size := by rw [← hv2]; simpa using ZZ1.out
  have rRB := RB.out.set (c := w.heap.size + 1) (k := 4) (by have := HZ.out; have := ZZ0.out; omega) (.slice boo BS.length boc)
  rw [hv2] at rRB
  have RBv := Lib.hid rRB
  clear rRB RB
  have KP2 := Lib.hid kp
  have KR2 := Lib.hid kr
  have BB2 := Lib.hid bw
  have ZZ2 := Lib.hid zz
  clear kp kr bw zz KP1 KR1 BB1
  go_wp2_with fail
  clear fr ce hv2
  refine (F2 v2).out.mono ?_
  rintro e w' ⟨rfl, rfl⟩
  go_wp2_with fail
  refine (S2 v2).out.mono ?_
  rintro e u3 ⟨⟨poo, poc, rfl, rr, cc⟩, bb⟩
  have RP := Lib.hid rr
  have RBvu := Lib.hid (RBv.out.below bb)
  clear RBv
  have KP3 := Lib.hid (KP2.out.below bb)
  have KR3 := Lib.hid (KR2.out.below bb)
  have BB3 := Lib.hid (BB2.out.trans (bb.mono BB2.out.size))
  have ZZ3 := Lib.hid (Nat.le_trans ZZ2.out bb.size)
  clear rr bb cc KP2 KR2 BB2
  obtain ⟨v4, hv4⟩ : ∃ v, u3.setCell ⟨w.heap.size + 1, 3, none⟩ (.slice poo PS.length poc) = v := ⟨_, rfl⟩
  have fr := KP3.out.free 3
  have ce := KP3.out.cell 3
  simp at ce
  have kp : BlockAt v4 (w.heap.size + 1) #[.int .i64 0, .int .i64 0, .int .i64 0, .slice poo PS.length poc, .slice boo BS.length boc, .int .i64 0] 29 := by have h := KP3.out.set 3 (.slice poo PS.length poc); rw [hv4] at h; simpa using h
  have kr := KR3.out.other (c := w.heap.size + 1) (by have := HZ.out; omega) 3 (.slice poo PS.length poc)
  rw [hv4] at kr
  have bw : Below w.heap.size w v4 := by rw [← hv4]; exact BB3.out.setCell (by simp) _
  have zz : wb.heap.size ≤ v4.heap.size := by rw [← hv4]; simpa using ZZ3.out
  have rRBvu := RBvu.out.set (c := w.heap.size + 1) (k := 3) (by have := HZ.out; have := ZZ0.out; omega) (.slice poo PS.length poc)
  rw [hv4] at rRBvu
  have RBvuv := Lib.hid rRBvu
  clear rRBvu RBvu
  have rRP := RP.out.set (c := w.heap.size + 1) (k := 3) (by have := HZ.out; have := ZZ2.out; omega) (.slice poo PS.length poc)
  rw [hv4] at rRP
  have RPv := Lib.hid rRP
  clear rRP RP
  have KP4 := Lib.hid kp
  have KR4 := Lib.hid kr
  have BB4 := Lib.hid bw
  have ZZ4 := Lib.hid zz
  clear kp kr bw zz KP3 KR3 BB3
  go_wp2_with fail
  clear fr ce hv4
  refine (S1 v4).out.mono ?_
  rintro e u5 ⟨⟨noo, noc, rfl, rr, cc⟩, bb⟩
  have RN := Lib.hid rr
  have RBvuvu := Lib.hid (RBvuv.out.below bb)
  clear RBvuv
  have RPvu := Lib.hid (RPv.out.below bb)
  clear RPv
  have KP5 := Lib.hid (KP4.out.below bb)
  have KR5 := Lib.hid (KR4.out.below bb)
  have BB5 := Lib.hid (BB4.out.trans (bb.mono BB4.out.size))
  have ZZ5 := Lib.hid (Nat.le_trans ZZ4.out bb.size)
  clear rr bb cc KP4 KR4 BB4
  obtain ⟨e0, e1, e2, e3, e4, e5⟩ := cell6 KP5.out
  have CP := syn_any poo poc PS true u5 RPvu.out.row zP.out mP
  rw [t2] at CP
  have CP := Lib.hid CP
  clear t2
  have CB := syn_any boo boc BS false u5 RBvuvu.out.row zB.out mB
  rw [t3] at CB
  have CB := Lib.hid CB
  clear t3
  have ht1 : ((NS.length : Int) != 3) = false := by rw [bne_eq_false_iff_eq]; omega
  clear t1
  have f0 := KR5.out.free 0
  have f1 := KR5.out.free 1
  have f2 := KR5.out.free 2
  have f3 := KR5.out.free 3
  have f4 := KR5.out.free 4
  have f5 := KR5.out.free 5
  obtain ⟨g0, g1, g2, g3, g4, g5⟩ := cell6 KR5.out
  go_wp2_with fail
  refine CP.out.mono ?_
  rintro e w' ⟨rfl, rfl⟩
  go_wp2_with fail
  refine CB.out.mono ?_
  rintro e w' ⟨rfl, rfl⟩
  go_wp2_with fail
  refine bodyPost_ret (v := .agg #[.int .i64 0, .int .i64 0, .int .i64 0, .slice none 0 0, .slice none 0 0, .int .i64 5]) (by simp [results, Tryd.results9, go_sem, g0, g1, g2, g3, g4, g5, f0, f1, f2, f3, f4, f5]) rfl ?_
  have hb6 := (((((BB5.out.setCell (p := ⟨w.heap.size, 0, none⟩) (by simp) (.int .i64 0)).setCell (p := ⟨w.heap.size, 1, none⟩) (by simp) (.int .i64 0)).setCell (p := ⟨w.heap.size, 2, none⟩) (by simp) (.int .i64 0)).setCell (p := ⟨w.heap.size, 3, none⟩) (by simp) (.slice none 0 0)).setCell (p := ⟨w.heap.size, 4, none⟩) (by simp) (.slice none 0 0)).setCell (p := ⟨w.heap.size, 5, none⟩) (by simp) (.int .i64 5)
  exact ⟨rfl, hb6⟩
set_option maxHeartbeats 64000000 in
set_option maxRecDepth 100000 in
theorem refparse_tt_main (s : ByteArray) (x b x2 p : List UInt8) (NS PS BS : List ByteArray) (w : World) (hs : s.size ≤ 1000) (hc1 : cutL 43 s.data.toList = (x, b, true)) (hc2 : cutL 45 x = (x2, p, true)) (hNS : dotsOf x2 = NS) (hPS : dotsOf p = PS) (hBS : dotsOf b = BS) (na nb nc : ByteArray) (t1 : NS = [na, nb, nc]) (t2 : PS.all (synB true) = true) (t3 : BS.all (synB false) = true) :
    Calls Tryd.prog 9 #[.string s] w (RefM w na nb nc PS BS) := by
  have c46 : ((46 : UInt8).toNat : Int) = 46 := rfl
  have F10 := fun w => find_any s 43 w (by omega)
  have hfc43 := find_cut 43 s.data.toList
  obtain ⟨kb, hk43, hl43, hcut43⟩ : ∃ k : Nat, findL 43 s.data.toList = k ∧ k < s.data.toList.length ∧ cutL 43 s.data.toList = (s.data.toList.take k, s.data.toList.drop (k + 1), true) := by
    rcases hfc43 with ⟨_, h2⟩ | h
    · rw [hc1] at h2; simp at h2
    · exact h
  rw [hc1] at hcut43
  simp only [Prod.mk.injEq, and_true] at hcut43
  have hl43 : kb < s.size := hl43
  obtain ⟨sb, hsb⟩ : ∃ t, s.extract (kb + 1) s.size = t := ⟨_, rfl⟩
  obtain ⟨sx, hsx⟩ : ∃ t, s.extract 0 kb = t := ⟨_, rfl⟩
  have dsb : sb.data.toList = b := by rw [← hsb, ext_full _ _ (by omega), ← hcut43.2]
  have dsx : sx.data.toList = x := by rw [← hsx, ext_head, ← hcut43.1]
  have zsb : sb.size ≤ 1000 := by rw [← hsb, ByteArray.size_extract]; omega
  have zsx : sx.size ≤ 1000 := by rw [← hsx, ByteArray.size_extract]; omega
  rw [hk43] at F10
  clear hk43 hcut43 hfc43
  have F1 := fun w => Lib.hid (F10 w)
  clear F10
  simp only [show ((43 : UInt8).toNat : Int) = 43 from rfl] at F1
  have hcx : cutL 45 sx.data.toList = (x2, p, true) := by rw [dsx]; exact hc2
  have F20 := fun w => find_any sx 45 w (by omega)
  have hfc45 := find_cut 45 sx.data.toList
  obtain ⟨kp, hk45, hl45, hcut45⟩ : ∃ k : Nat, findL 45 sx.data.toList = k ∧ k < sx.data.toList.length ∧ cutL 45 sx.data.toList = (sx.data.toList.take k, sx.data.toList.drop (k + 1), true) := by
    rcases hfc45 with ⟨_, h2⟩ | h
    · rw [hcx] at h2; simp at h2
    · exact h
  rw [hcx] at hcut45
  simp only [Prod.mk.injEq, and_true] at hcut45
  have hl45 : kp < sx.size := hl45
  obtain ⟨sp, hsp⟩ : ∃ t, sx.extract (kp + 1) sx.size = t := ⟨_, rfl⟩
  obtain ⟨sy, hsy⟩ : ∃ t, sx.extract 0 kp = t := ⟨_, rfl⟩
  have dsp : sp.data.toList = p := by rw [← hsp, ext_full _ _ (by omega), ← hcut45.2]
  have dsy : sy.data.toList = x2 := by rw [← hsy, ext_head, ← hcut45.1]
  have zsp : sp.size ≤ 1000 := by rw [← hsp, ByteArray.size_extract]; omega
  have zsy : sy.size ≤ 1000 := by rw [← hsy, ByteArray.size_extract]; omega
  rw [hk45] at F20
  clear hk45 hcut45 hfc45
  have F2 := fun w => Lib.hid (F20 w)
  clear F20
  simp only [show ((45 : UInt8).toNat : Int) = 45 from rfl] at F2
  have dcore : sy.data.toList = x2 := dsy
  have S1 := fun w => refsplit_any sy 46 w (by omega)
  rw [dcore, show partsOf 46 x2 = NS from hNS, c46] at S1
  have S1 := fun w => Lib.hid (S1 w)
  have S2 := fun w => refsplit_any sp 46 w (by omega)
  rw [dsp, show partsOf 46 p = PS from hPS, c46] at S2
  have S2 := fun w => Lib.hid (S2 w)
  have S3 := fun w => refsplit_any sb 46 w (by omega)
  rw [dsb, show partsOf 46 b = BS from hBS, c46] at S3
  have S3 := fun w => Lib.hid (S3 w)
  have lN := dots_len x2
  rw [hNS] at lN
  have zx2 : x2.length ≤ 1000 := by rw [← dcore]; show sy.size ≤ 1000; omega
  have zN := Lib.hid (show ∀ q ∈ NS, q.size ≤ 1000 from fun q hq => by have := lN.2 q hq; omega)
  have mN : NS.length ≤ 1001 := by have := lN.1; omega
  have lP := dots_len p
  rw [hPS] at lP
  have zp0 : p.length ≤ 1000 := by rw [← dsp]; show sp.size ≤ 1000; omega
  have zP := Lib.hid (show ∀ q ∈ PS, q.size ≤ 1000 from fun q hq => by have := lP.2 q hq; omega)
  have mP : PS.length ≤ 1001 := by have := lP.1; omega
  clear lP zp0 hPS
  have lB := dots_len b
  rw [hBS] at lB
  have zb0 : b.length ≤ 1000 := by rw [← dsb]; show sb.size ≤ 1000; omega
  have zB := Lib.hid (show ∀ q ∈ BS, q.size ≤ 1000 from fun q hq => by have := lB.2 q hq; omega)
  have mB : BS.length ≤ 1001 := by have := lB.1; omega
  clear lB zb0 hBS
  clear lN zx2 hNS c46 dcore hcx hc1 hc2 dsb dsx dsp dsy
  obtain ⟨wa, ha⟩ : ∃ wa, w.alloc (.cells #[.int .i64 0, .int .i64 0, .int .i64 0, .slice none 0 0, .slice none 0 0, .int .i64 0] 29) = wa := ⟨_, rfl⟩
  obtain ⟨k1, q1, z1⟩ := box_new ha
  go_enter Tryd.func9, Tryd.ntmps9
  go_wp2_with fail
  clear ha
  have bq : Below wa.heap.size wa (wa.alloc (.cells #[.int .i64 0, .int .i64 0, .int .i64 0, .slice none 0 0, .slice none 0 0, .int .i64 0] 29)) := (Below.refl _ _).alloc (Nat.le_refl _) _
  have k2 := BlockAt.new wa #[.int .i64 0, .int .i64 0, .int .i64 0, .slice none 0 0, .slice none 0 0, .int .i64 0] 29
  rw [z1] at k2
  have k1b := k1.below bq
  have bw := q1.trans (bq.mono q1.size)
  have zb1 : (wa.alloc (.cells #[.int .i64 0, .int .i64 0, .int .i64 0, .slice none 0 0, .slice none 0 0, .int .i64 0] 29)).heap.size = wa.heap.size + 1 := by simp
  generalize wa.alloc (.cells #[.int .i64 0, .int .i64 0, .int .i64 0, .slice none 0 0, .slice none 0 0, .int .i64 0] 29) = wb at *
  have KR0 := Lib.hid k1b
  have KP0 := Lib.hid k2
  have BB0 := Lib.hid bw
  have HZ := Lib.hid (And.intro z1 zb1)
  have ZZ0 := Lib.hid (Nat.le_refl wb.heap.size)
  clear bq k1 k2 k1b bw zb1 q1 z1
  refine (F1 wb).out.mono ?_
  rintro e w' ⟨rfl, rfl⟩
  go_wp2_with fail
  refine (S3 wb).out.mono ?_
  rintro e u1 ⟨⟨boo, boc, rfl, rr, cc⟩, bb⟩
  have RB := Lib.hid rr
  have KP1 := Lib.hid (KP0.out.below bb)
  have KR1 := Lib.hid (KR0.out.below bb)
  have BB1 := Lib.hid (BB0.out.trans (bb.mono BB0.out.size))
  have ZZ1 := Lib.hid (Nat.le_trans ZZ0.out bb.size)
  clear rr bb cc KP0 KR0 BB0
  obtain ⟨v2, hv2⟩ : ∃ v, u1.setCell ⟨w.heap.size + 1, 4, none⟩ (.slice boo BS.length boc) = v := ⟨_, rfl⟩
  have fr := KP1.out.free 4
  have ce := KP1.out.cell 4
  simp at ce
  have kp : BlockAt v2 (w.heap.size + 1) #[.int .i64 0, .int .i64 0, .int .i64 0, .slice none 0 0, .slice boo BS.length boc, .int .i64 0] 29 := by have h := KP1.out.set 4 (.slice boo BS.length boc); rw [hv2] at h; simpa using h
  have kr := KR1.out.other (c := w.heap.size + 1) (by have := HZ.out; omega) 4 (.slice boo BS.length boc)
  rw [hv2] at kr
  have bw : Below w.heap.size w v2 := by rw [← hv2]; exact BB1.out.setCell (by simp) _
  have zz : wb.heap.size ≤ v2.heap.size := by rw [← hv2]; simpa using ZZ1.out
  have rRB := RB.out.set (c := w.heap.size + 1) (k := 4) (by have := HZ.out; have := ZZ0.out; omega) (.slice boo BS.length boc)
  rw [hv2] at rRB
  have RBv := Lib.hid rRB
  clear rRB RB
  have KP2 := Lib.hid kp
  have KR2 := Lib.hid kr
  have BB2 := Lib.hid bw
  have ZZ2 := Lib.hid zz
  clear kp kr bw zz KP1 KR1 BB1
  go_wp2_with fail
  clear fr ce hv2
  refine (F2 v2).out.mono ?_
  rintro e w' ⟨rfl, rfl⟩
  go_wp2_with fail
  refine (S2 v2).out.mono ?_
  rintro e u3 ⟨⟨poo, poc, rfl, rr, cc⟩, bb⟩
  have RP := Lib.hid rr
  have RBvu := Lib.hid (RBv.out.below bb)
  clear RBv
  have KP3 := Lib.hid (KP2.out.below bb)
  have KR3 := Lib.hid (KR2.out.below bb)
  have BB3 := Lib.hid (BB2.out.trans (bb.mono BB2.out.size))
  have ZZ3 := Lib.hid (Nat.le_trans ZZ2.out bb.size)
  clear rr bb cc KP2 KR2 BB2
  obtain ⟨v4, hv4⟩ : ∃ v, u3.setCell ⟨w.heap.size + 1, 3, none⟩ (.slice poo PS.length poc) = v := ⟨_, rfl⟩
  have fr := KP3.out.free 3
  have ce := KP3.out.cell 3
  simp at ce
  have kp : BlockAt v4 (w.heap.size + 1) #[.int .i64 0, .int .i64 0, .int .i64 0, .slice poo PS.length poc, .slice boo BS.length boc, .int .i64 0] 29 := by have h := KP3.out.set 3 (.slice poo PS.length poc); rw [hv4] at h; simpa using h
  have kr := KR3.out.other (c := w.heap.size + 1) (by have := HZ.out; omega) 3 (.slice poo PS.length poc)
  rw [hv4] at kr
  have bw : Below w.heap.size w v4 := by rw [← hv4]; exact BB3.out.setCell (by simp) _
  have zz : wb.heap.size ≤ v4.heap.size := by rw [← hv4]; simpa using ZZ3.out
  have rRBvu := RBvu.out.set (c := w.heap.size + 1) (k := 3) (by have := HZ.out; have := ZZ0.out; omega) (.slice poo PS.length poc)
  rw [hv4] at rRBvu
  have RBvuv := Lib.hid rRBvu
  clear rRBvu RBvu
  have rRP := RP.out.set (c := w.heap.size + 1) (k := 3) (by have := HZ.out; have := ZZ2.out; omega) (.slice poo PS.length poc)
  rw [hv4] at rRP
  have RPv := Lib.hid rRP
  clear rRP RP
  have KP4 := Lib.hid kp
  have KR4 := Lib.hid kr
  have BB4 := Lib.hid bw
  have ZZ4 := Lib.hid zz
  clear kp kr bw zz KP3 KR3 BB3
  go_wp2_with fail
  clear fr ce hv4
  refine (S1 v4).out.mono ?_
  rintro e u5 ⟨⟨noo, noc, rfl, rr, cc⟩, bb⟩
  have RN := Lib.hid rr
  have RBvuvu := Lib.hid (RBvuv.out.below bb)
  clear RBvuv
  have RPvu := Lib.hid (RPv.out.below bb)
  clear RPv
  have KP5 := Lib.hid (KP4.out.below bb)
  have KR5 := Lib.hid (KR4.out.below bb)
  have BB5 := Lib.hid (BB4.out.trans (bb.mono BB4.out.size))
  have ZZ5 := Lib.hid (Nat.le_trans ZZ4.out bb.size)
  clear rr bb cc KP4 KR4 BB4
  obtain ⟨e0, e1, e2, e3, e4, e5⟩ := cell6 KP5.out
  have CP := syn_any poo poc PS true u5 RPvu.out.row zP.out mP
  rw [t2] at CP
  have CP := Lib.hid CP
  clear t2
  have CB := syn_any boo boc BS false u5 RBvuvu.out.row zB.out mB
  rw [t3] at CB
  have CB := Lib.hid CB
  clear t3
  subst t1
  obtain ⟨nnb, nof, rfl, hnb0, hnb, hnc⟩ := RN.out.cellsN (by simp)
  have HNB := Lib.hid hnb0
  clear hnb0
  have n0 := hnc 0 (by simp)
  have n1 := hnc 1 (by simp)
  have n2 := hnc 2 (by simp)
  simp only [Nat.add_zero, List.getElem_cons_zero, List.getElem_cons_succ] at n0 n1 n2
  have HNC := Lib.hid hnc
  clear hnb hnc
  have N012 := Lib.hid (And.intro n0 (And.intro n1 n2))
  clear n0 n1 n2
  go_wp2_with fail
  refine CP.out.mono ?_
  rintro e w' ⟨rfl, rfl⟩
  go_wp2_with fail
  refine CB.out.mono ?_
  rintro e w' ⟨rfl, rfl⟩
  go_wp2_with fail
  clear e0 e1 e2 e3 e4 e5
  go_loop [66] (fun i => ∃ k : Nat, k ≤ 3 ∧ i = .int .i64 k ∧ Hid (∀ j (hj : j < ([na, nb, nc] : List ByteArray).length), j < k → isnumB ([na, nb, nc] : List ByteArray)[j] = true)) (fun i => 3 - (intOf i).toNat)
  case atStart => exact ⟨0, Nat.zero_le _, rfl, Lib.hid (fun j _ hj => absurd hj (Nat.not_lt_zero _))⟩
  case round =>
    obtain ⟨k, hk, rfl, Hok⟩ := hrel
    by_cases hlt : k < 3
    · have hlt2 : k < ([na, nb, nc] : List ByteArray).length := hlt
      have hck := HNC.out k hlt2
      have hsz := zN.out _ (List.getElem_mem hlt2)
      obtain ⟨q, hq⟩ : ∃ s, ([na, nb, nc] : List ByteArray)[k] = s := ⟨_, rfl⟩
      have HQ := Lib.hid hq
      rw [hq] at hck hsz
      clear hq
      have HI := Lib.hid (refnumber_any q u5 (by omega))
      cases hi : isnumB q <;> rw [hi] at HI <;> have HIV := Lib.hid hi <;> clear hi
      · skip
        have HM := Lib.hid (show mainE [na, nb, nc] PS BS = 5 from main5 (any_yes hlt2 (by rw [HQ.out]; unfold badNum; rw [HIV.out]; rfl)))
        go_wp2_with fail
        refine HI.out.mono ?_
        rintro e w' ⟨rfl, rfl⟩
        have f0 := KR5.out.free 0
        have f1 := KR5.out.free 1
        have f2 := KR5.out.free 2
        have f3 := KR5.out.free 3
        have f4 := KR5.out.free 4
        have f5 := KR5.out.free 5
        obtain ⟨g0, g1, g2, g3, g4, g5⟩ := cell6 KR5.out
        go_wp2_with fail
        refine bodyPost_ret (v := .agg #[.int .i64 0, .int .i64 0, .int .i64 0, .slice none 0 0, .slice none 0 0, .int .i64 5]) (by simp [results, Tryd.results9, go_sem, g0, g1, g2, g3, g4, g5, f0, f1, f2, f3, f4, f5]) rfl ?_
        have hb6 := (((((BB5.out.setCell (p := ⟨w.heap.size, 0, none⟩) (by simp) (.int .i64 0)).setCell (p := ⟨w.heap.size, 1, none⟩) (by simp) (.int .i64 0)).setCell (p := ⟨w.heap.size, 2, none⟩) (by simp) (.int .i64 0)).setCell (p := ⟨w.heap.size, 3, none⟩) (by simp) (.slice none 0 0)).setCell (p := ⟨w.heap.size, 4, none⟩) (by simp) (.slice none 0 0)).setCell (p := ⟨w.heap.size, 5, none⟩) (by simp) (.int .i64 5)
        exact ⟨hb6, .inl ⟨by rw [HM.out]; decide, by rw [HM.out]; rfl⟩⟩
      · have Hx := Lib.hid (show ∀ j (hj : j < ([na, nb, nc] : List ByteArray).length), j < k + 1 → isnumB ([na, nb, nc] : List ByteArray)[j] = true from fun j hj hjk => by
          rcases Nat.lt_or_eq_of_le (Nat.le_of_lt_succ hjk) with h1 | h1
          · exact Hok.out j hj h1
          · subst h1; rw [HQ.out]; exact HIV.out)
        go_wp2_with fail
        refine HI.out.mono ?_
        rintro e w' ⟨rfl, rfl⟩
        go_wp2_with fail
        go_round
        case rel => first | exact ⟨k + 1, by omega, by go_num, Hx⟩ | ((repeat apply Exists.intro); exact ⟨⟨k + 1, by omega, by go_num, Hx⟩, rfl⟩)
        case measure => simp [intOf]; omega
    · obtain rfl : k = 3 := by omega
      have HB5 := Lib.hid (show [na, nb, nc].any badNum = false from any_no (fun j hj => by unfold badNum; rw [Hok.out j hj hj]; rfl))
      have HNUM := Lib.hid (And.intro (Hok.out 0 (by simp) (by decide)) (And.intro (Hok.out 1 (by simp) (by decide)) (Hok.out 2 (by simp) (by decide))))
      clear Hok
      have L1 := lengthy_any poo poc PS u5 RPvu.out.row zP.out mP
      have L2 := lengthy_any boo boc BS u5 RBvuvu.out.row zB.out mB
      obtain ⟨e0, e1, e2, e3, e4, e5⟩ := cell6 KP5.out
      cases hf1 : fewB PS <;> rw [hf1] at L1 <;> have HF1 := Lib.hid hf1 <;> clear hf1
      · have HL1 := Lib.hid L1
        have HM := Lib.hid (show mainE [na, nb, nc] PS BS = 7 from main7 HB5.out (by rw [HF1.out]; rfl))
        clear L1 L2
        go_wp2_with fail
        refine HL1.out.mono ?_
        rintro e w' ⟨rfl, rfl⟩
        have f0 := KR5.out.free 0
        have f1 := KR5.out.free 1
        have f2 := KR5.out.free 2
        have f3 := KR5.out.free 3
        have f4 := KR5.out.free 4
        have f5 := KR5.out.free 5
        obtain ⟨g0, g1, g2, g3, g4, g5⟩ := cell6 KR5.out
        go_wp2_with fail
        refine bodyPost_ret (v := .agg #[.int .i64 0, .int .i64 0, .int .i64 0, .slice none 0 0, .slice none 0 0, .int .i64 7]) (by simp [results, Tryd.results9, go_sem, g0, g1, g2, g3, g4, g5, f0, f1, f2, f3, f4, f5]) rfl ?_
        have hb6 := (((((BB5.out.setCell (p := ⟨w.heap.size, 0, none⟩) (by simp) (.int .i64 0)).setCell (p := ⟨w.heap.size, 1, none⟩) (by simp) (.int .i64 0)).setCell (p := ⟨w.heap.size, 2, none⟩) (by simp) (.int .i64 0)).setCell (p := ⟨w.heap.size, 3, none⟩) (by simp) (.slice none 0 0)).setCell (p := ⟨w.heap.size, 4, none⟩) (by simp) (.slice none 0 0)).setCell (p := ⟨w.heap.size, 5, none⟩) (by simp) (.int .i64 7)
        exact ⟨hb6, .inl ⟨by rw [HM.out]; decide, by rw [HM.out]; rfl⟩⟩
      cases hf2 : fewB BS <;> rw [hf2] at L2 <;> have HF2 := Lib.hid hf2 <;> clear hf2
      · have HL1 := Lib.hid L1
        have HL2 := Lib.hid L2
        have HM := Lib.hid (show mainE [na, nb, nc] PS BS = 7 from main7 HB5.out (by first | (rw [HF1.out, HF2.out]; rfl) | (rw [HF2.out]; rfl) | (have a := HF1.out; rw [HF2.out] at a; cases a)))
        clear L1 L2
        go_wp2_with fail
        refine HL1.out.mono ?_
        rintro e w' ⟨rfl, rfl⟩
        go_wp2_with fail
        refine HL2.out.mono ?_
        rintro e w' ⟨rfl, rfl⟩
        have f0 := KR5.out.free 0
        have f1 := KR5.out.free 1
        have f2 := KR5.out.free 2
        have f3 := KR5.out.free 3
        have f4 := KR5.out.free 4
        have f5 := KR5.out.free 5
        obtain ⟨g0, g1, g2, g3, g4, g5⟩ := cell6 KR5.out
        go_wp2_with fail
        refine bodyPost_ret (v := .agg #[.int .i64 0, .int .i64 0, .int .i64 0, .slice none 0 0, .slice none 0 0, .int .i64 7]) (by simp [results, Tryd.results9, go_sem, g0, g1, g2, g3, g4, g5, f0, f1, f2, f3, f4, f5]) rfl ?_
        have hb6 := (((((BB5.out.setCell (p := ⟨w.heap.size, 0, none⟩) (by simp) (.int .i64 0)).setCell (p := ⟨w.heap.size, 1, none⟩) (by simp) (.int .i64 0)).setCell (p := ⟨w.heap.size, 2, none⟩) (by simp) (.int .i64 0)).setCell (p := ⟨w.heap.size, 3, none⟩) (by simp) (.slice none 0 0)).setCell (p := ⟨w.heap.size, 4, none⟩) (by simp) (.slice none 0 0)).setCell (p := ⟨w.heap.size, 5, none⟩) (by simp) (.int .i64 7)
        exact ⟨hb6, .inl ⟨by rw [HM.out]; decide, by rw [HM.out]; rfl⟩⟩
      have HL1 := Lib.hid L1
      have HL2 := Lib.hid L2
      have HF := Lib.hid (And.intro HF1.out HF2.out)
      clear L1 L2
      go_wp2_with fail
      refine HL1.out.mono ?_
      rintro e w' ⟨rfl, rfl⟩
      go_wp2_with fail
      refine HL2.out.mono ?_
      rintro e w' ⟨rfl, rfl⟩
      go_wp2_with fail
      clear e0 e1 e2 e3 e4 e5
      go_loop [88] (fun i => ∃ k : Nat, k ≤ 3 ∧ i = .int .i64 k ∧ Hid (∀ j (hj : j < ([na, nb, nc] : List ByteArray).length), j < k → greatB ([na, nb, nc] : List ByteArray)[j] = false)) (fun i => 3 - (intOf i).toNat)
      case atStart => exact ⟨0, Nat.zero_le _, rfl, Lib.hid (fun j _ hj => absurd hj (Nat.not_lt_zero _))⟩
      case round =>
        obtain ⟨k, hk, rfl, Hok⟩ := hrel
        by_cases hlt : k < 3
        · have hlt2 : k < ([na, nb, nc] : List ByteArray).length := hlt
          have hck := HNC.out k hlt2
          have hsz := zN.out _ (List.getElem_mem hlt2)
          obtain ⟨q, hq⟩ : ∃ s, ([na, nb, nc] : List ByteArray)[k] = s := ⟨_, rfl⟩
          have HQ := Lib.hid hq
          rw [hq] at hck hsz
          clear hq
          have HI := Lib.hid (great_any q u5 (by omega))
          cases hi : greatB q <;> rw [hi] at HI <;> have HIV := Lib.hid hi <;> clear hi
          · have Hx := Lib.hid (show ∀ j (hj : j < ([na, nb, nc] : List ByteArray).length), j < k + 1 → greatB ([na, nb, nc] : List ByteArray)[j] = false from fun j hj hjk => by
              rcases Nat.lt_or_eq_of_le (Nat.le_of_lt_succ hjk) with h1 | h1
              · exact Hok.out j hj h1
              · subst h1; rw [HQ.out]; exact HIV.out)
            go_wp2_with fail
            refine HI.out.mono ?_
            rintro e w' ⟨rfl, rfl⟩
            go_wp2_with fail
            go_round
            case rel => first | exact ⟨k + 1, by omega, by go_num, Hx⟩ | ((repeat apply Exists.intro); exact ⟨⟨k + 1, by omega, by go_num, Hx⟩, rfl⟩)
            case measure => simp [intOf]; omega
          · skip
            have HM := Lib.hid (show mainE [na, nb, nc] PS BS = 2 from main2a HB5.out HF.out (any_yes hlt2 (by rw [HQ.out]; exact HIV.out)))
            go_wp2_with fail
            refine HI.out.mono ?_
            rintro e w' ⟨rfl, rfl⟩
            have f0 := KR5.out.free 0
            have f1 := KR5.out.free 1
            have f2 := KR5.out.free 2
            have f3 := KR5.out.free 3
            have f4 := KR5.out.free 4
            have f5 := KR5.out.free 5
            obtain ⟨g0, g1, g2, g3, g4, g5⟩ := cell6 KR5.out
            go_wp2_with fail
            refine bodyPost_ret (v := .agg #[.int .i64 0, .int .i64 0, .int .i64 0, .slice none 0 0, .slice none 0 0, .int .i64 2]) (by simp [results, Tryd.results9, go_sem, g0, g1, g2, g3, g4, g5, f0, f1, f2, f3, f4, f5]) rfl ?_
            have hb6 := (((((BB5.out.setCell (p := ⟨w.heap.size, 0, none⟩) (by simp) (.int .i64 0)).setCell (p := ⟨w.heap.size, 1, none⟩) (by simp) (.int .i64 0)).setCell (p := ⟨w.heap.size, 2, none⟩) (by simp) (.int .i64 0)).setCell (p := ⟨w.heap.size, 3, none⟩) (by simp) (.slice none 0 0)).setCell (p := ⟨w.heap.size, 4, none⟩) (by simp) (.slice none 0 0)).setCell (p := ⟨w.heap.size, 5, none⟩) (by simp) (.int .i64 2)
            exact ⟨hb6, .inl ⟨by rw [HM.out]; decide, by rw [HM.out]; rfl⟩⟩
        · obtain rfl : k = 3 := by omega
          have HG0 := Lib.hid (show [na, nb, nc].any greatB = false from any_no (fun j hj => Hok.out j hj hj))
          have HGR := Lib.hid (And.intro (Hok.out 0 (by simp) (by decide)) (And.intro (Hok.out 1 (by simp) (by decide)) (Hok.out 2 (by simp) (by decide))))
          clear Hok
          obtain ⟨e0, e1, e2, e3, e4, e5⟩ := cell6 KP5.out
          go_wp2_with fail
          clear e0 e1 e2 e3 e4 e5
          go_loop [100] (fun i => ∃ k : Nat, k ≤ PS.length ∧ i = .int .i64 k ∧ Hid (∀ j (hj : j < (PS : List ByteArray).length), j < k → greatB (PS : List ByteArray)[j] = false)) (fun i => PS.length - (intOf i).toNat)
          case atStart => exact ⟨0, Nat.zero_le _, rfl, Lib.hid (fun j _ hj => absurd hj (Nat.not_lt_zero _))⟩
          case round =>
            obtain ⟨k, hk, rfl, Hok⟩ := hrel
            by_cases hlt : k < PS.length
            · have hlt2 : k < (PS : List ByteArray).length := hlt
              have hsz := zP.out _ (List.getElem_mem hlt2)
              obtain ⟨pb, pof, hpo, hpb, hpc⟩ := RPvu.out.row.cells (by omega)
              subst hpo
              have hck := hpc k hlt2
              clear hpc
              obtain ⟨q, hq⟩ : ∃ s, (PS : List ByteArray)[k] = s := ⟨_, rfl⟩
              have HQ := Lib.hid hq
              rw [hq] at hck hsz
              clear hq
              have HI := Lib.hid (great_any q u5 (by omega))
              cases hi : greatB q <;> rw [hi] at HI <;> have HIV := Lib.hid hi <;> clear hi
              · have Hx := Lib.hid (show ∀ j (hj : j < (PS : List ByteArray).length), j < k + 1 → greatB (PS : List ByteArray)[j] = false from fun j hj hjk => by
                  rcases Nat.lt_or_eq_of_le (Nat.le_of_lt_succ hjk) with h1 | h1
                  · exact Hok.out j hj h1
                  · subst h1; rw [HQ.out]; exact HIV.out)
                go_wp2_with fail
                refine HI.out.mono ?_
                rintro e w' ⟨rfl, rfl⟩
                go_wp2_with fail
                go_round
                case rel => first | exact ⟨k + 1, by omega, by go_num, Hx⟩ | ((repeat apply Exists.intro); exact ⟨⟨k + 1, by omega, by go_num, Hx⟩, rfl⟩)
                case measure => simp [intOf]; omega
              · skip
                have HM := Lib.hid (show mainE [na, nb, nc] PS BS = 2 from main2b HB5.out HF.out HG0.out (any_yes hlt2 (by rw [HQ.out]; exact HIV.out)))
                go_wp2_with fail
                refine HI.out.mono ?_
                rintro e w' ⟨rfl, rfl⟩
                have f0 := KR5.out.free 0
                have f1 := KR5.out.free 1
                have f2 := KR5.out.free 2
                have f3 := KR5.out.free 3
                have f4 := KR5.out.free 4
                have f5 := KR5.out.free 5
                obtain ⟨g0, g1, g2, g3, g4, g5⟩ := cell6 KR5.out
                go_wp2_with fail
                refine bodyPost_ret (v := .agg #[.int .i64 0, .int .i64 0, .int .i64 0, .slice none 0 0, .slice none 0 0, .int .i64 2]) (by simp [results, Tryd.results9, go_sem, g0, g1, g2, g3, g4, g5, f0, f1, f2, f3, f4, f5]) rfl ?_
                have hb6 := (((((BB5.out.setCell (p := ⟨w.heap.size, 0, none⟩) (by simp) (.int .i64 0)).setCell (p := ⟨w.heap.size, 1, none⟩) (by simp) (.int .i64 0)).setCell (p := ⟨w.heap.size, 2, none⟩) (by simp) (.int .i64 0)).setCell (p := ⟨w.heap.size, 3, none⟩) (by simp) (.slice none 0 0)).setCell (p := ⟨w.heap.size, 4, none⟩) (by simp) (.slice none 0 0)).setCell (p := ⟨w.heap.size, 5, none⟩) (by simp) (.int .i64 2)
                exact ⟨hb6, .inl ⟨by rw [HM.out]; decide, by rw [HM.out]; rfl⟩⟩
            · obtain rfl : k = PS.length := by omega
              have HM := Lib.hid (main0 (BS := BS) HB5.out HF.out HG0.out (any_no (fun j hj => Hok.out j hj hj)))
              clear Hok
              have V0 := fun w => Lib.hid (value_any na w (dig_num HNUM.out.1) (val_num HNUM.out.1 HGR.out.1) (zN.out na (by simp)))
              obtain ⟨y0, hy0⟩ : ∃ y, ((valL 0 na.data.toList : Nat) : Int) = y := ⟨_, rfl⟩
              rw [hy0] at V0
              have HY0 := Lib.hid hy0
              clear hy0
              have V1 := fun w => Lib.hid (value_any nb w (dig_num HNUM.out.2.1) (val_num HNUM.out.2.1 HGR.out.2.1) (zN.out nb (by simp)))
              obtain ⟨y1, hy1⟩ : ∃ y, ((valL 0 nb.data.toList : Nat) : Int) = y := ⟨_, rfl⟩
              rw [hy1] at V1
              have HY1 := Lib.hid hy1
              clear hy1
              have V2 := fun w => Lib.hid (value_any nc w (dig_num HNUM.out.2.2) (val_num HNUM.out.2.2 HGR.out.2.2) (zN.out nc (by simp)))
              obtain ⟨y2, hy2⟩ : ∃ y, ((valL 0 nc.data.toList : Nat) : Int) = y := ⟨_, rfl⟩
              rw [hy2] at V2
              have HY2 := Lib.hid hy2
              clear hy2
              have NC := N012.out
              obtain ⟨n0, n1, n2⟩ := NC
              have KPc := KP5
              have KRc := KR5
              have BBc := BB5
              have PRc := RPvu
              have BRc := RBvuvu
              go_wp2_with fail
              refine (V0 _).out.mono ?_
              rintro e w' ⟨rfl, rfl⟩
              obtain ⟨x0, hx0⟩ : ∃ v, u5.setCell ⟨w.heap.size + 1, 0, none⟩ (.int .i64 y0) = v := ⟨_, rfl⟩
              have fr := KPc.out.free 0
              have ce := KPc.out.cell 0
              simp at ce
              have kp : BlockAt x0 (w.heap.size + 1) #[.int .i64 y0, .int .i64 0, .int .i64 0, .slice poo PS.length poc, .slice boo BS.length boc, .int .i64 0] 29 := by have h := KPc.out.set 0 (.int .i64 y0); rw [hx0] at h; simpa using h
              have kr := KRc.out.other (c := w.heap.size + 1) (by omega) 0 (.int .i64 y0)
              rw [hx0] at kr
              have bw : Below w.heap.size w x0 := by rw [← hx0]; exact BBc.out.setCell (by simp) _
              have m0 : x0.cell? ⟨nnb, nof, none⟩ = some (.string na) := by rw [← hx0, World.cell?_setCell_other _ _ _ _ (by intro e; cases e <;> (have := HNB.out; have := HZ.out; have := ZZ4.out; omega))]; exact n0
              have m1 : x0.cell? ⟨nnb, nof + 1, none⟩ = some (.string nb) := by rw [← hx0, World.cell?_setCell_other _ _ _ _ (by intro e; cases e <;> (have := HNB.out; have := HZ.out; have := ZZ4.out; omega))]; exact n1
              have m2 : x0.cell? ⟨nnb, nof + 2, none⟩ = some (.string nc) := by rw [← hx0, World.cell?_setCell_other _ _ _ _ (by intro e; cases e <;> (have := HNB.out; have := HZ.out; have := ZZ4.out; omega))]; exact n2
              have pr := PRc.out.set (c := w.heap.size + 1) (k := 0) (by have := HZ.out; have := ZZ2.out; omega) (.int .i64 y0)
              rw [hx0] at pr
              have br := BRc.out.set (c := w.heap.size + 1) (k := 0) (by have := HZ.out; have := ZZ0.out; omega) (.int .i64 y0)
              rw [hx0] at br
              clear n0 n1 n2 KPc KRc BBc PRc BRc
              have n0 := m0
              have n1 := m1
              have n2 := m2
              clear m0 m1 m2
              have KPc := Lib.hid kp
              have KRc := Lib.hid kr
              have BBc := Lib.hid bw
              clear kp kr bw
              have PRc := Lib.hid pr
              clear pr
              have BRc := Lib.hid br
              clear br
              go_wp2_with fail
              clear fr ce hx0
              refine (V1 _).out.mono ?_
              rintro e w' ⟨rfl, rfl⟩
              obtain ⟨x1, hx1⟩ : ∃ v, x0.setCell ⟨w.heap.size + 1, 1, none⟩ (.int .i64 y1) = v := ⟨_, rfl⟩
              have fr := KPc.out.free 1
              have ce := KPc.out.cell 1
              simp at ce
              have kp : BlockAt x1 (w.heap.size + 1) #[.int .i64 y0, .int .i64 y1, .int .i64 0, .slice poo PS.length poc, .slice boo BS.length boc, .int .i64 0] 29 := by have h := KPc.out.set 1 (.int .i64 y1); rw [hx1] at h; simpa using h
              have kr := KRc.out.other (c := w.heap.size + 1) (by omega) 1 (.int .i64 y1)
              rw [hx1] at kr
              have bw : Below w.heap.size w x1 := by rw [← hx1]; exact BBc.out.setCell (by simp) _
              have m0 : x1.cell? ⟨nnb, nof, none⟩ = some (.string na) := by rw [← hx1, World.cell?_setCell_other _ _ _ _ (by intro e; cases e <;> (have := HNB.out; have := HZ.out; have := ZZ4.out; omega))]; exact n0
              have m1 : x1.cell? ⟨nnb, nof + 1, none⟩ = some (.string nb) := by rw [← hx1, World.cell?_setCell_other _ _ _ _ (by intro e; cases e <;> (have := HNB.out; have := HZ.out; have := ZZ4.out; omega))]; exact n1
              have m2 : x1.cell? ⟨nnb, nof + 2, none⟩ = some (.string nc) := by rw [← hx1, World.cell?_setCell_other _ _ _ _ (by intro e; cases e <;> (have := HNB.out; have := HZ.out; have := ZZ4.out; omega))]; exact n2
              have pr := PRc.out.set (c := w.heap.size + 1) (k := 1) (by have := HZ.out; have := ZZ2.out; omega) (.int .i64 y1)
              rw [hx1] at pr
              have br := BRc.out.set (c := w.heap.size + 1) (k := 1) (by have := HZ.out; have := ZZ0.out; omega) (.int .i64 y1)
              rw [hx1] at br
              clear n0 n1 n2 KPc KRc BBc PRc BRc
              have n0 := m0
              have n1 := m1
              have n2 := m2
              clear m0 m1 m2
              have KPc := Lib.hid kp
              have KRc := Lib.hid kr
              have BBc := Lib.hid bw
              clear kp kr bw
              have PRc := Lib.hid pr
              clear pr
              have BRc := Lib.hid br
              clear br
              go_wp2_with fail
              clear fr ce hx1
              refine (V2 _).out.mono ?_
              rintro e w' ⟨rfl, rfl⟩
              obtain ⟨x2, hx2⟩ : ∃ v, x1.setCell ⟨w.heap.size + 1, 2, none⟩ (.int .i64 y2) = v := ⟨_, rfl⟩
              have fr := KPc.out.free 2
              have ce := KPc.out.cell 2
              simp at ce
              have kp : BlockAt x2 (w.heap.size + 1) #[.int .i64 y0, .int .i64 y1, .int .i64 y2, .slice poo PS.length poc, .slice boo BS.length boc, .int .i64 0] 29 := by have h := KPc.out.set 2 (.int .i64 y2); rw [hx2] at h; simpa using h
              have kr := KRc.out.other (c := w.heap.size + 1) (by omega) 2 (.int .i64 y2)
              rw [hx2] at kr
              have bw : Below w.heap.size w x2 := by rw [← hx2]; exact BBc.out.setCell (by simp) _
              have m0 : x2.cell? ⟨nnb, nof, none⟩ = some (.string na) := by rw [← hx2, World.cell?_setCell_other _ _ _ _ (by intro e; cases e <;> (have := HNB.out; have := HZ.out; have := ZZ4.out; omega))]; exact n0
              have m1 : x2.cell? ⟨nnb, nof + 1, none⟩ = some (.string nb) := by rw [← hx2, World.cell?_setCell_other _ _ _ _ (by intro e; cases e <;> (have := HNB.out; have := HZ.out; have := ZZ4.out; omega))]; exact n1
              have m2 : x2.cell? ⟨nnb, nof + 2, none⟩ = some (.string nc) := by rw [← hx2, World.cell?_setCell_other _ _ _ _ (by intro e; cases e <;> (have := HNB.out; have := HZ.out; have := ZZ4.out; omega))]; exact n2
              have pr := PRc.out.set (c := w.heap.size + 1) (k := 2) (by have := HZ.out; have := ZZ2.out; omega) (.int .i64 y2)
              rw [hx2] at pr
              have br := BRc.out.set (c := w.heap.size + 1) (k := 2) (by have := HZ.out; have := ZZ0.out; omega) (.int .i64 y2)
              rw [hx2] at br
              clear n0 n1 n2 KPc KRc BBc PRc BRc
              have n0 := m0
              have n1 := m1
              have n2 := m2
              clear m0 m1 m2
              have KPc := Lib.hid kp
              have KRc := Lib.hid kr
              have BBc := Lib.hid bw
              clear kp kr bw
              have PRc := Lib.hid pr
              clear pr
              have BRc := Lib.hid br
              clear br
              obtain ⟨a0, a1, a2, a3, a4, a5⟩ := cell6 KPc.out
              obtain ⟨g0, g1, g2, g3, g4, g5⟩ := cell6 KRc.out
              have f0 := KRc.out.free 0
              have f1 := KRc.out.free 1
              have f2 := KRc.out.free 2
              have f3 := KRc.out.free 3
              have f4 := KRc.out.free 4
              have f5 := KRc.out.free 5
              go_wp2_with fail
              refine bodyPost_ret (v := .agg #[.int .i64 y0, .int .i64 y1, .int .i64 y2, .slice poo PS.length poc, .slice boo BS.length boc, .int .i64 0]) (by simp [results, Tryd.results9, go_sem, g0, g1, g2, g3, g4, g5, f0, f1, f2, f3, f4, f5]) rfl ⟨?_, .inr ⟨HM.out, poo, poc, boo, boc, by rw [HY0.out, HY1.out, HY2.out], ?_, ?_⟩⟩
              · exact (((((BBc.out.setCell (by simp) _).setCell (by simp) _).setCell (by simp) _).setCell (by simp) _).setCell (by simp) _).setCell (by simp) _
              · exact ((((((PRc.out.set (c := w.heap.size) (by have := HZ.out; have := ZZ2.out; omega) _).set (c := w.heap.size) (by have := HZ.out; have := ZZ2.out; omega) _).set (c := w.heap.size) (by have := HZ.out; have := ZZ2.out; omega) _).set (c := w.heap.size) (by have := HZ.out; have := ZZ2.out; omega) _).set (c := w.heap.size) (by have := HZ.out; have := ZZ2.out; omega) _).set (c := w.heap.size) (by have := HZ.out; have := ZZ2.out; omega) _).row
              · exact ((((((BRc.out.set (c := w.heap.size) (by have := HZ.out; have := ZZ0.out; omega) _).set (c := w.heap.size) (by have := HZ.out; have := ZZ0.out; omega) _).set (c := w.heap.size) (by have := HZ.out; have := ZZ0.out; omega) _).set (c := w.heap.size) (by have := HZ.out; have := ZZ0.out; omega) _).set (c := w.heap.size) (by have := HZ.out; have := ZZ0.out; omega) _).set (c := w.heap.size) (by have := HZ.out; have := ZZ0.out; omega) _).row
set_option maxHeartbeats 64000000 in
set_option maxRecDepth 100000 in
theorem refparse_tf_len (s : ByteArray) (x b x2 p : List UInt8) (NS PS BS : List ByteArray) (w : World) (hs : s.size ≤ 1000) (hc1 : cutL 43 s.data.toList = (x, b, false)) (hc2 : cutL 45 x = (x2, p, true)) (hNS : dotsOf x2 = NS) (hPS : dotsOf p = PS) (hBS : BS = []) (t1 : ¬ NS.length = 3) :
    Calls Tryd.prog 9 #[.string s] w fun e w' => e = .returned (refErr 5) ∧ Below w.heap.size w w' := by
  have c46 : ((46 : UInt8).toNat : Int) = 46 := rfl
  have F10 := fun w => find_any s 43 w (by omega)
  have hfc43 := find_cut 43 s.data.toList
  have hm43 : findL 43 s.data.toList = -1 := by
    rcases hfc43 with ⟨h1, _⟩ | ⟨k, _, _, h3⟩
    · have := find_ge 43 s.data.toList; omega
    · rw [hc1] at h3; simp at h3
  rw [hm43] at F10
  have hno43 := cut_no (c := 43) (l := s.data.toList) (by rw [hc1])
  clear hm43 hfc43
  have F1 := fun w => Lib.hid (F10 w)
  clear F10
  simp only [show ((43 : UInt8).toNat : Int) = 43 from rfl] at F1
  have hcx : cutL 45 s.data.toList = (x2, p, true) := by rw [← hno43.1]; exact hc2
  have F20 := fun w => find_any s 45 w (by omega)
  have hfc45 := find_cut 45 s.data.toList
  obtain ⟨kp, hk45, hl45, hcut45⟩ : ∃ k : Nat, findL 45 s.data.toList = k ∧ k < s.data.toList.length ∧ cutL 45 s.data.toList = (s.data.toList.take k, s.data.toList.drop (k + 1), true) := by
    rcases hfc45 with ⟨_, h2⟩ | h
    · rw [hcx] at h2; simp at h2
    · exact h
  rw [hcx] at hcut45
  simp only [Prod.mk.injEq, and_true] at hcut45
  have hl45 : kp < s.size := hl45
  obtain ⟨sp, hsp⟩ : ∃ t, s.extract (kp + 1) s.size = t := ⟨_, rfl⟩
  obtain ⟨sy, hsy⟩ : ∃ t, s.extract 0 kp = t := ⟨_, rfl⟩
  have dsp : sp.data.toList = p := by rw [← hsp, ext_full _ _ (by omega), ← hcut45.2]
  have dsy : sy.data.toList = x2 := by rw [← hsy, ext_head, ← hcut45.1]
  have zsp : sp.size ≤ 1000 := by rw [← hsp, ByteArray.size_extract]; omega
  have zsy : sy.size ≤ 1000 := by rw [← hsy, ByteArray.size_extract]; omega
  rw [hk45] at F20
  clear hk45 hcut45 hfc45
  have F2 := fun w => Lib.hid (F20 w)
  clear F20
  simp only [show ((45 : UInt8).toNat : Int) = 45 from rfl] at F2
  have dcore : sy.data.toList = x2 := dsy
  have S1 := fun w => refsplit_any sy 46 w (by omega)
  rw [dcore, show partsOf 46 x2 = NS from hNS, c46] at S1
  have S1 := fun w => Lib.hid (S1 w)
  have S2 := fun w => refsplit_any sp 46 w (by omega)
  rw [dsp, show partsOf 46 p = PS from hPS, c46] at S2
  have S2 := fun w => Lib.hid (S2 w)
  have lN := dots_len x2
  rw [hNS] at lN
  have zx2 : x2.length ≤ 1000 := by rw [← dcore]; show sy.size ≤ 1000; omega
  have zN := Lib.hid (show ∀ q ∈ NS, q.size ≤ 1000 from fun q hq => by have := lN.2 q hq; omega)
  have mN : NS.length ≤ 1001 := by have := lN.1; omega
  have lP := dots_len p
  rw [hPS] at lP
  have zp0 : p.length ≤ 1000 := by rw [← dsp]; show sp.size ≤ 1000; omega
  have zP := Lib.hid (show ∀ q ∈ PS, q.size ≤ 1000 from fun q hq => by have := lP.2 q hq; omega)
  have mP : PS.length ≤ 1001 := by have := lP.1; omega
  clear lP zp0 hPS
  subst hBS
  have zB := Lib.hid (show ∀ q ∈ ([] : List ByteArray), q.size ≤ 1000 by simp)
  have mB : ([] : List ByteArray).length ≤ 1001 := by decide
  clear lN zx2 hNS c46 dcore hcx hc1 hc2 hno43 dsp dsy
  obtain ⟨wa, ha⟩ : ∃ wa, w.alloc (.cells #[.int .i64 0, .int .i64 0, .int .i64 0, .slice none 0 0, .slice none 0 0, .int .i64 0] 29) = wa := ⟨_, rfl⟩
  obtain ⟨k1, q1, z1⟩ := box_new ha
  go_enter Tryd.func9, Tryd.ntmps9
  go_wp2_with fail
  clear ha
  have bq : Below wa.heap.size wa (wa.alloc (.cells #[.int .i64 0, .int .i64 0, .int .i64 0, .slice none 0 0, .slice none 0 0, .int .i64 0] 29)) := (Below.refl _ _).alloc (Nat.le_refl _) _
  have k2 := BlockAt.new wa #[.int .i64 0, .int .i64 0, .int .i64 0, .slice none 0 0, .slice none 0 0, .int .i64 0] 29
  rw [z1] at k2
  have k1b := k1.below bq
  have bw := q1.trans (bq.mono q1.size)
  have zb1 : (wa.alloc (.cells #[.int .i64 0, .int .i64 0, .int .i64 0, .slice none 0 0, .slice none 0 0, .int .i64 0] 29)).heap.size = wa.heap.size + 1 := by simp
  generalize wa.alloc (.cells #[.int .i64 0, .int .i64 0, .int .i64 0, .slice none 0 0, .slice none 0 0, .int .i64 0] 29) = wb at *
  have KR0 := Lib.hid k1b
  have KP0 := Lib.hid k2
  have BB0 := Lib.hid bw
  have HZ := Lib.hid (And.intro z1 zb1)
  have ZZ0 := Lib.hid (Nat.le_refl wb.heap.size)
  clear bq k1 k2 k1b bw zb1 q1 z1
  refine (F1 wb).out.mono ?_
  rintro e w' ⟨rfl, rfl⟩
  go_wp2_with fail
  refine (F2 wb).out.mono ?_
  rintro e w' ⟨rfl, rfl⟩
  go_wp2_with fail
  refine (S2 wb).out.mono ?_
  rintro e u1 ⟨⟨poo, poc, rfl, rr, cc⟩, bb⟩
  have RP := Lib.hid rr
  have KP1 := Lib.hid (KP0.out.below bb)
  have KR1 := Lib.hid (KR0.out.below bb)
  have BB1 := Lib.hid (BB0.out.trans (bb.mono BB0.out.size))
  have ZZ1 := Lib.hid (Nat.le_trans ZZ0.out bb.size)
  clear rr bb cc KP0 KR0 BB0
  obtain ⟨v2, hv2⟩ : ∃ v, u1.setCell ⟨w.heap.size + 1, 3, none⟩ (.slice poo PS.length poc) = v := ⟨_, rfl⟩
  have fr := KP1.out.free 3
  have ce := KP1.out.cell 3
  simp at ce
  have kp : BlockAt v2 (w.heap.size + 1) #[.int .i64 0, .int .i64 0, .int .i64 0, .slice poo PS.length poc, .slice none 0 0, .int .i64 0] 29 := by have h := KP1.out.set 3 (.slice poo PS.length poc); rw [hv2] at h; simpa using h
  have kr := KR1.out.other (c := w.heap.size + 1) (by have := HZ.out; omega) 3 (.slice poo PS.length poc)
  rw [hv2] at kr
  have bw : Below w.heap.size w v2 := by rw [← hv2]; exact BB1.out.setCell (by simp) _
  have zz : wb.heap.size ≤ v2.heap.size := by rw [← hv2]; simpa using ZZ1.out
  have rRP := RP.out.set (c := w.heap.size + 1) (k := 3) (by have := HZ.out; have := ZZ0.out; omega) (.slice poo PS.length poc)
  rw [hv2] at rRP
  have RPv := Lib.hid rRP
  clear rRP RP
  have KP2 := Lib.hid kp
  have KR2 := Lib.hid kr
  have BB2 := Lib.hid bw
  have ZZ2 := Lib.hid zz
  clear kp kr bw zz KP1 KR1 BB1
  go_wp2_with fail
  clear fr ce hv2
  refine (S1 v2).out.mono ?_
  rintro e u3 ⟨⟨noo, noc, rfl, rr, cc⟩, bb⟩
  have RN := Lib.hid rr
  have RPvu := Lib.hid (RPv.out.below bb)
  clear RPv
  have KP3 := Lib.hid (KP2.out.below bb)
  have KR3 := Lib.hid (KR2.out.below bb)
  have BB3 := Lib.hid (BB2.out.trans (bb.mono BB2.out.size))
  have ZZ3 := Lib.hid (Nat.le_trans ZZ2.out bb.size)
  clear rr bb cc KP2 KR2 BB2
  obtain ⟨e0, e1, e2, e3, e4, e5⟩ := cell6 KP3.out
  have ht1 : ((NS.length : Int) != 3) = true := by rw [bne_iff_ne]; omega
  clear t1
  have f0 := KR3.out.free 0
  have f1 := KR3.out.free 1
  have f2 := KR3.out.free 2
  have f3 := KR3.out.free 3
  have f4 := KR3.out.free 4
  have f5 := KR3.out.free 5
  obtain ⟨g0, g1, g2, g3, g4, g5⟩ := cell6 KR3.out
  go_wp2_with fail
  refine bodyPost_ret (v := .agg #[.int .i64 0, .int .i64 0, .int .i64 0, .slice none 0 0, .slice none 0 0, .int .i64 5]) (by simp [results, Tryd.results9, go_sem, g0, g1, g2, g3, g4, g5, f0, f1, f2, f3, f4, f5]) rfl ?_
  have hb6 := (((((BB3.out.setCell (p := ⟨w.heap.size, 0, none⟩) (by simp) (.int .i64 0)).setCell (p := ⟨w.heap.size, 1, none⟩) (by simp) (.int .i64 0)).setCell (p := ⟨w.heap.size, 2, none⟩) (by simp) (.int .i64 0)).setCell (p := ⟨w.heap.size, 3, none⟩) (by simp) (.slice none 0 0)).setCell (p := ⟨w.heap.size, 4, none⟩) (by simp) (.slice none 0 0)).setCell (p := ⟨w.heap.size, 5, none⟩) (by simp) (.int .i64 5)
  exact ⟨rfl, hb6⟩
set_option maxHeartbeats 64000000 in
set_option maxRecDepth 100000 in
theorem refparse_tf_pre (s : ByteArray) (x b x2 p : List UInt8) (NS PS BS : List ByteArray) (w : World) (hs : s.size ≤ 1000) (hc1 : cutL 43 s.data.toList = (x, b, false)) (hc2 : cutL 45 x = (x2, p, true)) (hNS : dotsOf x2 = NS) (hPS : dotsOf p = PS) (hBS : BS = []) (t1 : NS.length = 3) (t2 : PS.all (synB true) = false) :
    Calls Tryd.prog 9 #[.string s] w fun e w' => e = .returned (refErr 5) ∧ Below w.heap.size w w' := by
  have c46 : ((46 : UInt8).toNat : Int) = 46 := rfl
  have F10 := fun w => find_any s 43 w (by omega)
  have hfc43 := find_cut 43 s.data.toList
  have hm43 : findL 43 s.data.toList = -1 := by
    rcases hfc43 with ⟨h1, _⟩ | ⟨k, _, _, h3⟩
    · have := find_ge 43 s.data.toList; omega
    · rw [hc1] at h3; simp at h3
  rw [hm43] at F10
  have hno43 := cut_no (c := 43) (l := s.data.toList) (by rw [hc1])
  clear hm43 hfc43
  have F1 := fun w => Lib.hid (F10 w)
  clear F10
  simp only [show ((43 : UInt8).toNat : Int) = 43 from rfl] at F1
  have hcx : cutL 45 s.data.toList = (x2, p, true) := by rw [← hno43.1]; exact hc2
  have F20 := fun w => find_any s 45 w (by omega)
  have hfc45 := find_cut 45 s.data.toList
  obtain ⟨kp, hk45, hl45, hcut45⟩ : ∃ k : Nat, findL 45 s.data.toList = k ∧ k < s.data.toList.length ∧ cutL 45 s.data.toList = (s.data.toList.take k, s.data.toList.drop (k + 1), true) := by
    rcases hfc45 with ⟨_, h2⟩ | h
    · rw [hcx] at h2; simp at h2
    · exact h
  rw [hcx] at hcut45
  simp only [Prod.mk.injEq, and_true] at hcut45
  have hl45 : kp < s.size := hl45
  obtain ⟨sp, hsp⟩ : ∃ t, s.extract (kp + 1) s.size = t := ⟨_, rfl⟩
  obtain ⟨sy, hsy⟩ : ∃ t, s.extract 0 kp = t := ⟨_, rfl⟩
  have dsp : sp.data.toList = p := by rw [← hsp, ext_full _ _ (by omega), ← hcut45.2]
  have dsy : sy.data.toList = x2 := by rw [← hsy, ext_head, ← hcut45.1]
  have zsp : sp.size ≤ 1000 := by rw [← hsp, ByteArray.size_extract]; omega
  have zsy : sy.size ≤ 1000 := by rw [← hsy, ByteArray.size_extract]; omega
  rw [hk45] at F20
  clear hk45 hcut45 hfc45
  have F2 := fun w => Lib.hid (F20 w)
  clear F20
  simp only [show ((45 : UInt8).toNat : Int) = 45 from rfl] at F2
  have dcore : sy.data.toList = x2 := dsy
  have S1 := fun w => refsplit_any sy 46 w (by omega)
  rw [dcore, show partsOf 46 x2 = NS from hNS, c46] at S1
  have S1 := fun w => Lib.hid (S1 w)
  have S2 := fun w => refsplit_any sp 46 w (by omega)
  rw [dsp, show partsOf 46 p = PS from hPS, c46] at S2
  have S2 := fun w => Lib.hid (S2 w)
  have lN := dots_len x2
  rw [hNS] at lN
  have zx2 : x2.length ≤ 1000 := by rw [← dcore]; show sy.size ≤ 1000; omega
  have zN := Lib.hid (show ∀ q ∈ NS, q.size ≤ 1000 from fun q hq => by have := lN.2 q hq; omega)
  have mN : NS.length ≤ 1001 := by have := lN.1; omega
  have lP := dots_len p
  rw [hPS] at lP
  have zp0 : p.length ≤ 1000 := by rw [← dsp]; show sp.size ≤ 1000; omega
  have zP := Lib.hid (show ∀ q ∈ PS, q.size ≤ 1000 from fun q hq => by have := lP.2 q hq; omega)
  have mP : PS.length ≤ 1001 := by have := lP.1; omega
  clear lP zp0 hPS
  subst hBS
  have zB := Lib.hid (show ∀ q ∈ ([] : List ByteArray), q.size ≤ 1000 by simp)
  have mB : ([] : List ByteArray).length ≤ 1001 := by decide
  clear lN zx2 hNS c46 dcore hcx hc1 hc2 hno43 dsp dsy
  obtain ⟨wa, ha⟩ : ∃ wa, w.alloc (.cells #[.int .i64 0, .int .i64 0, .int .i64 0, .slice none 0 0, .slice none 0 0, .int .i64 0] 29) = wa := ⟨_, rfl⟩
  obtain ⟨k1, q1, z1⟩ := box_new ha
  go_enter Tryd.func9, Tryd.ntmps9
  go_wp2_with fail
  clear ha
  have bq : Below wa.heap.size wa (wa.alloc (.cells #[.int .i64 0, .int .i64 0, .int .i64 0, .slice none 0 0, .slice none 0 0, .int .i64 0] 29)) := (Below.refl _ _).alloc (Nat.le_refl _) _
  have k2 := BlockAt.new wa #[.int .i64 0, .int .i64 0, .int .i64 0, .slice none 0 0, .slice none 0 0, .int .i64 0] 29
  rw [z1] at k2
  have k1b := k1.below bq
  have bw := q1.trans (bq.mono q1.size)
  have zb1 : (wa.alloc (.cells #[.int .i64 0, .int .i64 0, .int .i64 0, .slice none 0 0, .slice none 0 0, .int .i64 0] 29)).heap.size = wa.heap.size + 1 := by simp
  generalize wa.alloc (.cells #[.int .i64 0, .int .i64 0, .int .i64 0, .slice none 0 0, .slice none 0 0, .int .i64 0] 29) = wb at *
  have KR0 := Lib.hid k1b
  have KP0 := Lib.hid k2
  have BB0 := Lib.hid bw
  have HZ := Lib.hid (And.intro z1 zb1)
  have ZZ0 := Lib.hid (Nat.le_refl wb.heap.size)
  clear bq k1 k2 k1b bw zb1 q1 z1
  refine (F1 wb).out.mono ?_
  rintro e w' ⟨rfl, rfl⟩
  go_wp2_with fail
  refine (F2 wb).out.mono ?_
  rintro e w' ⟨rfl, rfl⟩
  go_wp2_with fail
  refine (S2 wb).out.mono ?_
  rintro e u1 ⟨⟨poo, poc, rfl, rr, cc⟩, bb⟩
  have RP := Lib.hid rr
  have KP1 := Lib.hid (KP0.out.below bb)
  have KR1 := Lib.hid (KR0.out.below bb)
  have BB1 := Lib.hid (BB0.out.trans (bb.mono BB0.out.size))
  have ZZ1 := Lib.hid (Nat.le_trans ZZ0.out bb.size)
  clear rr bb cc KP0 KR0 BB0
  obtain ⟨v2, hv2⟩ : ∃ v, u1.setCell ⟨w.heap.size + 1, 3, none⟩ (.slice poo PS.length poc) = v := ⟨_, rfl⟩
  have fr := KP1.out.free 3
  have ce := KP1.out.cell 3
  simp at ce
  have kp : BlockAt v2 (w.heap.size + 1) #[.int .i64 0, .int .i64 0, .int .i64 0, .slice poo PS.length poc, .slice none 0 0, .int .i64 0] 29 := by have h := KP1.out.set 3 (.slice poo PS.length poc); rw [hv2] at h; simpa using h
  have kr := KR1.out.other (c := w.heap.size + 1) (by have := HZ.out; omega) 3 (.slice poo PS.length poc)
  rw [hv2] at kr
  have bw : Below w.heap.size w v2 := by rw [← hv2]; exact BB1.out.setCell (by simp) _
  have zz : wb.heap.size ≤ v2.heap.size := by rw [← hv2]; simpa using ZZ1.out
  have rRP := RP.out.set (c := w.heap.size + 1) (k := 3) (by have := HZ.out; have := ZZ0.out; omega) (.slice poo PS.length poc)
  rw [hv2] at rRP
  have RPv := Lib.hid rRP
  clear rRP RP
  have KP2 := Lib.hid kp
  have KR2 := Lib.hid kr
  have BB2 := Lib.hid bw
  have ZZ2 := Lib.hid zz
  clear kp kr bw zz KP1 KR1 BB1
  go_wp2_with fail
  clear fr ce hv2
  refine (S1 v2).out.mono ?_
  rintro e u3 ⟨⟨noo, noc, rfl, rr, cc⟩, bb⟩
  have RN := Lib.hid rr
  have RPvu := Lib.hid (RPv.out.below bb)
  clear RPv
  have KP3 := Lib.hid (KP2.out.below bb)
  have KR3 := Lib.hid (KR2.out.below bb)
  have BB3 := Lib.hid (BB2.out.trans (bb.mono BB2.out.size))
  have ZZ3 := Lib.hid (Nat.le_trans ZZ2.out bb.size)
  clear rr bb cc KP2 KR2 BB2
  obtain ⟨e0, e1, e2, e3, e4, e5⟩ := cell6 KP3.out
  have CP := syn_any poo poc PS true u3 RPvu.out.row zP.out mP
  rw [t2] at CP
  have CP := Lib.hid CP
  clear t2
  have ht1 : ((NS.length : Int) != 3) = false := by rw [bne_eq_false_iff_eq]; omega
  clear t1
  have f0 := KR3.out.free 0
  have f1 := KR3.out.free 1
  have f2 := KR3.out.free 2
  have f3 := KR3.out.free 3
  have f4 := KR3.out.free 4
  have f5 := KR3.out.free 5
  obtain ⟨g0, g1, g2, g3, g4, g5⟩ := cell6 KR3.out
  go_wp2_with fail
  refine CP.out.mono ?_
  rintro e w' ⟨rfl, rfl⟩
  go_wp2_with fail
  refine bodyPost_ret (v := .agg #[.int .i64 0, .int .i64 0, .int .i64 0, .slice none 0 0, .slice none 0 0, .int .i64 5]) (by simp [results, Tryd.results9, go_sem, g0, g1, g2, g3, g4, g5, f0, f1, f2, f3, f4, f5]) rfl ?_
  have hb6 := (((((BB3.out.setCell (p := ⟨w.heap.size, 0, none⟩) (by simp) (.int .i64 0)).setCell (p := ⟨w.heap.size, 1, none⟩) (by simp) (.int .i64 0)).setCell (p := ⟨w.heap.size, 2, none⟩) (by simp) (.int .i64 0)).setCell (p := ⟨w.heap.size, 3, none⟩) (by simp) (.slice none 0 0)).setCell (p := ⟨w.heap.size, 4, none⟩) (by simp) (.slice none 0 0)).setCell (p := ⟨w.heap.size, 5, none⟩) (by simp) (.int .i64 5)
  exact ⟨rfl, hb6⟩
set_option maxHeartbeats 64000000 in
set_option maxRecDepth 100000 in
theorem refparse_tf_main (s : ByteArray) (x b x2 p : List UInt8) (NS PS BS : List ByteArray) (w : World) (hs : s.size ≤ 1000) (hc1 : cutL 43 s.data.toList = (x, b, false)) (hc2 : cutL 45 x = (x2, p, true)) (hNS : dotsOf x2 = NS) (hPS : dotsOf p = PS) (hBS : BS = []) (na nb nc : ByteArray) (t1 : NS = [na, nb, nc]) (t2 : PS.all (synB true) = true) (t3 : BS.all (synB false) = true) :
    Calls Tryd.prog 9 #[.string s] w (RefM w na nb nc PS BS) := by
  have c46 : ((46 : UInt8).toNat : Int) = 46 := rfl
  have F10 := fun w => find_any s 43 w (by omega)
  have hfc43 := find_cut 43 s.data.toList
  have hm43 : findL 43 s.data.toList = -1 := by
    rcases hfc43 with ⟨h1, _⟩ | ⟨k, _, _, h3⟩
    · have := find_ge 43 s.data.toList; omega
    · rw [hc1] at h3; simp at h3
  rw [hm43] at F10
  have hno43 := cut_no (c := 43) (l := s.data.toList) (by rw [hc1])
  clear hm43 hfc43
  have F1 := fun w => Lib.hid (F10 w)
  clear F10
  simp only [show ((43 : UInt8).toNat : Int) = 43 from rfl] at F1
  have hcx : cutL 45 s.data.toList = (x2, p, true) := by rw [← hno43.1]; exact hc2
  have F20 := fun w => find_any s 45 w (by omega)
  have hfc45 := find_cut 45 s.data.toList
  obtain ⟨kp, hk45, hl45, hcut45⟩ : ∃ k : Nat, findL 45 s.data.toList = k ∧ k < s.data.toList.length ∧ cutL 45 s.data.toList = (s.data.toList.take k, s.data.toList.drop (k + 1), true) := by
    rcases hfc45 with ⟨_, h2⟩ | h
    · rw [hcx] at h2; simp at h2
    · exact h
  rw [hcx] at hcut45
  simp only [Prod.mk.injEq, and_true] at hcut45
  have hl45 : kp < s.size := hl45
  obtain ⟨sp, hsp⟩ : ∃ t, s.extract (kp + 1) s.size = t := ⟨_, rfl⟩
  obtain ⟨sy, hsy⟩ : ∃ t, s.extract 0 kp = t := ⟨_, rfl⟩
  have dsp : sp.data.toList = p := by rw [← hsp, ext_full _ _ (by omega), ← hcut45.2]
  have dsy : sy.data.toList = x2 := by rw [← hsy, ext_head, ← hcut45.1]
  have zsp : sp.size ≤ 1000 := by rw [← hsp, ByteArray.size_extract]; omega
  have zsy : sy.size ≤ 1000 := by rw [← hsy, ByteArray.size_extract]; omega
  rw [hk45] at F20
  clear hk45 hcut45 hfc45
  have F2 := fun w => Lib.hid (F20 w)
  clear F20
  simp only [show ((45 : UInt8).toNat : Int) = 45 from rfl] at F2
  have dcore : sy.data.toList = x2 := dsy
  have S1 := fun w => refsplit_any sy 46 w (by omega)
  rw [dcore, show partsOf 46 x2 = NS from hNS, c46] at S1
  have S1 := fun w => Lib.hid (S1 w)
  have S2 := fun w => refsplit_any sp 46 w (by omega)
  rw [dsp, show partsOf 46 p = PS from hPS, c46] at S2
  have S2 := fun w => Lib.hid (S2 w)
  have lN := dots_len x2
  rw [hNS] at lN
  have zx2 : x2.length ≤ 1000 := by rw [← dcore]; show sy.size ≤ 1000; omega
  have zN := Lib.hid (show ∀ q ∈ NS, q.size ≤ 1000 from fun q hq => by have := lN.2 q hq; omega)
  have mN : NS.length ≤ 1001 := by have := lN.1; omega
  have lP := dots_len p
  rw [hPS] at lP
  have zp0 : p.length ≤ 1000 := by rw [← dsp]; show sp.size ≤ 1000; omega
  have zP := Lib.hid (show ∀ q ∈ PS, q.size ≤ 1000 from fun q hq => by have := lP.2 q hq; omega)
  have mP : PS.length ≤ 1001 := by have := lP.1; omega
  clear lP zp0 hPS
  subst hBS
  have zB := Lib.hid (show ∀ q ∈ ([] : List ByteArray), q.size ≤ 1000 by simp)
  have mB : ([] : List ByteArray).length ≤ 1001 := by decide
  clear lN zx2 hNS c46 dcore hcx hc1 hc2 hno43 dsp dsy
  obtain ⟨wa, ha⟩ : ∃ wa, w.alloc (.cells #[.int .i64 0, .int .i64 0, .int .i64 0, .slice none 0 0, .slice none 0 0, .int .i64 0] 29) = wa := ⟨_, rfl⟩
  obtain ⟨k1, q1, z1⟩ := box_new ha
  go_enter Tryd.func9, Tryd.ntmps9
  go_wp2_with fail
  clear ha
  have bq : Below wa.heap.size wa (wa.alloc (.cells #[.int .i64 0, .int .i64 0, .int .i64 0, .slice none 0 0, .slice none 0 0, .int .i64 0] 29)) := (Below.refl _ _).alloc (Nat.le_refl _) _
  have k2 := BlockAt.new wa #[.int .i64 0, .int .i64 0, .int .i64 0, .slice none 0 0, .slice none 0 0, .int .i64 0] 29
  rw [z1] at k2
  have k1b := k1.below bq
  have bw := q1.trans (bq.mono q1.size)
  have zb1 : (wa.alloc (.cells #[.int .i64 0, .int .i64 0, .int .i64 0, .slice none 0 0, .slice none 0 0, .int .i64 0] 29)).heap.size = wa.heap.size + 1 := by simp
  generalize wa.alloc (.cells #[.int .i64 0, .int .i64 0, .int .i64 0, .slice none 0 0, .slice none 0 0, .int .i64 0] 29) = wb at *
  have KR0 := Lib.hid k1b
  have KP0 := Lib.hid k2
  have BB0 := Lib.hid bw
  have HZ := Lib.hid (And.intro z1 zb1)
  have ZZ0 := Lib.hid (Nat.le_refl wb.heap.size)
  clear bq k1 k2 k1b bw zb1 q1 z1
  refine (F1 wb).out.mono ?_
  rintro e w' ⟨rfl, rfl⟩
  go_wp2_with fail
  refine (F2 wb).out.mono ?_
  rintro e w' ⟨rfl, rfl⟩
  go_wp2_with fail
  refine (S2 wb).out.mono ?_
  rintro e u1 ⟨⟨poo, poc, rfl, rr, cc⟩, bb⟩
  have RP := Lib.hid rr
  have KP1 := Lib.hid (KP0.out.below bb)
  have KR1 := Lib.hid (KR0.out.below bb)
  have BB1 := Lib.hid (BB0.out.trans (bb.mono BB0.out.size))
  have ZZ1 := Lib.hid (Nat.le_trans ZZ0.out bb.size)
  clear rr bb cc KP0 KR0 BB0
  obtain ⟨v2, hv2⟩ : ∃ v, u1.setCell ⟨w.heap.size + 1, 3, none⟩ (.slice poo PS.length poc) = v := ⟨_, rfl⟩
  have fr := KP1.out.free 3
  have ce := KP1.out.cell 3
  simp at ce
  have kp : BlockAt v2 (w.heap.size + 1) #[.int .i64 0, .int .i64 0, .int .i64 0, .slice poo PS.length poc, .slice none 0 0, .int .i64 0] 29 := by have h := KP1.out.set 3 (.slice poo PS.length poc); rw [hv2] at h; simpa using h
  have kr := KR1.out.other (c := w.heap.size + 1) (by have := HZ.out; omega) 3 (.slice poo PS.length poc)
  rw [hv2] at kr
  have bw : Below w.heap.size w v2 := by rw [← hv2]; exact BB1.out.setCell (by simp) _
  have zz : wb.heap.size ≤ v2.heap.size := by rw [← hv2]; simpa using ZZ1.out
  have rRP := RP.out.set (c := w.heap.size + 1) (k := 3) (by have := HZ.out; have := ZZ0.out; omega) (.slice poo PS.length poc)
  rw [hv2] at rRP
  have RPv := Lib.hid rRP
  clear rRP RP
  have KP2 := Lib.hid kp
  have KR2 := Lib.hid kr
  have BB2 := Lib.hid bw
  have ZZ2 := Lib.hid zz
  clear kp kr bw zz KP1 KR1 BB1
  go_wp2_with fail
  clear fr ce hv2
  refine (S1 v2).out.mono ?_
  rintro e u3 ⟨⟨noo, noc, rfl, rr, cc⟩, bb⟩
  have RN := Lib.hid rr
  have RPvu := Lib.hid (RPv.out.below bb)
  clear RPv
  have KP3 := Lib.hid (KP2.out.below bb)
  have KR3 := Lib.hid (KR2.out.below bb)
  have BB3 := Lib.hid (BB2.out.trans (bb.mono BB2.out.size))
  have ZZ3 := Lib.hid (Nat.le_trans ZZ2.out bb.size)
  clear rr bb cc KP2 KR2 BB2
  obtain ⟨e0, e1, e2, e3, e4, e5⟩ := cell6 KP3.out
  have CP := syn_any poo poc PS true u3 RPvu.out.row zP.out mP
  rw [t2] at CP
  have CP := Lib.hid CP
  clear t2
  have CB := syn_any none 0 [] false u3 (.inl rfl) zB.out mB
  rw [t3] at CB
  have CB := Lib.hid CB
  clear t3
  subst t1
  obtain ⟨nnb, nof, rfl, hnb0, hnb, hnc⟩ := RN.out.cellsN (by simp)
  have HNB := Lib.hid hnb0
  clear hnb0
  have n0 := hnc 0 (by simp)
  have n1 := hnc 1 (by simp)
  have n2 := hnc 2 (by simp)
  simp only [Nat.add_zero, List.getElem_cons_zero, List.getElem_cons_succ] at n0 n1 n2
  have HNC := Lib.hid hnc
  clear hnb hnc
  have N012 := Lib.hid (And.intro n0 (And.intro n1 n2))
  clear n0 n1 n2
  go_wp2_with fail
  refine CP.out.mono ?_
  rintro e w' ⟨rfl, rfl⟩
  go_wp2_with fail
  refine CB.out.mono ?_
  rintro e w' ⟨rfl, rfl⟩
  go_wp2_with fail
  clear e0 e1 e2 e3 e4 e5
  go_loop [66] (fun i => ∃ k : Nat, k ≤ 3 ∧ i = .int .i64 k ∧ Hid (∀ j (hj : j < ([na, nb, nc] : List ByteArray).length), j < k → isnumB ([na, nb, nc] : List ByteArray)[j] = true)) (fun i => 3 - (intOf i).toNat)
  case atStart => exact ⟨0, Nat.zero_le _, rfl, Lib.hid (fun j _ hj => absurd hj (Nat.not_lt_zero _))⟩
  case round =>
    obtain ⟨k, hk, rfl, Hok⟩ := hrel
    by_cases hlt : k < 3
    · have hlt2 : k < ([na, nb, nc] : List ByteArray).length := hlt
      have hck := HNC.out k hlt2
      have hsz := zN.out _ (List.getElem_mem hlt2)
      obtain ⟨q, hq⟩ : ∃ s, ([na, nb, nc] : List ByteArray)[k] = s := ⟨_, rfl⟩
      have HQ := Lib.hid hq
      rw [hq] at hck hsz
      clear hq
      have HI := Lib.hid (refnumber_any q u3 (by omega))
      cases hi : isnumB q <;> rw [hi] at HI <;> have HIV := Lib.hid hi <;> clear hi
      · skip
        have HM := Lib.hid (show mainE [na, nb, nc] PS [] = 5 from main5 (any_yes hlt2 (by rw [HQ.out]; unfold badNum; rw [HIV.out]; rfl)))
        go_wp2_with fail
        refine HI.out.mono ?_
        rintro e w' ⟨rfl, rfl⟩
        have f0 := KR3.out.free 0
        have f1 := KR3.out.free 1
        have f2 := KR3.out.free 2
        have f3 := KR3.out.free 3
        have f4 := KR3.out.free 4
        have f5 := KR3.out.free 5
        obtain ⟨g0, g1, g2, g3, g4, g5⟩ := cell6 KR3.out
        go_wp2_with fail
        refine bodyPost_ret (v := .agg #[.int .i64 0, .int .i64 0, .int .i64 0, .slice none 0 0, .slice none 0 0, .int .i64 5]) (by simp [results, Tryd.results9, go_sem, g0, g1, g2, g3, g4, g5, f0, f1, f2, f3, f4, f5]) rfl ?_
        have hb6 := (((((BB3.out.setCell (p := ⟨w.heap.size, 0, none⟩) (by simp) (.int .i64 0)).setCell (p := ⟨w.heap.size, 1, none⟩) (by simp) (.int .i64 0)).setCell (p := ⟨w.heap.size, 2, none⟩) (by simp) (.int .i64 0)).setCell (p := ⟨w.heap.size, 3, none⟩) (by simp) (.slice none 0 0)).setCell (p := ⟨w.heap.size, 4, none⟩) (by simp) (.slice none 0 0)).setCell (p := ⟨w.heap.size, 5, none⟩) (by simp) (.int .i64 5)
        exact ⟨hb6, .inl ⟨by rw [HM.out]; decide, by rw [HM.out]; rfl⟩⟩
      · have Hx := Lib.hid (show ∀ j (hj : j < ([na, nb, nc] : List ByteArray).length), j < k + 1 → isnumB ([na, nb, nc] : List ByteArray)[j] = true from fun j hj hjk => by
          rcases Nat.lt_or_eq_of_le (Nat.le_of_lt_succ hjk) with h1 | h1
          · exact Hok.out j hj h1
          · subst h1; rw [HQ.out]; exact HIV.out)
        go_wp2_with fail
        refine HI.out.mono ?_
        rintro e w' ⟨rfl, rfl⟩
        go_wp2_with fail
        go_round
        case rel => first | exact ⟨k + 1, by omega, by go_num, Hx⟩ | ((repeat apply Exists.intro); exact ⟨⟨k + 1, by omega, by go_num, Hx⟩, rfl⟩)
        case measure => simp [intOf]; omega
    · obtain rfl : k = 3 := by omega
      have HB5 := Lib.hid (show [na, nb, nc].any badNum = false from any_no (fun j hj => by unfold badNum; rw [Hok.out j hj hj]; rfl))
      have HNUM := Lib.hid (And.intro (Hok.out 0 (by simp) (by decide)) (And.intro (Hok.out 1 (by simp) (by decide)) (Hok.out 2 (by simp) (by decide))))
      clear Hok
      have L1 := lengthy_any poo poc PS u3 RPvu.out.row zP.out mP
      have L2 := lengthy_any none 0 [] u3 (.inl rfl) zB.out mB
      obtain ⟨e0, e1, e2, e3, e4, e5⟩ := cell6 KP3.out
      cases hf1 : fewB PS <;> rw [hf1] at L1 <;> have HF1 := Lib.hid hf1 <;> clear hf1
      · have HL1 := Lib.hid L1
        have HM := Lib.hid (show mainE [na, nb, nc] PS [] = 7 from main7 HB5.out (by rw [HF1.out]; rfl))
        clear L1 L2
        go_wp2_with fail
        refine HL1.out.mono ?_
        rintro e w' ⟨rfl, rfl⟩
        have f0 := KR3.out.free 0
        have f1 := KR3.out.free 1
        have f2 := KR3.out.free 2
        have f3 := KR3.out.free 3
        have f4 := KR3.out.free 4
        have f5 := KR3.out.free 5
        obtain ⟨g0, g1, g2, g3, g4, g5⟩ := cell6 KR3.out
        go_wp2_with fail
        refine bodyPost_ret (v := .agg #[.int .i64 0, .int .i64 0, .int .i64 0, .slice none 0 0, .slice none 0 0, .int .i64 7]) (by simp [results, Tryd.results9, go_sem, g0, g1, g2, g3, g4, g5, f0, f1, f2, f3, f4, f5]) rfl ?_
        have hb6 := (((((BB3.out.setCell (p := ⟨w.heap.size, 0, none⟩) (by simp) (.int .i64 0)).setCell (p := ⟨w.heap.size, 1, none⟩) (by simp) (.int .i64 0)).setCell (p := ⟨w.heap.size, 2, none⟩) (by simp) (.int .i64 0)).setCell (p := ⟨w.heap.size, 3, none⟩) (by simp) (.slice none 0 0)).setCell (p := ⟨w.heap.size, 4, none⟩) (by simp) (.slice none 0 0)).setCell (p := ⟨w.heap.size, 5, none⟩) (by simp) (.int .i64 7)
        exact ⟨hb6, .inl ⟨by rw [HM.out]; decide, by rw [HM.out]; rfl⟩⟩
      cases hf2 : fewB [] <;> rw [hf2] at L2 <;> have HF2 := Lib.hid hf2 <;> clear hf2
      · have HL1 := Lib.hid L1
        have HL2 := Lib.hid L2
        have HM := Lib.hid (show mainE [na, nb, nc] PS [] = 7 from main7 HB5.out (by first | (rw [HF1.out, HF2.out]; rfl) | (rw [HF2.out]; rfl) | (have a := HF1.out; rw [HF2.out] at a; cases a)))
        clear L1 L2
        go_wp2_with fail
        refine HL1.out.mono ?_
        rintro e w' ⟨rfl, rfl⟩
        go_wp2_with fail
        refine HL2.out.mono ?_
        rintro e w' ⟨rfl, rfl⟩
        have f0 := KR3.out.free 0
        have f1 := KR3.out.free 1
        have f2 := KR3.out.free 2
        have f3 := KR3.out.free 3
        have f4 := KR3.out.free 4
        have f5 := KR3.out.free 5
        obtain ⟨g0, g1, g2, g3, g4, g5⟩ := cell6 KR3.out
        go_wp2_with fail
        refine bodyPost_ret (v := .agg #[.int .i64 0, .int .i64 0, .int .i64 0, .slice none 0 0, .slice none 0 0, .int .i64 7]) (by simp [results, Tryd.results9, go_sem, g0, g1, g2, g3, g4, g5, f0, f1, f2, f3, f4, f5]) rfl ?_
        have hb6 := (((((BB3.out.setCell (p := ⟨w.heap.size, 0, none⟩) (by simp) (.int .i64 0)).setCell (p := ⟨w.heap.size, 1, none⟩) (by simp) (.int .i64 0)).setCell (p := ⟨w.heap.size, 2, none⟩) (by simp) (.int .i64 0)).setCell (p := ⟨w.heap.size, 3, none⟩) (by simp) (.slice none 0 0)).setCell (p := ⟨w.heap.size, 4, none⟩) (by simp) (.slice none 0 0)).setCell (p := ⟨w.heap.size, 5, none⟩) (by simp) (.int .i64 7)
        exact ⟨hb6, .inl ⟨by rw [HM.out]; decide, by rw [HM.out]; rfl⟩⟩
      have HL1 := Lib.hid L1
      have HL2 := Lib.hid L2
      have HF := Lib.hid (And.intro HF1.out HF2.out)
      clear L1 L2
      go_wp2_with fail
      refine HL1.out.mono ?_
      rintro e w' ⟨rfl, rfl⟩
      go_wp2_with fail
      refine HL2.out.mono ?_
      rintro e w' ⟨rfl, rfl⟩
      go_wp2_with fail
      clear e0 e1 e2 e3 e4 e5
      go_loop [88] (fun i => ∃ k : Nat, k ≤ 3 ∧ i = .int .i64 k ∧ Hid (∀ j (hj : j < ([na, nb, nc] : List ByteArray).length), j < k → greatB ([na, nb, nc] : List ByteArray)[j] = false)) (fun i => 3 - (intOf i).toNat)
      case atStart => exact ⟨0, Nat.zero_le _, rfl, Lib.hid (fun j _ hj => absurd hj (Nat.not_lt_zero _))⟩
      case round =>
        obtain ⟨k, hk, rfl, Hok⟩ := hrel
        by_cases hlt : k < 3
        · have hlt2 : k < ([na, nb, nc] : List ByteArray).length := hlt
          have hck := HNC.out k hlt2
          have hsz := zN.out _ (List.getElem_mem hlt2)
          obtain ⟨q, hq⟩ : ∃ s, ([na, nb, nc] : List ByteArray)[k] = s := ⟨_, rfl⟩
          have HQ := Lib.hid hq
          rw [hq] at hck hsz
          clear hq
          have HI := Lib.hid (great_any q u3 (by omega))
          cases hi : greatB q <;> rw [hi] at HI <;> have HIV := Lib.hid hi <;> clear hi
          · have Hx := Lib.hid (show ∀ j (hj : j < ([na, nb, nc] : List ByteArray).length), j < k + 1 → greatB ([na, nb, nc] : List ByteArray)[j] = false from fun j hj hjk => by
              rcases Nat.lt_or_eq_of_le (Nat.le_of_lt_succ hjk) with h1 | h1
              · exact Hok.out j hj h1
              · subst h1; rw [HQ.out]; exact HIV.out)
            go_wp2_with fail
            refine HI.out.mono ?_
            rintro e w' ⟨rfl, rfl⟩
            go_wp2_with fail
            go_round
            case rel => first | exact ⟨k + 1, by omega, by go_num, Hx⟩ | ((repeat apply Exists.intro); exact ⟨⟨k + 1, by omega, by go_num, Hx⟩, rfl⟩)
            case measure => simp [intOf]; omega
          · skip
            have HM := Lib.hid (show mainE [na, nb, nc] PS [] = 2 from main2a HB5.out HF.out (any_yes hlt2 (by rw [HQ.out]; exact HIV.out)))
            go_wp2_with fail
            refine HI.out.mono ?_
            rintro e w' ⟨rfl, rfl⟩
            have f0 := KR3.out.free 0
            have f1 := KR3.out.free 1
            have f2 := KR3.out.free 2
            have f3 := KR3.out.free 3
            have f4 := KR3.out.free 4
            have f5 := KR3.out.free 5
            obtain ⟨g0, g1, g2, g3, g4, g5⟩ := cell6 KR3.out
            go_wp2_with fail
            refine bodyPost_ret (v := .agg #[.int .i64 0, .int .i64 0, .int .i64 0, .slice none 0 0, .slice none 0 0, .int .i64 2]) (by simp [results, Tryd.results9, go_sem, g0, g1, g2, g3, g4, g5, f0, f1, f2, f3, f4, f5]) rfl ?_
            have hb6 := (((((BB3.out.setCell (p := ⟨w.heap.size, 0, none⟩) (by simp) (.int .i64 0)).setCell (p := ⟨w.heap.size, 1, none⟩) (by simp) (.int .i64 0)).setCell (p := ⟨w.heap.size, 2, none⟩) (by simp) (.int .i64 0)).setCell (p := ⟨w.heap.size, 3, none⟩) (by simp) (.slice none 0 0)).setCell (p := ⟨w.heap.size, 4, none⟩) (by simp) (.slice none 0 0)).setCell (p := ⟨w.heap.size, 5, none⟩) (by simp) (.int .i64 2)
            exact ⟨hb6, .inl ⟨by rw [HM.out]; decide, by rw [HM.out]; rfl⟩⟩
        · obtain rfl : k = 3 := by omega
          have HG0 := Lib.hid (show [na, nb, nc].any greatB = false from any_no (fun j hj => Hok.out j hj hj))
          have HGR := Lib.hid (And.intro (Hok.out 0 (by simp) (by decide)) (And.intro (Hok.out 1 (by simp) (by decide)) (Hok.out 2 (by simp) (by decide))))
          clear Hok
          obtain ⟨e0, e1, e2, e3, e4, e5⟩ := cell6 KP3.out
          go_wp2_with fail
          clear e0 e1 e2 e3 e4 e5
          go_loop [100] (fun i => ∃ k : Nat, k ≤ PS.length ∧ i = .int .i64 k ∧ Hid (∀ j (hj : j < (PS : List ByteArray).length), j < k → greatB (PS : List ByteArray)[j] = false)) (fun i => PS.length - (intOf i).toNat)
          case atStart => exact ⟨0, Nat.zero_le _, rfl, Lib.hid (fun j _ hj => absurd hj (Nat.not_lt_zero _))⟩
          case round =>
            obtain ⟨k, hk, rfl, Hok⟩ := hrel
            by_cases hlt : k < PS.length
            · have hlt2 : k < (PS : List ByteArray).length := hlt
              have hsz := zP.out _ (List.getElem_mem hlt2)
              obtain ⟨pb, pof, hpo, hpb, hpc⟩ := RPvu.out.row.cells (by omega)
              subst hpo
              have hck := hpc k hlt2
              clear hpc
              obtain ⟨q, hq⟩ : ∃ s, (PS : List ByteArray)[k] = s := ⟨_, rfl⟩
              have HQ := Lib.hid hq
              rw [hq] at hck hsz
              clear hq
              have HI := Lib.hid (great_any q u3 (by omega))
              cases hi : greatB q <;> rw [hi] at HI <;> have HIV := Lib.hid hi <;> clear hi
              · have Hx := Lib.hid (show ∀ j (hj : j < (PS : List ByteArray).length), j < k + 1 → greatB (PS : List ByteArray)[j] = false from fun j hj hjk => by
                  rcases Nat.lt_or_eq_of_le (Nat.le_of_lt_succ hjk) with h1 | h1
                  · exact Hok.out j hj h1
                  · subst h1; rw [HQ.out]; exact HIV.out)
                go_wp2_with fail
                refine HI.out.mono ?_
                rintro e w' ⟨rfl, rfl⟩
                go_wp2_with fail
                go_round
                case rel => first | exact ⟨k + 1, by omega, by go_num, Hx⟩ | ((repeat apply Exists.intro); exact ⟨⟨k + 1, by omega, by go_num, Hx⟩, rfl⟩)
                case measure => simp [intOf]; omega
              · skip
                have HM := Lib.hid (show mainE [na, nb, nc] PS [] = 2 from main2b HB5.out HF.out HG0.out (any_yes hlt2 (by rw [HQ.out]; exact HIV.out)))
                go_wp2_with fail
                refine HI.out.mono ?_
                rintro e w' ⟨rfl, rfl⟩
                have f0 := KR3.out.free 0
                have f1 := KR3.out.free 1
                have f2 := KR3.out.free 2
                have f3 := KR3.out.free 3
                have f4 := KR3.out.free 4
                have f5 := KR3.out.free 5
                obtain ⟨g0, g1, g2, g3, g4, g5⟩ := cell6 KR3.out
                go_wp2_with fail
                refine bodyPost_ret (v := .agg #[.int .i64 0, .int .i64 0, .int .i64 0, .slice none 0 0, .slice none 0 0, .int .i64 2]) (by simp [results, Tryd.results9, go_sem, g0, g1, g2, g3, g4, g5, f0, f1, f2, f3, f4, f5]) rfl ?_
                have hb6 := (((((BB3.out.setCell (p := ⟨w.heap.size, 0, none⟩) (by simp) (.int .i64 0)).setCell (p := ⟨w.heap.size, 1, none⟩) (by simp) (.int .i64 0)).setCell (p := ⟨w.heap.size, 2, none⟩) (by simp) (.int .i64 0)).setCell (p := ⟨w.heap.size, 3, none⟩) (by simp) (.slice none 0 0)).setCell (p := ⟨w.heap.size, 4, none⟩) (by simp) (.slice none 0 0)).setCell (p := ⟨w.heap.size, 5, none⟩) (by simp) (.int .i64 2)
                exact ⟨hb6, .inl ⟨by rw [HM.out]; decide, by rw [HM.out]; rfl⟩⟩
            · obtain rfl : k = PS.length := by omega
              have HM := Lib.hid (main0 (BS := []) HB5.out HF.out HG0.out (any_no (fun j hj => Hok.out j hj hj)))
              clear Hok
              have V0 := fun w => Lib.hid (value_any na w (dig_num HNUM.out.1) (val_num HNUM.out.1 HGR.out.1) (zN.out na (by simp)))
              obtain ⟨y0, hy0⟩ : ∃ y, ((valL 0 na.data.toList : Nat) : Int) = y := ⟨_, rfl⟩
              rw [hy0] at V0
              have HY0 := Lib.hid hy0
              clear hy0
              have V1 := fun w => Lib.hid (value_any nb w (dig_num HNUM.out.2.1) (val_num HNUM.out.2.1 HGR.out.2.1) (zN.out nb (by simp)))
              obtain ⟨y1, hy1⟩ : ∃ y, ((valL 0 nb.data.toList : Nat) : Int) = y := ⟨_, rfl⟩
              rw [hy1] at V1
              have HY1 := Lib.hid hy1
              clear hy1
              have V2 := fun w => Lib.hid (value_any nc w (dig_num HNUM.out.2.2) (val_num HNUM.out.2.2 HGR.out.2.2) (zN.out nc (by simp)))
              obtain ⟨y2, hy2⟩ : ∃ y, ((valL 0 nc.data.toList : Nat) : Int) = y := ⟨_, rfl⟩
              rw [hy2] at V2
              have HY2 := Lib.hid hy2
              clear hy2
              have NC := N012.out
              obtain ⟨n0, n1, n2⟩ := NC
              have KPc := KP3
              have KRc := KR3
              have BBc := BB3
              have PRc := RPvu
              go_wp2_with fail
              refine (V0 _).out.mono ?_
              rintro e w' ⟨rfl, rfl⟩
              obtain ⟨x0, hx0⟩ : ∃ v, u3.setCell ⟨w.heap.size + 1, 0, none⟩ (.int .i64 y0) = v := ⟨_, rfl⟩
              have fr := KPc.out.free 0
              have ce := KPc.out.cell 0
              simp at ce
              have kp : BlockAt x0 (w.heap.size + 1) #[.int .i64 y0, .int .i64 0, .int .i64 0, .slice poo PS.length poc, .slice none 0 0, .int .i64 0] 29 := by have h := KPc.out.set 0 (.int .i64 y0); rw [hx0] at h; simpa using h
              have kr := KRc.out.other (c := w.heap.size + 1) (by omega) 0 (.int .i64 y0)
              rw [hx0] at kr
              have bw : Below w.heap.size w x0 := by rw [← hx0]; exact BBc.out.setCell (by simp) _
              have m0 : x0.cell? ⟨nnb, nof, none⟩ = some (.string na) := by rw [← hx0, World.cell?_setCell_other _ _ _ _ (by intro e; cases e <;> (have := HNB.out; have := HZ.out; have := ZZ2.out; omega))]; exact n0
              have m1 : x0.cell? ⟨nnb, nof + 1, none⟩ = some (.string nb) := by rw [← hx0, World.cell?_setCell_other _ _ _ _ (by intro e; cases e <;> (have := HNB.out; have := HZ.out; have := ZZ2.out; omega))]; exact n1
              have m2 : x0.cell? ⟨nnb, nof + 2, none⟩ = some (.string nc) := by rw [← hx0, World.cell?_setCell_other _ _ _ _ (by intro e; cases e <;> (have := HNB.out; have := HZ.out; have := ZZ2.out; omega))]; exact n2
              have pr := PRc.out.set (c := w.heap.size + 1) (k := 0) (by have := HZ.out; have := ZZ0.out; omega) (.int .i64 y0)
              rw [hx0] at pr
              clear n0 n1 n2 KPc KRc BBc PRc
              have n0 := m0
              have n1 := m1
              have n2 := m2
              clear m0 m1 m2
              have KPc := Lib.hid kp
              have KRc := Lib.hid kr
              have BBc := Lib.hid bw
              clear kp kr bw
              have PRc := Lib.hid pr
              clear pr
              go_wp2_with fail
              clear fr ce hx0
              refine (V1 _).out.mono ?_
              rintro e w' ⟨rfl, rfl⟩
              obtain ⟨x1, hx1⟩ : ∃ v, x0.setCell ⟨w.heap.size + 1, 1, none⟩ (.int .i64 y1) = v := ⟨_, rfl⟩
              have fr := KPc.out.free 1
              have ce := KPc.out.cell 1
              simp at ce
              have kp : BlockAt x1 (w.heap.size + 1) #[.int .i64 y0, .int .i64 y1, .int .i64 0, .slice poo PS.length poc, .slice none 0 0, .int .i64 0] 29 := by have h := KPc.out.set 1 (.int .i64 y1); rw [hx1] at h; simpa using h
              have kr := KRc.out.other (c := w.heap.size + 1) (by omega) 1 (.int .i64 y1)
              rw [hx1] at kr
              have bw : Below w.heap.size w x1 := by rw [← hx1]; exact BBc.out.setCell (by simp) _
              have m0 : x1.cell? ⟨nnb, nof, none⟩ = some (.string na) := by rw [← hx1, World.cell?_setCell_other _ _ _ _ (by intro e; cases e <;> (have := HNB.out; have := HZ.out; have := ZZ2.out; omega))]; exact n0
              have m1 : x1.cell? ⟨nnb, nof + 1, none⟩ = some (.string nb) := by rw [← hx1, World.cell?_setCell_other _ _ _ _ (by intro e; cases e <;> (have := HNB.out; have := HZ.out; have := ZZ2.out; omega))]; exact n1
              have m2 : x1.cell? ⟨nnb, nof + 2, none⟩ = some (.string nc) := by rw [← hx1, World.cell?_setCell_other _ _ _ _ (by intro e; cases e <;> (have := HNB.out; have := HZ.out; have := ZZ2.out; omega))]; exact n2
              have pr := PRc.out.set (c := w.heap.size + 1) (k := 1) (by have := HZ.out; have := ZZ0.out; omega) (.int .i64 y1)
              rw [hx1] at pr
              clear n0 n1 n2 KPc KRc BBc PRc
              have n0 := m0
              have n1 := m1
              have n2 := m2
              clear m0 m1 m2
              have KPc := Lib.hid kp
              have KRc := Lib.hid kr
              have BBc := Lib.hid bw
              clear kp kr bw
              have PRc := Lib.hid pr
              clear pr
              go_wp2_with fail
              clear fr ce hx1
              refine (V2 _).out.mono ?_
              rintro e w' ⟨rfl, rfl⟩
              obtain ⟨x2, hx2⟩ : ∃ v, x1.setCell ⟨w.heap.size + 1, 2, none⟩ (.int .i64 y2) = v := ⟨_, rfl⟩
              have fr := KPc.out.free 2
              have ce := KPc.out.cell 2
              simp at ce
              have kp : BlockAt x2 (w.heap.size + 1) #[.int .i64 y0, .int .i64 y1, .int .i64 y2, .slice poo PS.length poc, .slice none 0 0, .int .i64 0] 29 := by have h := KPc.out.set 2 (.int .i64 y2); rw [hx2] at h; simpa using h
              have kr := KRc.out.other (c := w.heap.size + 1) (by omega) 2 (.int .i64 y2)
              rw [hx2] at kr
              have bw : Below w.heap.size w x2 := by rw [← hx2]; exact BBc.out.setCell (by simp) _
              have m0 : x2.cell? ⟨nnb, nof, none⟩ = some (.string na) := by rw [← hx2, World.cell?_setCell_other _ _ _ _ (by intro e; cases e <;> (have := HNB.out; have := HZ.out; have := ZZ2.out; omega))]; exact n0
              have m1 : x2.cell? ⟨nnb, nof + 1, none⟩ = some (.string nb) := by rw [← hx2, World.cell?_setCell_other _ _ _ _ (by intro e; cases e <;> (have := HNB.out; have := HZ.out; have := ZZ2.out; omega))]; exact n1
              have m2 : x2.cell? ⟨nnb, nof + 2, none⟩ = some (.string nc) := by rw [← hx2, World.cell?_setCell_other _ _ _ _ (by intro e; cases e <;> (have := HNB.out; have := HZ.out; have := ZZ2.out; omega))]; exact n2
              have pr := PRc.out.set (c := w.heap.size + 1) (k := 2) (by have := HZ.out; have := ZZ0.out; omega) (.int .i64 y2)
              rw [hx2] at pr
              clear n0 n1 n2 KPc KRc BBc PRc
              have n0 := m0
              have n1 := m1
              have n2 := m2
              clear m0 m1 m2
              have KPc := Lib.hid kp
              have KRc := Lib.hid kr
              have BBc := Lib.hid bw
              clear kp kr bw
              have PRc := Lib.hid pr
              clear pr
              obtain ⟨a0, a1, a2, a3, a4, a5⟩ := cell6 KPc.out
              obtain ⟨g0, g1, g2, g3, g4, g5⟩ := cell6 KRc.out
              have f0 := KRc.out.free 0
              have f1 := KRc.out.free 1
              have f2 := KRc.out.free 2
              have f3 := KRc.out.free 3
              have f4 := KRc.out.free 4
              have f5 := KRc.out.free 5
              go_wp2_with fail
              refine bodyPost_ret (v := .agg #[.int .i64 y0, .int .i64 y1, .int .i64 y2, .slice poo PS.length poc, .slice none [].length 0, .int .i64 0]) (by simp [results, Tryd.results9, go_sem, g0, g1, g2, g3, g4, g5, f0, f1, f2, f3, f4, f5]) rfl ⟨?_, .inr ⟨HM.out, poo, poc, none, 0, by rw [HY0.out, HY1.out, HY2.out], ?_, ?_⟩⟩
              · exact (((((BBc.out.setCell (by simp) _).setCell (by simp) _).setCell (by simp) _).setCell (by simp) _).setCell (by simp) _).setCell (by simp) _
              · exact ((((((PRc.out.set (c := w.heap.size) (by have := HZ.out; have := ZZ0.out; omega) _).set (c := w.heap.size) (by have := HZ.out; have := ZZ0.out; omega) _).set (c := w.heap.size) (by have := HZ.out; have := ZZ0.out; omega) _).set (c := w.heap.size) (by have := HZ.out; have := ZZ0.out; omega) _).set (c := w.heap.size) (by have := HZ.out; have := ZZ0.out; omega) _).set (c := w.heap.size) (by have := HZ.out; have := ZZ0.out; omega) _).row
              · exact .inl rfl
set_option maxHeartbeats 64000000 in
set_option maxRecDepth 100000 in
theorem refparse_ft_len (s : ByteArray) (x b x2 p : List UInt8) (NS PS BS : List ByteArray) (w : World) (hs : s.size ≤ 1000) (hc1 : cutL 43 s.data.toList = (x, b, true)) (hc2 : cutL 45 x = (x2, p, false)) (hNS : dotsOf x2 = NS) (hPS : PS = []) (hBS : dotsOf b = BS) (t1 : ¬ NS.length = 3) :
    Calls Tryd.prog 9 #[.string s] w fun e w' => e = .returned (refErr 5) ∧ Below w.heap.size w w' := by
  have c46 : ((46 : UInt8).toNat : Int) = 46 := rfl
  have F10 := fun w => find_any s 43 w (by omega)
  have hfc43 := find_cut 43 s.data.toList
  obtain ⟨kb, hk43, hl43, hcut43⟩ : ∃ k : Nat, findL 43 s.data.toList = k ∧ k < s.data.toList.length ∧ cutL 43 s.data.toList = (s.data.toList.take k, s.data.toList.drop (k + 1), true) := by
    rcases hfc43 with ⟨_, h2⟩ | h
    · rw [hc1] at h2; simp at h2
    · exact h
  rw [hc1] at hcut43
  simp only [Prod.mk.injEq, and_true] at hcut43
  have hl43 : kb < s.size := hl43
  obtain ⟨sb, hsb⟩ : ∃ t, s.extract (kb + 1) s.size = t := ⟨_, rfl⟩
  obtain ⟨sx, hsx⟩ : ∃ t, s.extract 0 kb = t := ⟨_, rfl⟩
  have dsb : sb.data.toList = b := by rw [← hsb, ext_full _ _ (by omega), ← hcut43.2]
  have dsx : sx.data.toList = x := by rw [← hsx, ext_head, ← hcut43.1]
  have zsb : sb.size ≤ 1000 := by rw [← hsb, ByteArray.size_extract]; omega
  have zsx : sx.size ≤ 1000 := by rw [← hsx, ByteArray.size_extract]; omega
  rw [hk43] at F10
  clear hk43 hcut43 hfc43
  have F1 := fun w => Lib.hid (F10 w)
  clear F10
  simp only [show ((43 : UInt8).toNat : Int) = 43 from rfl] at F1
  have hcx : cutL 45 sx.data.toList = (x2, p, false) := by rw [dsx]; exact hc2
  have F20 := fun w => find_any sx 45 w (by omega)
  have hfc45 := find_cut 45 sx.data.toList
  have hm45 : findL 45 sx.data.toList = -1 := by
    rcases hfc45 with ⟨h1, _⟩ | ⟨k, _, _, h3⟩
    · have := find_ge 45 sx.data.toList; omega
    · rw [hcx] at h3; simp at h3
  rw [hm45] at F20
  have hno45 := cut_no (c := 45) (l := sx.data.toList) (by rw [hcx])
  clear hm45 hfc45
  have F2 := fun w => Lib.hid (F20 w)
  clear F20
  simp only [show ((45 : UInt8).toNat : Int) = 45 from rfl] at F2
  have dcore : sx.data.toList = x2 := hno45.1.symm
  have S1 := fun w => refsplit_any sx 46 w (by omega)
  rw [dcore, show partsOf 46 x2 = NS from hNS, c46] at S1
  have S1 := fun w => Lib.hid (S1 w)
  have S3 := fun w => refsplit_any sb 46 w (by omega)
  rw [dsb, show partsOf 46 b = BS from hBS, c46] at S3
  have S3 := fun w => Lib.hid (S3 w)
  have lN := dots_len x2
  rw [hNS] at lN
  have zx2 : x2.length ≤ 1000 := by rw [← dcore]; show sx.size ≤ 1000; omega
  have zN := Lib.hid (show ∀ q ∈ NS, q.size ≤ 1000 from fun q hq => by have := lN.2 q hq; omega)
  have mN : NS.length ≤ 1001 := by have := lN.1; omega
  subst hPS
  have zP := Lib.hid (show ∀ q ∈ ([] : List ByteArray), q.size ≤ 1000 by simp)
  have mP : ([] : List ByteArray).length ≤ 1001 := by decide
  have lB := dots_len b
  rw [hBS] at lB
  have zb0 : b.length ≤ 1000 := by rw [← dsb]; show sb.size ≤ 1000; omega
  have zB := Lib.hid (show ∀ q ∈ BS, q.size ≤ 1000 from fun q hq => by have := lB.2 q hq; omega)
  have mB : BS.length ≤ 1001 := by have := lB.1; omega
  clear lB zb0 hBS
  clear lN zx2 hNS c46 dcore hcx hc1 hc2 dsb dsx hno45
  obtain ⟨wa, ha⟩ : ∃ wa, w.alloc (.cells #[.int .i64 0, .int .i64 0, .int .i64 0, .slice none 0 0, .slice none 0 0, .int .i64 0] 29) = wa := ⟨_, rfl⟩
  obtain ⟨k1, q1, z1⟩ := box_new ha
  go_enter Tryd.func9, Tryd.ntmps9
  go_wp2_with fail
  clear ha
  have bq : Below wa.heap.size wa (wa.alloc (.cells #[.int .i64 0, .int .i64 0, .int .i64 0, .slice none 0 0, .slice none 0 0, .int .i64 0] 29)) := (Below.refl _ _).alloc (Nat.le_refl _) _
  have k2 := BlockAt.new wa #[.int .i64 0, .int .i64 0, .int .i64 0, .slice none 0 0, .slice none 0 0, .int .i64 0] 29
  rw [z1] at k2
  have k1b := k1.below bq
  have bw := q1.trans (bq.mono q1.size)
  have zb1 : (wa.alloc (.cells #[.int .i64 0, .int .i64 0, .int .i64 0, .slice none 0 0, .slice none 0 0, .int .i64 0] 29)).heap.size = wa.heap.size + 1 := by simp
  generalize wa.alloc (.cells #[.int .i64 0, .int .i64 0, .int .i64 0, .slice none 0 0, .slice none 0 0, .int .i64 0] 29) = wb at *
  have KR0 := Lib.hid k1b
  have KP0 := Lib.hid k2
  have BB0 := Lib.hid bw
  have HZ := Lib.hid (And.intro z1 zb1)
  have ZZ0 := Lib.hid (Nat.le_refl wb.heap.size)
  clear bq k1 k2 k1b bw zb1 q1 z1
  refine (F1 wb).out.mono ?_
  rintro e w' ⟨rfl, rfl⟩
  go_wp2_with fail
  refine (S3 wb).out.mono ?_
  rintro e u1 ⟨⟨boo, boc, rfl, rr, cc⟩, bb⟩
  have RB := Lib.hid rr
  have KP1 := Lib.hid (KP0.out.below bb)
  have KR1 := Lib.hid (KR0.out.below bb)
  have BB1 := Lib.hid (BB0.out.trans (bb.mono BB0.out.size))
  have ZZ1 := Lib.hid (Nat.le_trans ZZ0.out bb.size)
  clear rr bb cc KP0 KR0 BB0
  obtain ⟨v2, hv2⟩ : ∃ v, u1.setCell ⟨w.heap.size + 1, 4, none⟩ (.slice boo BS.length boc) = v := ⟨_, rfl⟩
  have fr := KP1.out.free 4
  have ce := KP1.out.cell 4
  simp at ce
  have kp : BlockAt v2 (w.heap.size + 1) #[.int .i64 0, .int .i64 0, .int .i64 0, .slice none 0 0, .slice boo BS.length boc, .int .i64 0] 29 := by have h := KP1.out.set 4 (.slice boo BS.length boc); rw [hv2] at h; simpa using h
  have kr := KR1.out.other (c := w.heap.size + 1) (by have := HZ.out; omega) 4 (.slice boo BS.length boc)
  rw [hv2] at kr
  have bw : Below w.heap.size w v2 := by rw [← hv2]; exact BB1.out.setCell (by simp) _
  have zz : wb.heap.size ≤ v2.heap.size := by rw [← hv2]; simpa using ZZ1.out
  have rRB := RB.out.set (c := w.heap.size + 1) (k := 4) (by have := HZ.out; have := ZZ0.out; omega) (.slice boo BS.length boc)
  rw [hv2] at rRB
  have RBv := Lib.hid rRB
  clear rRB RB
  have KP2 := Lib.hid kp
  have KR2 := Lib.hid kr
  have BB2 := Lib.hid bw
  have ZZ2 := Lib.hid zz
  clear kp kr bw zz KP1 KR1 BB1
  go_wp2_with fail
  clear fr ce hv2
  refine (F2 v2).out.mono ?_
  rintro e w' ⟨rfl, rfl⟩
  go_wp2_with fail
  refine (S1 v2).out.mono ?_
  rintro e u3 ⟨⟨noo, noc, rfl, rr, cc⟩, bb⟩
  have RN := Lib.hid rr
  have RBvu := Lib.hid (RBv.out.below bb)
  clear RBv
  have KP3 := Lib.hid (KP2.out.below bb)
  have KR3 := Lib.hid (KR2.out.below bb)
  have BB3 := Lib.hid (BB2.out.trans (bb.mono BB2.out.size))
  have ZZ3 := Lib.hid (Nat.le_trans ZZ2.out bb.size)
  clear rr bb cc KP2 KR2 BB2
  obtain ⟨e0, e1, e2, e3, e4, e5⟩ := cell6 KP3.out
  have ht1 : ((NS.length : Int) != 3) = true := by rw [bne_iff_ne]; omega
  clear t1
  have f0 := KR3.out.free 0
  have f1 := KR3.out.free 1
  have f2 := KR3.out.free 2
  have f3 := KR3.out.free 3
  have f4 := KR3.out.free 4
  have f5 := KR3.out.free 5
  obtain ⟨g0, g1, g2, g3, g4, g5⟩ := cell6 KR3.out
  go_wp2_with fail
  refine bodyPost_ret (v := .agg #[.int .i64 0, .int .i64 0, .int .i64 0, .slice none 0 0, .slice none 0 0, .int .i64 5]) (by simp [results, Tryd.results9, go_sem, g0, g1, g2, g3, g4, g5, f0, f1, f2, f3, f4, f5]) rfl ?_
  have hb6 := (((((BB3.out.setCell (p := ⟨w.heap.size, 0, none⟩) (by simp) (.int .i64 0)).setCell (p := ⟨w.heap.size, 1, none⟩) (by simp) (.int .i64 0)).setCell (p := ⟨w.heap.size, 2, none⟩) (by simp) (.int .i64 0)).setCell (p := ⟨w.heap.size, 3, none⟩) (by simp) (.slice none 0 0)).setCell (p := ⟨w.heap.size, 4, none⟩) (by simp) (.slice none 0 0)).setCell (p := ⟨w.heap.size, 5, none⟩) (by simp) (.int .i64 5)
  exact ⟨rfl, hb6⟩
set_option maxHeartbeats 64000000 in
set_option maxRecDepth 100000 in
theorem refparse_ft_bld (s : ByteArray) (x b x2 p : List UInt8) (NS PS BS : List ByteArray) (w : World) (hs : s.size ≤ 1000) (hc1 : cutL 43 s.data.toList = (x, b, true)) (hc2 : cutL 45 x = (x2, p, false)) (hNS : dotsOf x2 = NS) (hPS : PS = []) (hBS : dotsOf b = BS) (t1 : NS.length = 3) (t2 : PS.all (synB true) = true) (t3 : BS.all (synB false) = false) :
    Calls Tryd.prog 9 #[.string s] w fun e w' => e = .returned (refErr 5) ∧ Below w.heap.size w w' := by
  have c46 : ((46 : UInt8).toNat : Int) = 46 := rfl
  have F10 := fun w => find_any s 43 w (by omega)
  have hfc43 := find_cut 43 s.data.toList
  obtain ⟨kb, hk43, hl43, hcut43⟩ : ∃ k : Nat, findL 43 s.data.toList = k ∧ k < s.data.toList.length ∧ cutL 43 s.data.toList = (s.data.toList.take k, s.data.toList.drop (k + 1), true) := by
    rcases hfc43 with ⟨_, h2⟩ | h
    · rw [hc1] at h2; simp at h2
    · exact h
  rw [hc1] at hcut43
  simp only [Prod.mk.injEq, and_true] at hcut43
  have hl43 : kb < s.size := hl43
  obtain ⟨sb, hsb⟩ : ∃ t, s.extract (kb + 1) s.size = t := ⟨_, rfl⟩
  obtain ⟨sx, hsx⟩ : ∃ t, s.extract 0 kb = t := ⟨_, rfl⟩
  have dsb : sb.data.toList = b := by rw [← hsb, ext_full _ _ (by omega), ← hcut43.2]
  have dsx : sx.data.toList = x := by rw [← hsx, ext_head, ← hcut43.1]
  have zsb : sb.size ≤ 1000 := by rw [← hsb, ByteArray.size_extract]; omega
  have zsx : sx.size ≤ 1000 := by rw [← hsx, ByteArray.size_extract]; omega
  rw [hk43] at F10
  clear hk43 hcut43 hfc43
  have F1 := fun w => Lib.hid (F10 w)
  clear F10
  simp only [show ((43 : UInt8).toNat : Int) = 43 from rfl] at F1
  have hcx : cutL 45 sx.data.toList = (x2, p, false) := by rw [dsx]; exact hc2
  have F20 := fun w => find_any sx 45 w (by omega)
  have hfc45 := find_cut 45 sx.data.toList
  have hm45 : findL 45 sx.data.toList = -1 := by
    rcases hfc45 with ⟨h1, _⟩ | ⟨k, _, _, h3⟩
    · have := find_ge 45 sx.data.toList; omega
    · rw [hcx] at h3; simp at h3
  rw [hm45] at F20
  have hno45 := cut_no (c := 45) (l := sx.data.toList) (by rw [hcx])
  clear hm45 hfc45
  have F2 := fun w => Lib.hid (F20 w)
  clear F20
  simp only [show ((45 : UInt8).toNat : Int) = 45 from rfl] at F2
  have dcore : sx.data.toList = x2 := hno45.1.symm
  have S1 := fun w => refsplit_any sx 46 w (by omega)
  rw [dcore, show partsOf 46 x2 = NS from hNS, c46] at S1
  have S1 := fun w => Lib.hid (S1 w)
  have S3 := fun w => refsplit_any sb 46 w (by omega)
  rw [dsb, show partsOf 46 b = BS from hBS, c46] at S3
  have S3 := fun w => Lib.hid (S3 w)
  have lN := dots_len x2
  rw [hNS] at lN
  have zx2 : x2.length ≤ 1000 := by rw [← dcore]; show sx.size ≤ 1000; omega
  have zN := Lib.hid (show ∀ q ∈ NS, q.size ≤ 1000 from fun q hq => by have := lN.2 q hq; omega)
  have mN : NS.length ≤ 1001 := by have := lN.1; omega
  subst hPS
  have zP := Lib.hid (show ∀ q ∈ ([] : List ByteArray), q.size ≤ 1000 by simp)
  have mP : ([] : List ByteArray).length ≤ 1001 := by decide
  have lB := dots_len b
  rw [hBS] at lB
  have zb0 : b.length ≤ 1000 := by rw [← dsb]; show sb.size ≤ 1000; omega
  have zB := Lib.hid (show ∀ q ∈ BS, q.size ≤ 1000 from fun q hq => by have := lB.2 q hq; omega)
  have mB : BS.length ≤ 1001 := by have := lB.1; omega
  clear lB zb0 hBS
  clear lN zx2 hNS c46 dcore hcx hc1 hc2 dsb dsx hno45
  obtain ⟨wa, ha⟩ : ∃ wa, w.alloc (.cells #[.int .i64 0, .int .i64 0, .int .i64 0, .slice none 0 0, .slice none 0 0, .int .i64 0] 29) = wa := ⟨_, rfl⟩
  obtain ⟨k1, q1, z1⟩ := box_new ha
  go_enter Tryd.func9, Tryd.ntmps9
  go_wp2_with fail
  clear ha
  have bq : Below wa.heap.size wa (wa.alloc (.cells #[.int .i64 0, .int .i64 0, .int .i64 0, .slice none 0 0, .slice none 0 0, .int .i64 0] 29)) := (Below.refl _ _).alloc (Nat.le_refl _) _
  have k2 := BlockAt.new wa #[.int .i64 0, .int .i64 0, .int .i64 0, .slice none 0 0, .slice none 0 0, .int .i64 0] 29
  rw [z1] at k2
  have k1b := k1.below bq
  have bw := q1.trans (bq.mono q1.size)
  have zb1 : (wa.alloc (.cells #[.int .i64 0, .int .i64 0, .int .i64 0, .slice none 0 0, .slice none 0 0, .int .i64 0] 29)).heap.size = wa.heap.size + 1 := by simp
  generalize wa.alloc (.cells #[.int .i64 0, .int .i64 0, .int .i64 0, .slice none 0 0, .slice none 0 0, .int .i64 0] 29) = wb at *
  have KR0 := Lib.hid k1b
  have KP0 := Lib.hid k2
  have BB0 := Lib.hid bw
  have HZ := Lib.hid (And.intro z1 zb1)
  have ZZ0 := Lib.hid (Nat.le_refl wb.heap.size)
  clear bq k1 k2 k1b bw zb1 q1 z1
  refine (F1 wb).out.mono ?_
  rintro e w' ⟨rfl, rfl⟩
  go_wp2_with fail
  refine (S3 wb).out.mono ?_
  rintro e u1 ⟨⟨boo, boc, rfl, rr, cc⟩, bb⟩
  have RB := Lib.hid rr
  have KP1 := Lib.hid (KP0.out.below bb)
  have KR1 := Lib.hid (KR0.out.below bb)
  have BB1 := Lib.hid (BB0.out.trans (bb.mono BB0.out.size))
  have ZZ1 := Lib.hid (Nat.le_trans ZZ0.out bb.size)
  clear rr bb cc KP0 KR0 BB0
  obtain ⟨v2, hv2⟩ : ∃ v, u1.setCell ⟨w.heap.size + 1, 4, none⟩ (.slice boo BS.length boc) = v := ⟨_, rfl⟩
  have fr := KP1.out.free 4
  have ce := KP1.out.cell 4
  simp at ce
  have kp : BlockAt v2 (w.heap.size + 1) #[.int .i64 0, .int .i64 0, .int .i64 0, .slice none 0 0, .slice boo BS.length boc, .int .i64 0] 29 := by have h := KP1.out.set 4 (.slice boo BS.length boc); rw [hv2] at h; simpa using h
  have kr := KR1.out.other (c := w.heap.size + 1) (by have := HZ.out; omega) 4 (.slice boo BS.length boc)
  rw [hv2] at kr
  have bw : Below w.heap.size w v2 := by rw [← hv2]; exact BB1.out.setCell (by simp) _
  have zz : wb.heap.size ≤ v2.heap.size := by rw [← hv2]; simpa using ZZ1.out
  have rRB := RB.out.set (c := w.heap.size + 1) (k := 4) (by have := HZ.out; have := ZZ0.out; omega) (.slice boo BS.length boc)
  rw [hv2] at rRB
  have RBv := Lib.hid rRB
  clear rRB RB
  have KP2 := Lib.hid kp
  have KR2 := Lib.hid kr
  have BB2 := Lib.hid bw
  have ZZ2 := Lib.hid zz
  clear kp kr bw zz KP1 KR1 BB1
  go_wp2_with fail
  clear fr ce hv2
  refine (F2 v2).out.mono ?_
  rintro e w' ⟨rfl, rfl⟩
  go_wp2_with fail
  refine (S1 v2).out.mono ?_
  rintro e u3 ⟨⟨noo, noc, rfl, rr, cc⟩, bb⟩
  have RN := Lib.hid rr
  have RBvu := Lib.hid (RBv.out.below bb)
  clear RBv
  have KP3 := Lib.hid (KP2.out.below bb)
  have KR3 := Lib.hid (KR2.out.below bb)
  have BB3 := Lib.hid (BB2.out.trans (bb.mono BB2.out.size))
  have ZZ3 := Lib.hid (Nat.le_trans ZZ2.out bb.size)
  clear rr bb cc KP2 KR2 BB2
  obtain ⟨e0, e1, e2, e3, e4, e5⟩ := cell6 KP3.out
  have CP := syn_any none 0 [] true u3 (.inl rfl) zP.out mP
  rw [t2] at CP
  have CP := Lib.hid CP
  clear t2
  have CB := syn_any boo boc BS false u3 RBvu.out.row zB.out mB
  rw [t3] at CB
  have CB := Lib.hid CB
  clear t3
  have ht1 : ((NS.length : Int) != 3) = false := by rw [bne_eq_false_iff_eq]; omega
  clear t1
  have f0 := KR3.out.free 0
  have f1 := KR3.out.free 1
  have f2 := KR3.out.free 2
  have f3 := KR3.out.free 3
  have f4 := KR3.out.free 4
  have f5 := KR3.out.free 5
  obtain ⟨g0, g1, g2, g3, g4, g5⟩ := cell6 KR3.out
  go_wp2_with fail
  refine CP.out.mono ?_
  rintro e w' ⟨rfl, rfl⟩
  go_wp2_with fail
  refine CB.out.mono ?_
  rintro e w' ⟨rfl, rfl⟩
  go_wp2_with fail
  refine bodyPost_ret (v := .agg #[.int .i64 0, .int .i64 0, .int .i64 0, .slice none 0 0, .slice none 0 0, .int .i64 5]) (by simp [results, Tryd.results9, go_sem, g0, g1, g2, g3, g4, g5, f0, f1, f2, f3, f4, f5]) rfl ?_
  have hb6 := (((((BB3.out.setCell (p := ⟨w.heap.size, 0, none⟩) (by simp) (.int .i64 0)).setCell (p := ⟨w.heap.size, 1, none⟩) (by simp) (.int .i64 0)).setCell (p := ⟨w.heap.size, 2, none⟩) (by simp) (.int .i64 0)).setCell (p := ⟨w.heap.size, 3, none⟩) (by simp) (.slice none 0 0)).setCell (p := ⟨w.heap.size, 4, none⟩) (by simp) (.slice none 0 0)).setCell (p := ⟨w.heap.size, 5, none⟩) (by simp) (.int .i64 5)
  exact ⟨rfl, hb6⟩
set_option maxHeartbeats 64000000 in
set_option maxRecDepth 100000 in
theorem refparse_ft_main (s : ByteArray) (x b x2 p : List UInt8) (NS PS BS : List ByteArray) (w : World) (hs : s.size ≤ 1000) (hc1 : cutL 43 s.data.toList = (x, b, true)) (hc2 : cutL 45 x = (x2, p, false)) (hNS : dotsOf x2 = NS) (hPS : PS = []) (hBS : dotsOf b = BS) (na nb nc : ByteArray) (t1 : NS = [na, nb, nc]) (t2 : PS.all (synB true) = true) (t3 : BS.all (synB false) = true) :
    Calls Tryd.prog 9 #[.string s] w (RefM w na nb nc PS BS) := by
  have c46 : ((46 : UInt8).toNat : Int) = 46 := rfl
  have F10 := fun w => find_any s 43 w (by omega)
  have hfc43 := find_cut 43 s.data.toList
  obtain ⟨kb, hk43, hl43, hcut43⟩ : ∃ k : Nat, findL 43 s.data.toList = k ∧ k < s.data.toList.length ∧ cutL 43 s.data.toList = (s.data.toList.take k, s.data.toList.drop (k + 1), true) := by
    rcases hfc43 with ⟨_, h2⟩ | h
    · rw [hc1] at h2; simp at h2
    · exact h
  rw [hc1] at hcut43
  simp only [Prod.mk.injEq, and_true] at hcut43
  have hl43 : kb < s.size := hl43
  obtain ⟨sb, hsb⟩ : ∃ t, s.extract (kb + 1) s.size = t := ⟨_, rfl⟩
  obtain ⟨sx, hsx⟩ : ∃ t, s.extract 0 kb = t := ⟨_, rfl⟩
  have dsb : sb.data.toList = b := by rw [← hsb, ext_full _ _ (by omega), ← hcut43.2]
  have dsx : sx.data.toList = x := by rw [← hsx, ext_head, ← hcut43.1]
  have zsb : sb.size ≤ 1000 := by rw [← hsb, ByteArray.size_extract]; omega
  have zsx : sx.size ≤ 1000 := by rw [← hsx, ByteArray.size_extract]; omega
  rw [hk43] at F10
  clear hk43 hcut43 hfc43
  have F1 := fun w => Lib.hid (F10 w)
  clear F10
  simp only [show ((43 : UInt8).toNat : Int) = 43 from rfl] at F1
  have hcx : cutL 45 sx.data.toList = (x2, p, false) := by rw [dsx]; exact hc2
  have F20 := fun w => find_any sx 45 w (by omega)
  have hfc45 := find_cut 45 sx.data.toList
  have hm45 : findL 45 sx.data.toList = -1 := by
    rcases hfc45 with ⟨h1, _⟩ | ⟨k, _, _, h3⟩
    · have := find_ge 45 sx.data.toList; omega
    · rw [hcx] at h3; simp at h3
  rw [hm45] at F20
  have hno45 := cut_no (c := 45) (l := sx.data.toList) (by rw [hcx])
  clear hm45 hfc45
  have F2 := fun w => Lib.hid (F20 w)
  clear F20
  simp only [show ((45 : UInt8).toNat : Int) = 45 from rfl] at F2
  have dcore : sx.data.toList = x2 := hno45.1.symm
  have S1 := fun w => refsplit_any sx 46 w (by omega)
  rw [dcore, show partsOf 46 x2 = NS from hNS, c46] at S1
  have S1 := fun w => Lib.hid (S1 w)
  have S3 := fun w => refsplit_any sb 46 w (by omega)
  rw [dsb, show partsOf 46 b = BS from hBS, c46] at S3
  have S3 := fun w => Lib.hid (S3 w)
  have lN := dots_len x2
  rw [hNS] at lN
  have zx2 : x2.length ≤ 1000 := by rw [← dcore]; show sx.size ≤ 1000; omega
  have zN := Lib.hid (show ∀ q ∈ NS, q.size ≤ 1000 from fun q hq => by have := lN.2 q hq; omega)
  have mN : NS.length ≤ 1001 := by have := lN.1; omega
  subst hPS
  have zP := Lib.hid (show ∀ q ∈ ([] : List ByteArray), q.size ≤ 1000 by simp)
  have mP : ([] : List ByteArray).length ≤ 1001 := by decide
  have lB := dots_len b
  rw [hBS] at lB
  have zb0 : b.length ≤ 1000 := by rw [← dsb]; show sb.size ≤ 1000; omega
  have zB := Lib.hid (show ∀ q ∈ BS, q.size ≤ 1000 from fun q hq => by have := lB.2 q hq; omega)
  have mB : BS.length ≤ 1001 := by have := lB.1; omega
  clear lB zb0 hBS
  clear lN zx2 hNS c46 dcore hcx hc1 hc2 dsb dsx hno45
  obtain ⟨wa, ha⟩ : ∃ wa, w.alloc (.cells #[.int .i64 0, .int .i64 0, .int .i64 0, .slice none 0 0, .slice none 0 0, .int .i64 0] 29) = wa := ⟨_, rfl⟩
  obtain ⟨k1, q1, z1⟩ := box_new ha
  go_enter Tryd.func9, Tryd.ntmps9
  go_wp2_with fail
  clear ha
  have bq : Below wa.heap.size wa (wa.alloc (.cells #[.int .i64 0, .int .i64 0, .int .i64 0, .slice none 0 0, .slice none 0 0, .int .i64 0] 29)) := (Below.refl _ _).alloc (Nat.le_refl _) _
  have k2 := BlockAt.new wa #[.int .i64 0, .int .i64 0, .int .i64 0, .slice none 0 0, .slice none 0 0, .int .i64 0] 29
  rw [z1] at k2
  have k1b := k1.below bq
  have bw := q1.trans (bq.mono q1.size)
  have zb1 : (wa.alloc (.cells #[.int .i64 0, .int .i64 0, .int .i64 0, .slice none 0 0, .slice none 0 0, .int .i64 0] 29)).heap.size = wa.heap.size + 1 := by simp
  generalize wa.alloc (.cells #[.int .i64 0, .int .i64 0, .int .i64 0, .slice none 0 0, .slice none 0 0, .int .i64 0] 29) = wb at *
  have KR0 := Lib.hid k1b
  have KP0 := Lib.hid k2
  have BB0 := Lib.hid bw
  have HZ := Lib.hid (And.intro z1 zb1)
  have ZZ0 := Lib.hid (Nat.le_refl wb.heap.size)
  clear bq k1 k2 k1b bw zb1 q1 z1
  refine (F1 wb).out.mono ?_
  rintro e w' ⟨rfl, rfl⟩
  go_wp2_with fail
  refine (S3 wb).out.mono ?_
  rintro e u1 ⟨⟨boo, boc, rfl, rr, cc⟩, bb⟩
  have RB := Lib.hid rr
  have KP1 := Lib.hid (KP0.out.below bb)
  have KR1 := Lib.hid (KR0.out.below bb)
  have BB1 := Lib.hid (BB0.out.trans (bb.mono BB0.out.size))
  have ZZ1 := Lib.hid (Nat.le_trans ZZ0.out bb.size)
  clear rr bb cc KP0 KR0 BB0
  obtain ⟨v2, hv2⟩ : ∃ v, u1.setCell ⟨w.heap.size + 1, 4, none⟩ (.slice boo BS.length boc) = v := ⟨_, rfl⟩
  have fr := KP1.out.free 4
  have ce := KP1.out.cell 4
  simp at ce
  have kp : BlockAt v2 (w.heap.size + 1) #[.int .i64 0, .int .i64 0, .int .i64 0, .slice none 0 0, .slice boo BS.length boc, .int .i64 0] 29 := by have h := KP1.out.set 4 (.slice boo BS.length boc); rw [hv2] at h; simpa using h
  have kr := KR1.out.other (c := w.heap.size + 1) (by have := HZ.out; omega) 4 (.slice boo BS.length boc)
  rw [hv2] at kr
  have bw : Below w.heap.size w v2 := by rw [← hv2]; exact BB1.out.setCell (by simp) _
  have zz : wb.heap.size ≤ v2.heap.size := by rw [← hv2]; simpa using ZZ1.out
  have rRB := RB.out.set (c := w.heap.size + 1) (k := 4) (by have := HZ.out; have := ZZ0.out; omega) (.slice boo BS.length boc)
  rw [hv2] at rRB
  have RBv := Lib.hid rRB
  clear rRB RB
  have KP2 := Lib.hid kp
  have KR2 := Lib.hid kr
  have BB2 := Lib.hid bw
  have ZZ2 := Lib.hid zz
  clear kp kr bw zz KP1 KR1 BB1
  go_wp2_with fail
  clear fr ce hv2
  refine (F2 v2).out.mono ?_
  rintro e w' ⟨rfl, rfl⟩
  go_wp2_with fail
  refine (S1 v2).out.mono ?_
  rintro e u3 ⟨⟨noo, noc, rfl, rr, cc⟩, bb⟩
  have RN := Lib.hid rr
  have RBvu := Lib.hid (RBv.out.below bb)
  clear RBv
  have KP3 := Lib.hid (KP2.out.below bb)
  have KR3 := Lib.hid (KR2.out.below bb)
  have BB3 := Lib.hid (BB2.out.trans (bb.mono BB2.out.size))
  have ZZ3 := Lib.hid (Nat.le_trans ZZ2.out bb.size)
  clear rr bb cc KP2 KR2 BB2
  obtain ⟨e0, e1, e2, e3, e4, e5⟩ := cell6 KP3.out
  have CP := syn_any none 0 [] true u3 (.inl rfl) zP.out mP
  rw [t2] at CP
  have CP := Lib.hid CP
  clear t2
  have CB := syn_any boo boc BS false u3 RBvu.out.row zB.out mB
  rw [t3] at CB
  have CB := Lib.hid CB
  clear t3
  subst t1
  obtain ⟨nnb, nof, rfl, hnb0, hnb, hnc⟩ := RN.out.cellsN (by simp)
  have HNB := Lib.hid hnb0
  clear hnb0
  have n0 := hnc 0 (by simp)
  have n1 := hnc 1 (by simp)
  have n2 := hnc 2 (by simp)
  simp only [Nat.add_zero, List.getElem_cons_zero, List.getElem_cons_succ] at n0 n1 n2
  have HNC := Lib.hid hnc
  clear hnb hnc
  have N012 := Lib.hid (And.intro n0 (And.intro n1 n2))
  clear n0 n1 n2
  go_wp2_with fail
  refine CP.out.mono ?_
  rintro e w' ⟨rfl, rfl⟩
  go_wp2_with fail
  refine CB.out.mono ?_
  rintro e w' ⟨rfl, rfl⟩
  go_wp2_with fail
  clear e0 e1 e2 e3 e4 e5
  go_loop [66] (fun i => ∃ k : Nat, k ≤ 3 ∧ i = .int .i64 k ∧ Hid (∀ j (hj : j < ([na, nb, nc] : List ByteArray).length), j < k → isnumB ([na, nb, nc] : List ByteArray)[j] = true)) (fun i => 3 - (intOf i).toNat)
  case atStart => exact ⟨0, Nat.zero_le _, rfl, Lib.hid (fun j _ hj => absurd hj (Nat.not_lt_zero _))⟩
  case round =>
    obtain ⟨k, hk, rfl, Hok⟩ := hrel
    by_cases hlt : k < 3
    · have hlt2 : k < ([na, nb, nc] : List ByteArray).length := hlt
      have hck := HNC.out k hlt2
      have hsz := zN.out _ (List.getElem_mem hlt2)
      obtain ⟨q, hq⟩ : ∃ s, ([na, nb, nc] : List ByteArray)[k] = s := ⟨_, rfl⟩
      have HQ := Lib.hid hq
      rw [hq] at hck hsz
      clear hq
      have HI := Lib.hid (refnumber_any q u3 (by omega))
      cases hi : isnumB q <;> rw [hi] at HI <;> have HIV := Lib.hid hi <;> clear hi
      · skip
        have HM := Lib.hid (show mainE [na, nb, nc] [] BS = 5 from main5 (any_yes hlt2 (by rw [HQ.out]; unfold badNum; rw [HIV.out]; rfl)))
        go_wp2_with fail
        refine HI.out.mono ?_
        rintro e w' ⟨rfl, rfl⟩
        have f0 := KR3.out.free 0
        have f1 := KR3.out.free 1
        have f2 := KR3.out.free 2
        have f3 := KR3.out.free 3
        have f4 := KR3.out.free 4
        have f5 := KR3.out.free 5
        obtain ⟨g0, g1, g2, g3, g4, g5⟩ := cell6 KR3.out
        go_wp2_with fail
        refine bodyPost_ret (v := .agg #[.int .i64 0, .int .i64 0, .int .i64 0, .slice none 0 0, .slice none 0 0, .int .i64 5]) (by simp [results, Tryd.results9, go_sem, g0, g1, g2, g3, g4, g5, f0, f1, f2, f3, f4, f5]) rfl ?_
        have hb6 := (((((BB3.out.setCell (p := ⟨w.heap.size, 0, none⟩) (by simp) (.int .i64 0)).setCell (p := ⟨w.heap.size, 1, none⟩) (by simp) (.int .i64 0)).setCell (p := ⟨w.heap.size, 2, none⟩) (by simp) (.int .i64 0)).setCell (p := ⟨w.heap.size, 3, none⟩) (by simp) (.slice none 0 0)).setCell (p := ⟨w.heap.size, 4, none⟩) (by simp) (.slice none 0 0)).setCell (p := ⟨w.heap.size, 5, none⟩) (by simp) (.int .i64 5)
        exact ⟨hb6, .inl ⟨by rw [HM.out]; decide, by rw [HM.out]; rfl⟩⟩
      · have Hx := Lib.hid (show ∀ j (hj : j < ([na, nb, nc] : List ByteArray).length), j < k + 1 → isnumB ([na, nb, nc] : List ByteArray)[j] = true from fun j hj hjk => by
          rcases Nat.lt_or_eq_of_le (Nat.le_of_lt_succ hjk) with h1 | h1
          · exact Hok.out j hj h1
          · subst h1; rw [HQ.out]; exact HIV.out)
        go_wp2_with fail
        refine HI.out.mono ?_
        rintro e w' ⟨rfl, rfl⟩
        go_wp2_with fail
        go_round
        case rel => first | exact ⟨k + 1, by omega, by go_num, Hx⟩ | ((repeat apply Exists.intro); exact ⟨⟨k + 1, by omega, by go_num, Hx⟩, rfl⟩)
        case measure => simp [intOf]; omega
    · obtain rfl : k = 3 := by omega
      have HB5 := Lib.hid (show [na, nb, nc].any badNum = false from any_no (fun j hj => by unfold badNum; rw [Hok.out j hj hj]; rfl))
      have HNUM := Lib.hid (And.intro (Hok.out 0 (by simp) (by decide)) (And.intro (Hok.out 1 (by simp) (by decide)) (Hok.out 2 (by simp) (by decide))))
      clear Hok
      have L1 := lengthy_any none 0 [] u3 (.inl rfl) zP.out mP
      have L2 := lengthy_any boo boc BS u3 RBvu.out.row zB.out mB
      obtain ⟨e0, e1, e2, e3, e4, e5⟩ := cell6 KP3.out
      cases hf1 : fewB [] <;> rw [hf1] at L1 <;> have HF1 := Lib.hid hf1 <;> clear hf1
      · have HL1 := Lib.hid L1
        have HM := Lib.hid (show mainE [na, nb, nc] [] BS = 7 from main7 HB5.out (by rw [HF1.out]; rfl))
        clear L1 L2
        go_wp2_with fail
        refine HL1.out.mono ?_
        rintro e w' ⟨rfl, rfl⟩
        have f0 := KR3.out.free 0
        have f1 := KR3.out.free 1
        have f2 := KR3.out.free 2
        have f3 := KR3.out.free 3
        have f4 := KR3.out.free 4
        have f5 := KR3.out.free 5
        obtain ⟨g0, g1, g2, g3, g4, g5⟩ := cell6 KR3.out
        go_wp2_with fail
        refine bodyPost_ret (v := .agg #[.int .i64 0, .int .i64 0, .int .i64 0, .slice none 0 0, .slice none 0 0, .int .i64 7]) (by simp [results, Tryd.results9, go_sem, g0, g1, g2, g3, g4, g5, f0, f1, f2, f3, f4, f5]) rfl ?_
        have hb6 := (((((BB3.out.setCell (p := ⟨w.heap.size, 0, none⟩) (by simp) (.int .i64 0)).setCell (p := ⟨w.heap.size, 1, none⟩) (by simp) (.int .i64 0)).setCell (p := ⟨w.heap.size, 2, none⟩) (by simp) (.int .i64 0)).setCell (p := ⟨w.heap.size, 3, none⟩) (by simp) (.slice none 0 0)).setCell (p := ⟨w.heap.size, 4, none⟩) (by simp) (.slice none 0 0)).setCell (p := ⟨w.heap.size, 5, none⟩) (by simp) (.int .i64 7)
        exact ⟨hb6, .inl ⟨by rw [HM.out]; decide, by rw [HM.out]; rfl⟩⟩
      cases hf2 : fewB BS <;> rw [hf2] at L2 <;> have HF2 := Lib.hid hf2 <;> clear hf2
      · have HL1 := Lib.hid L1
        have HL2 := Lib.hid L2
        have HM := Lib.hid (show mainE [na, nb, nc] [] BS = 7 from main7 HB5.out (by first | (rw [HF1.out, HF2.out]; rfl) | (rw [HF2.out]; rfl) | (have a := HF1.out; rw [HF2.out] at a; cases a)))
        clear L1 L2
        go_wp2_with fail
        refine HL1.out.mono ?_
        rintro e w' ⟨rfl, rfl⟩
        go_wp2_with fail
        refine HL2.out.mono ?_
        rintro e w' ⟨rfl, rfl⟩
        have f0 := KR3.out.free 0
        have f1 := KR3.out.free 1
        have f2 := KR3.out.free 2
        have f3 := KR3.out.free 3
        have f4 := KR3.out.free 4
        have f5 := KR3.out.free 5
        obtain ⟨g0, g1, g2, g3, g4, g5⟩ := cell6 KR3.out
        go_wp2_with fail
        refine bodyPost_ret (v := .agg #[.int .i64 0, .int .i64 0, .int .i64 0, .slice none 0 0, .slice none 0 0, .int .i64 7]) (by simp [results, Tryd.results9, go_sem, g0, g1, g2, g3, g4, g5, f0, f1, f2, f3, f4, f5]) rfl ?_
        have hb6 := (((((BB3.out.setCell (p := ⟨w.heap.size, 0, none⟩) (by simp) (.int .i64 0)).setCell (p := ⟨w.heap.size, 1, none⟩) (by simp) (.int .i64 0)).setCell (p := ⟨w.heap.size, 2, none⟩) (by simp) (.int .i64 0)).setCell (p := ⟨w.heap.size, 3, none⟩) (by simp) (.slice none 0 0)).setCell (p := ⟨w.heap.size, 4, none⟩) (by simp) (.slice none 0 0)).setCell (p := ⟨w.heap.size, 5, none⟩) (by simp) (.int .i64 7)
        exact ⟨hb6, .inl ⟨by rw [HM.out]; decide, by rw [HM.out]; rfl⟩⟩
      have HL1 := Lib.hid L1
      have HL2 := Lib.hid L2
      have HF := Lib.hid (And.intro HF1.out HF2.out)
      clear L1 L2
      go_wp2_with fail
      refine HL1.out.mono ?_
      rintro e w' ⟨rfl, rfl⟩
      go_wp2_with fail
      refine HL2.out.mono ?_
      rintro e w' ⟨rfl, rfl⟩
      go_wp2_with fail
      clear e0 e1 e2 e3 e4 e5
      go_loop [88] (fun i => ∃ k : Nat, k ≤ 3 ∧ i = .int .i64 k ∧ Hid (∀ j (hj : j < ([na, nb, nc] : List ByteArray).length), j < k → greatB ([na, nb, nc] : List ByteArray)[j] = false)) (fun i => 3 - (intOf i).toNat)
      case atStart => exact ⟨0, Nat.zero_le _, rfl, Lib.hid (fun j _ hj => absurd hj (Nat.not_lt_zero _))⟩
      case round =>
        obtain ⟨k, hk, rfl, Hok⟩ := hrel
        by_cases hlt : k < 3
        · have hlt2 : k < ([na, nb, nc] : List ByteArray).length := hlt
          have hck := HNC.out k hlt2
          have hsz := zN.out _ (List.getElem_mem hlt2)
          obtain ⟨q, hq⟩ : ∃ s, ([na, nb, nc] : List ByteArray)[k] = s := ⟨_, rfl⟩
          have HQ := Lib.hid hq
          rw [hq] at hck hsz
          clear hq
          have HI := Lib.hid (great_any q u3 (by omega))
          cases hi : greatB q <;> rw [hi] at HI <;> have HIV := Lib.hid hi <;> clear hi
          · have Hx := Lib.hid (show ∀ j (hj : j < ([na, nb, nc] : List ByteArray).length), j < k + 1 → greatB ([na, nb, nc] : List ByteArray)[j] = false from fun j hj hjk => by
              rcases Nat.lt_or_eq_of_le (Nat.le_of_lt_succ hjk) with h1 | h1
              · exact Hok.out j hj h1
              · subst h1; rw [HQ.out]; exact HIV.out)
            go_wp2_with fail
            refine HI.out.mono ?_
            rintro e w' ⟨rfl, rfl⟩
            go_wp2_with fail
            go_round
            case rel => first | exact ⟨k + 1, by omega, by go_num, Hx⟩ | ((repeat apply Exists.intro); exact ⟨⟨k + 1, by omega, by go_num, Hx⟩, rfl⟩)
            case measure => simp [intOf]; omega
          · skip
            have HM := Lib.hid (show mainE [na, nb, nc] [] BS = 2 from main2a HB5.out HF.out (any_yes hlt2 (by rw [HQ.out]; exact HIV.out)))
            go_wp2_with fail
            refine HI.out.mono ?_
            rintro e w' ⟨rfl, rfl⟩
            have f0 := KR3.out.free 0
            have f1 := KR3.out.free 1
            have f2 := KR3.out.free 2
            have f3 := KR3.out.free 3
            have f4 := KR3.out.free 4
            have f5 := KR3.out.free 5
            obtain ⟨g0, g1, g2, g3, g4, g5⟩ := cell6 KR3.out
            go_wp2_with fail
            refine bodyPost_ret (v := .agg #[.int .i64 0, .int .i64 0, .int .i64 0, .slice none 0 0, .slice none 0 0, .int .i64 2]) (by simp [results, Tryd.results9, go_sem, g0, g1, g2, g3, g4, g5, f0, f1, f2, f3, f4, f5]) rfl ?_
            have hb6 := (((((BB3.out.setCell (p := ⟨w.heap.size, 0, none⟩) (by simp) (.int .i64 0)).setCell (p := ⟨w.heap.size, 1, none⟩) (by simp) (.int .i64 0)).setCell (p := ⟨w.heap.size, 2, none⟩) (by simp) (.int .i64 0)).setCell (p := ⟨w.heap.size, 3, none⟩) (by simp) (.slice none 0 0)).setCell (p := ⟨w.heap.size, 4, none⟩) (by simp) (.slice none 0 0)).setCell (p := ⟨w.heap.size, 5, none⟩) (by simp) (.int .i64 2)
            exact ⟨hb6, .inl ⟨by rw [HM.out]; decide, by rw [HM.out]; rfl⟩⟩
        · obtain rfl : k = 3 := by omega
          have HG0 := Lib.hid (show [na, nb, nc].any greatB = false from any_no (fun j hj => Hok.out j hj hj))
          have HGR := Lib.hid (And.intro (Hok.out 0 (by simp) (by decide)) (And.intro (Hok.out 1 (by simp) (by decide)) (Hok.out 2 (by simp) (by decide))))
          clear Hok
          obtain ⟨e0, e1, e2, e3, e4, e5⟩ := cell6 KP3.out
          go_wp2_with fail
          clear e0 e1 e2 e3 e4 e5
          go_loop [100] (fun i => i = .int .i64 0) (fun _ => 0)
          case atStart => rfl
          case round =>
            subst hrel
            have Hok := Lib.hid (show ∀ j (hj : j < ([] : List ByteArray).length), j < 0 → greatB ([] : List ByteArray)[j] = false from fun j hj _ => absurd hj (Nat.not_lt_zero _))
            have HM := Lib.hid (main0 (BS := BS) HB5.out HF.out HG0.out (show ([] : List ByteArray).any greatB = false from rfl))
            clear Hok
            have V0 := fun w => Lib.hid (value_any na w (dig_num HNUM.out.1) (val_num HNUM.out.1 HGR.out.1) (zN.out na (by simp)))
            obtain ⟨y0, hy0⟩ : ∃ y, ((valL 0 na.data.toList : Nat) : Int) = y := ⟨_, rfl⟩
            rw [hy0] at V0
            have HY0 := Lib.hid hy0
            clear hy0
            have V1 := fun w => Lib.hid (value_any nb w (dig_num HNUM.out.2.1) (val_num HNUM.out.2.1 HGR.out.2.1) (zN.out nb (by simp)))
            obtain ⟨y1, hy1⟩ : ∃ y, ((valL 0 nb.data.toList : Nat) : Int) = y := ⟨_, rfl⟩
            rw [hy1] at V1
            have HY1 := Lib.hid hy1
            clear hy1
            have V2 := fun w => Lib.hid (value_any nc w (dig_num HNUM.out.2.2) (val_num HNUM.out.2.2 HGR.out.2.2) (zN.out nc (by simp)))
            obtain ⟨y2, hy2⟩ : ∃ y, ((valL 0 nc.data.toList : Nat) : Int) = y := ⟨_, rfl⟩
            rw [hy2] at V2
            have HY2 := Lib.hid hy2
            clear hy2
            have NC := N012.out
            obtain ⟨n0, n1, n2⟩ := NC
            have KPc := KP3
            have KRc := KR3
            have BBc := BB3
            have BRc := RBvu
            go_wp2_with fail
            refine (V0 _).out.mono ?_
            rintro e w' ⟨rfl, rfl⟩
            obtain ⟨x0, hx0⟩ : ∃ v, u3.setCell ⟨w.heap.size + 1, 0, none⟩ (.int .i64 y0) = v := ⟨_, rfl⟩
            have fr := KPc.out.free 0
            have ce := KPc.out.cell 0
            simp at ce
            have kp : BlockAt x0 (w.heap.size + 1) #[.int .i64 y0, .int .i64 0, .int .i64 0, .slice none 0 0, .slice boo BS.length boc, .int .i64 0] 29 := by have h := KPc.out.set 0 (.int .i64 y0); rw [hx0] at h; simpa using h
            have kr := KRc.out.other (c := w.heap.size + 1) (by omega) 0 (.int .i64 y0)
            rw [hx0] at kr
            have bw : Below w.heap.size w x0 := by rw [← hx0]; exact BBc.out.setCell (by simp) _
            have m0 : x0.cell? ⟨nnb, nof, none⟩ = some (.string na) := by rw [← hx0, World.cell?_setCell_other _ _ _ _ (by intro e; cases e <;> (have := HNB.out; have := HZ.out; have := ZZ2.out; omega))]; exact n0
            have m1 : x0.cell? ⟨nnb, nof + 1, none⟩ = some (.string nb) := by rw [← hx0, World.cell?_setCell_other _ _ _ _ (by intro e; cases e <;> (have := HNB.out; have := HZ.out; have := ZZ2.out; omega))]; exact n1
            have m2 : x0.cell? ⟨nnb, nof + 2, none⟩ = some (.string nc) := by rw [← hx0, World.cell?_setCell_other _ _ _ _ (by intro e; cases e <;> (have := HNB.out; have := HZ.out; have := ZZ2.out; omega))]; exact n2
            have br := BRc.out.set (c := w.heap.size + 1) (k := 0) (by have := HZ.out; have := ZZ0.out; omega) (.int .i64 y0)
            rw [hx0] at br
            clear n0 n1 n2 KPc KRc BBc BRc
            have n0 := m0
            have n1 := m1
            have n2 := m2
            clear m0 m1 m2
            have KPc := Lib.hid kp
            have KRc := Lib.hid kr
            have BBc := Lib.hid bw
            clear kp kr bw
            have BRc := Lib.hid br
            clear br
            go_wp2_with fail
            clear fr ce hx0
            refine (V1 _).out.mono ?_
            rintro e w' ⟨rfl, rfl⟩
            obtain ⟨x1, hx1⟩ : ∃ v, x0.setCell ⟨w.heap.size + 1, 1, none⟩ (.int .i64 y1) = v := ⟨_, rfl⟩
            have fr := KPc.out.free 1
            have ce := KPc.out.cell 1
            simp at ce
            have kp : BlockAt x1 (w.heap.size + 1) #[.int .i64 y0, .int .i64 y1, .int .i64 0, .slice none 0 0, .slice boo BS.length boc, .int .i64 0] 29 := by have h := KPc.out.set 1 (.int .i64 y1); rw [hx1] at h; simpa using h
            have kr := KRc.out.other (c := w.heap.size + 1) (by omega) 1 (.int .i64 y1)
            rw [hx1] at kr
            have bw : Below w.heap.size w x1 := by rw [← hx1]; exact BBc.out.setCell (by simp) _
            have m0 : x1.cell? ⟨nnb, nof, none⟩ = some (.string na) := by rw [← hx1, World.cell?_setCell_other _ _ _ _ (by intro e; cases e <;> (have := HNB.out; have := HZ.out; have := ZZ2.out; omega))]; exact n0
            have m1 : x1.cell? ⟨nnb, nof + 1, none⟩ = some (.string nb) := by rw [← hx1, World.cell?_setCell_other _ _ _ _ (by intro e; cases e <;> (have := HNB.out; have := HZ.out; have := ZZ2.out; omega))]; exact n1
            have m2 : x1.cell? ⟨nnb, nof + 2, none⟩ = some (.string nc) := by rw [← hx1, World.cell?_setCell_other _ _ _ _ (by intro e; cases e <;> (have := HNB.out; have := HZ.out; have := ZZ2.out; omega))]; exact n2
            have br := BRc.out.set (c := w.heap.size + 1) (k := 1) (by have := HZ.out; have := ZZ0.out; omega) (.int .i64 y1)
            rw [hx1] at br
            clear n0 n1 n2 KPc KRc BBc BRc
            have n0 := m0
            have n1 := m1
            have n2 := m2
            clear m0 m1 m2
            have KPc := Lib.hid kp
            have KRc := Lib.hid kr
            have BBc := Lib.hid bw
            clear kp kr bw
            have BRc := Lib.hid br
            clear br
            go_wp2_with fail
            clear fr ce hx1
            refine (V2 _).out.mono ?_
            rintro e w' ⟨rfl, rfl⟩
            obtain ⟨x2, hx2⟩ : ∃ v, x1.setCell ⟨w.heap.size + 1, 2, none⟩ (.int .i64 y2) = v := ⟨_, rfl⟩
            have fr := KPc.out.free 2
            have ce := KPc.out.cell 2
            simp at ce
            have kp : BlockAt x2 (w.heap.size + 1) #[.int .i64 y0, .int .i64 y1, .int .i64 y2, .slice none 0 0, .slice boo BS.length boc, .int .i64 0] 29 := by have h := KPc.out.set 2 (.int .i64 y2); rw [hx2] at h; simpa using h
            have kr := KRc.out.other (c := w.heap.size + 1) (by omega) 2 (.int .i64 y2)
            rw [hx2] at kr
            have bw : Below w.heap.size w x2 := by rw [← hx2]; exact BBc.out.setCell (by simp) _
            have m0 : x2.cell? ⟨nnb, nof, none⟩ = some (.string na) := by rw [← hx2, World.cell?_setCell_other _ _ _ _ (by intro e; cases e <;> (have := HNB.out; have := HZ.out; have := ZZ2.out; omega))]; exact n0
            have m1 : x2.cell? ⟨nnb, nof + 1, none⟩ = some (.string nb) := by rw [← hx2, World.cell?_setCell_other _ _ _ _ (by intro e; cases e <;> (have := HNB.out; have := HZ.out; have := ZZ2.out; omega))]; exact n1
            have m2 : x2.cell? ⟨nnb, nof + 2, none⟩ = some (.string nc) := by rw [← hx2, World.cell?_setCell_other _ _ _ _ (by intro e; cases e <;> (have := HNB.out; have := HZ.out; have := ZZ2.out; omega))]; exact n2
            have br := BRc.out.set (c := w.heap.size + 1) (k := 2) (by have := HZ.out; have := ZZ0.out; omega) (.int .i64 y2)
            rw [hx2] at br
            clear n0 n1 n2 KPc KRc BBc BRc
            have n0 := m0
            have n1 := m1
            have n2 := m2
            clear m0 m1 m2
            have KPc := Lib.hid kp
            have KRc := Lib.hid kr
            have BBc := Lib.hid bw
            clear kp kr bw
            have BRc := Lib.hid br
            clear br
            obtain ⟨a0, a1, a2, a3, a4, a5⟩ := cell6 KPc.out
            obtain ⟨g0, g1, g2, g3, g4, g5⟩ := cell6 KRc.out
            have f0 := KRc.out.free 0
            have f1 := KRc.out.free 1
            have f2 := KRc.out.free 2
            have f3 := KRc.out.free 3
            have f4 := KRc.out.free 4
            have f5 := KRc.out.free 5
            go_wp2_with fail
            refine bodyPost_ret (v := .agg #[.int .i64 y0, .int .i64 y1, .int .i64 y2, .slice none [].length 0, .slice boo BS.length boc, .int .i64 0]) (by simp [results, Tryd.results9, go_sem, g0, g1, g2, g3, g4, g5, f0, f1, f2, f3, f4, f5]) rfl ⟨?_, .inr ⟨HM.out, none, 0, boo, boc, by rw [HY0.out, HY1.out, HY2.out], ?_, ?_⟩⟩
            · exact (((((BBc.out.setCell (by simp) _).setCell (by simp) _).setCell (by simp) _).setCell (by simp) _).setCell (by simp) _).setCell (by simp) _
            · exact .inl rfl
            · exact ((((((BRc.out.set (c := w.heap.size) (by have := HZ.out; have := ZZ0.out; omega) _).set (c := w.heap.size) (by have := HZ.out; have := ZZ0.out; omega) _).set (c := w.heap.size) (by have := HZ.out; have := ZZ0.out; omega) _).set (c := w.heap.size) (by have := HZ.out; have := ZZ0.out; omega) _).set (c := w.heap.size) (by have := HZ.out; have := ZZ0.out; omega) _).set (c := w.heap.size) (by have := HZ.out; have := ZZ0.out; omega) _).row
set_option maxHeartbeats 64000000 in
set_option maxRecDepth 100000 in
theorem refparse_ff_len (s : ByteArray) (x b x2 p : List UInt8) (NS PS BS : List ByteArray) (w : World) (hs : s.size ≤ 1000) (hc1 : cutL 43 s.data.toList = (x, b, false)) (hc2 : cutL 45 x = (x2, p, false)) (hNS : dotsOf x2 = NS) (hPS : PS = []) (hBS : BS = []) (t1 : ¬ NS.length = 3) :
    Calls Tryd.prog 9 #[.string s] w fun e w' => e = .returned (refErr 5) ∧ Below w.heap.size w w' := by
  have c46 : ((46 : UInt8).toNat : Int) = 46 := rfl
  have F10 := fun w => find_any s 43 w (by omega)
  have hfc43 := find_cut 43 s.data.toList
  have hm43 : findL 43 s.data.toList = -1 := by
    rcases hfc43 with ⟨h1, _⟩ | ⟨k, _, _, h3⟩
    · have := find_ge 43 s.data.toList; omega
    · rw [hc1] at h3; simp at h3
  rw [hm43] at F10
  have hno43 := cut_no (c := 43) (l := s.data.toList) (by rw [hc1])
  clear hm43 hfc43
  have F1 := fun w => Lib.hid (F10 w)
  clear F10
  simp only [show ((43 : UInt8).toNat : Int) = 43 from rfl] at F1
  have hcx : cutL 45 s.data.toList = (x2, p, false) := by rw [← hno43.1]; exact hc2
  have F20 := fun w => find_any s 45 w (by omega)
  have hfc45 := find_cut 45 s.data.toList
  have hm45 : findL 45 s.data.toList = -1 := by
    rcases hfc45 with ⟨h1, _⟩ | ⟨k, _, _, h3⟩
    · have := find_ge 45 s.data.toList; omega
    · rw [hcx] at h3; simp at h3
  rw [hm45] at F20
  have hno45 := cut_no (c := 45) (l := s.data.toList) (by rw [hcx])
  clear hm45 hfc45
  have F2 := fun w => Lib.hid (F20 w)
  clear F20
  simp only [show ((45 : UInt8).toNat : Int) = 45 from rfl] at F2
  have dcore : s.data.toList = x2 := hno45.1.symm
  have S1 := fun w => refsplit_any s 46 w (by omega)
  rw [dcore, show partsOf 46 x2 = NS from hNS, c46] at S1
  have S1 := fun w => Lib.hid (S1 w)
  have lN := dots_len x2
  rw [hNS] at lN
  have zx2 : x2.length ≤ 1000 := by rw [← dcore]; show s.size ≤ 1000; omega
  have zN := Lib.hid (show ∀ q ∈ NS, q.size ≤ 1000 from fun q hq => by have := lN.2 q hq; omega)
  have mN : NS.length ≤ 1001 := by have := lN.1; omega
  subst hPS
  have zP := Lib.hid (show ∀ q ∈ ([] : List ByteArray), q.size ≤ 1000 by simp)
  have mP : ([] : List ByteArray).length ≤ 1001 := by decide
  subst hBS
  have zB := Lib.hid (show ∀ q ∈ ([] : List ByteArray), q.size ≤ 1000 by simp)
  have mB : ([] : List ByteArray).length ≤ 1001 := by decide
  clear lN zx2 hNS c46 dcore hcx hc1 hc2 hno43 hno45
  obtain ⟨wa, ha⟩ : ∃ wa, w.alloc (.cells #[.int .i64 0, .int .i64 0, .int .i64 0, .slice none 0 0, .slice none 0 0, .int .i64 0] 29) = wa := ⟨_, rfl⟩
  obtain ⟨k1, q1, z1⟩ := box_new ha
  go_enter Tryd.func9, Tryd.ntmps9
  go_wp2_with fail
  clear ha
  have bq : Below wa.heap.size wa (wa.alloc (.cells #[.int .i64 0, .int .i64 0, .int .i64 0, .slice none 0 0, .slice none 0 0, .int .i64 0] 29)) := (Below.refl _ _).alloc (Nat.le_refl _) _
  have k2 := BlockAt.new wa #[.int .i64 0, .int .i64 0, .int .i64 0, .slice none 0 0, .slice none 0 0, .int .i64 0] 29
  rw [z1] at k2
  have k1b := k1.below bq
  have bw := q1.trans (bq.mono q1.size)
  have zb1 : (wa.alloc (.cells #[.int .i64 0, .int .i64 0, .int .i64 0, .slice none 0 0, .slice none 0 0, .int .i64 0] 29)).heap.size = wa.heap.size + 1 := by simp
  generalize wa.alloc (.cells #[.int .i64 0, .int .i64 0, .int .i64 0, .slice none 0 0, .slice none 0 0, .int .i64 0] 29) = wb at *
  have KR0 := Lib.hid k1b
  have KP0 := Lib.hid k2
  have BB0 := Lib.hid bw
  have HZ := Lib.hid (And.intro z1 zb1)
  have ZZ0 := Lib.hid (Nat.le_refl wb.heap.size)
  clear bq k1 k2 k1b bw zb1 q1 z1
  refine (F1 wb).out.mono ?_
  rintro e w' ⟨rfl, rfl⟩
  go_wp2_with fail
  refine (F2 wb).out.mono ?_
  rintro e w' ⟨rfl, rfl⟩
  go_wp2_with fail
  refine (S1 wb).out.mono ?_
  rintro e u1 ⟨⟨noo, noc, rfl, rr, cc⟩, bb⟩
  have RN := Lib.hid rr
  have KP1 := Lib.hid (KP0.out.below bb)
  have KR1 := Lib.hid (KR0.out.below bb)
  have BB1 := Lib.hid (BB0.out.trans (bb.mono BB0.out.size))
  have ZZ1 := Lib.hid (Nat.le_trans ZZ0.out bb.size)
  clear rr bb cc KP0 KR0 BB0
  obtain ⟨e0, e1, e2, e3, e4, e5⟩ := cell6 KP1.out
  have ht1 : ((NS.length : Int) != 3) = true := by rw [bne_iff_ne]; omega
  clear t1
  have f0 := KR1.out.free 0
  have f1 := KR1.out.free 1
  have f2 := KR1.out.free 2
  have f3 := KR1.out.free 3
  have f4 := KR1.out.free 4
  have f5 := KR1.out.free 5
  obtain ⟨g0, g1, g2, g3, g4, g5⟩ := cell6 KR1.out
  go_wp2_with fail
  refine bodyPost_ret (v := .agg #[.int .i64 0, .int .i64 0, .int .i64 0, .slice none 0 0, .slice none 0 0, .int .i64 5]) (by simp [results, Tryd.results9, go_sem, g0, g1, g2, g3, g4, g5, f0, f1, f2, f3, f4, f5]) rfl ?_
  have hb6 := (((((BB1.out.setCell (p := ⟨w.heap.size, 0, none⟩) (by simp) (.int .i64 0)).setCell (p := ⟨w.heap.size, 1, none⟩) (by simp) (.int .i64 0)).setCell (p := ⟨w.heap.size, 2, none⟩) (by simp) (.int .i64 0)).setCell (p := ⟨w.heap.size, 3, none⟩) (by simp) (.slice none 0 0)).setCell (p := ⟨w.heap.size, 4, none⟩) (by simp) (.slice none 0 0)).setCell (p := ⟨w.heap.size, 5, none⟩) (by simp) (.int .i64 5)
  exact ⟨rfl, hb6⟩
set_option maxHeartbeats 64000000 in
set_option maxRecDepth 100000 in
theorem refparse_ff_main (s : ByteArray) (x b x2 p : List UInt8) (NS PS BS : List ByteArray) (w : World) (hs : s.size ≤ 1000) (hc1 : cutL 43 s.data.toList = (x, b, false)) (hc2 : cutL 45 x = (x2, p, false)) (hNS : dotsOf x2 = NS) (hPS : PS = []) (hBS : BS = []) (na nb nc : ByteArray) (t1 : NS = [na, nb, nc]) (t2 : PS.all (synB true) = true) (t3 : BS.all (synB false) = true) :
    Calls Tryd.prog 9 #[.string s] w (RefM w na nb nc PS BS) := by
  have c46 : ((46 : UInt8).toNat : Int) = 46 := rfl
  have F10 := fun w => find_any s 43 w (by omega)
  have hfc43 := find_cut 43 s.data.toList
  have hm43 : findL 43 s.data.toList = -1 := by
    rcases hfc43 with ⟨h1, _⟩ | ⟨k, _, _, h3⟩
    · have := find_ge 43 s.data.toList; omega
    · rw [hc1] at h3; simp at h3
  rw [hm43] at F10
  have hno43 := cut_no (c := 43) (l := s.data.toList) (by rw [hc1])
  clear hm43 hfc43
  have F1 := fun w => Lib.hid (F10 w)
  clear F10
  simp only [show ((43 : UInt8).toNat : Int) = 43 from rfl] at F1
  have hcx : cutL 45 s.data.toList = (x2, p, false) := by rw [← hno43.1]; exact hc2
  have F20 := fun w => find_any s 45 w (by omega)
  have hfc45 := find_cut 45 s.data.toList
  have hm45 : findL 45 s.data.toList = -1 := by
    rcases hfc45 with ⟨h1, _⟩ | ⟨k, _, _, h3⟩
    · have := find_ge 45 s.data.toList; omega
    · rw [hcx] at h3; simp at h3
  rw [hm45] at F20
  have hno45 := cut_no (c := 45) (l := s.data.toList) (by rw [hcx])
  clear hm45 hfc45
  have F2 := fun w => Lib.hid (F20 w)
  clear F20
  simp only [show ((45 : UInt8).toNat : Int) = 45 from rfl] at F2
  have dcore : s.data.toList = x2 := hno45.1.symm
  have S1 := fun w => refsplit_any s 46 w (by omega)
  rw [dcore, show partsOf 46 x2 = NS from hNS, c46] at S1
  have S1 := fun w => Lib.hid (S1 w)
  have lN := dots_len x2
  rw [hNS] at lN
  have zx2 : x2.length ≤ 1000 := by rw [← dcore]; show s.size ≤ 1000; omega
  have zN := Lib.hid (show ∀ q ∈ NS, q.size ≤ 1000 from fun q hq => by have := lN.2 q hq; omega)
  have mN : NS.length ≤ 1001 := by have := lN.1; omega
  subst hPS
  have zP := Lib.hid (show ∀ q ∈ ([] : List ByteArray), q.size ≤ 1000 by simp)
  have mP : ([] : List ByteArray).length ≤ 1001 := by decide
  subst hBS
  have zB := Lib.hid (show ∀ q ∈ ([] : List ByteArray), q.size ≤ 1000 by simp)
  have mB : ([] : List ByteArray).length ≤ 1001 := by decide
  clear lN zx2 hNS c46 dcore hcx hc1 hc2 hno43 hno45
  obtain ⟨wa, ha⟩ : ∃ wa, w.alloc (.cells #[.int .i64 0, .int .i64 0, .int .i64 0, .slice none 0 0, .slice none 0 0, .int .i64 0] 29) = wa := ⟨_, rfl⟩
  obtain ⟨k1, q1, z1⟩ := box_new ha
  go_enter Tryd.func9, Tryd.ntmps9
  go_wp2_with fail
  clear ha
  have bq : Below wa.heap.size wa (wa.alloc (.cells #[.int .i64 0, .int .i64 0, .int .i64 0, .slice none 0 0, .slice none 0 0, .int .i64 0] 29)) := (Below.refl _ _).alloc (Nat.le_refl _) _
  have k2 := BlockAt.new wa #[.int .i64 0, .int .i64 0, .int .i64 0, .slice none 0 0, .slice none 0 0, .int .i64 0] 29
  rw [z1] at k2
  have k1b := k1.below bq
  have bw := q1.trans (bq.mono q1.size)
  have zb1 : (wa.alloc (.cells #[.int .i64 0, .int .i64 0, .int .i64 0, .slice none 0 0, .slice none 0 0, .int .i64 0] 29)).heap.size = wa.heap.size + 1 := by simp
  generalize wa.alloc (.cells #[.int .i64 0, .int .i64 0, .int .i64 0, .slice none 0 0, .slice none 0 0, .int .i64 0] 29) = wb at *
  have KR0 := Lib.hid k1b
  have KP0 := Lib.hid k2
  have BB0 := Lib.hid bw
  have HZ := Lib.hid (And.intro z1 zb1)
  have ZZ0 := Lib.hid (Nat.le_refl wb.heap.size)
  clear bq k1 k2 k1b bw zb1 q1 z1
  refine (F1 wb).out.mono ?_
  rintro e w' ⟨rfl, rfl⟩
  go_wp2_with fail
  refine (F2 wb).out.mono ?_
  rintro e w' ⟨rfl, rfl⟩
  go_wp2_with fail
  refine (S1 wb).out.mono ?_
  rintro e u1 ⟨⟨noo, noc, rfl, rr, cc⟩, bb⟩
  have RN := Lib.hid rr
  have KP1 := Lib.hid (KP0.out.below bb)
  have KR1 := Lib.hid (KR0.out.below bb)
  have BB1 := Lib.hid (BB0.out.trans (bb.mono BB0.out.size))
  have ZZ1 := Lib.hid (Nat.le_trans ZZ0.out bb.size)
  clear rr bb cc KP0 KR0 BB0
  obtain ⟨e0, e1, e2, e3, e4, e5⟩ := cell6 KP1.out
  have CP := syn_any none 0 [] true u1 (.inl rfl) zP.out mP
  rw [t2] at CP
  have CP := Lib.hid CP
  clear t2
  have CB := syn_any none 0 [] false u1 (.inl rfl) zB.out mB
  rw [t3] at CB
  have CB := Lib.hid CB
  clear t3
  subst t1
  obtain ⟨nnb, nof, rfl, hnb0, hnb, hnc⟩ := RN.out.cellsN (by simp)
  have HNB := Lib.hid hnb0
  clear hnb0
  have n0 := hnc 0 (by simp)
  have n1 := hnc 1 (by simp)
  have n2 := hnc 2 (by simp)
  simp only [Nat.add_zero, List.getElem_cons_zero, List.getElem_cons_succ] at n0 n1 n2
  have HNC := Lib.hid hnc
  clear hnb hnc
  have N012 := Lib.hid (And.intro n0 (And.intro n1 n2))
  clear n0 n1 n2
  go_wp2_with fail
  refine CP.out.mono ?_
  rintro e w' ⟨rfl, rfl⟩
  go_wp2_with fail
  refine CB.out.mono ?_
  rintro e w' ⟨rfl, rfl⟩
  go_wp2_with fail
  clear e0 e1 e2 e3 e4 e5
  go_loop [66] (fun i => ∃ k : Nat, k ≤ 3 ∧ i = .int .i64 k ∧ Hid (∀ j (hj : j < ([na, nb, nc] : List ByteArray).length), j < k → isnumB ([na, nb, nc] : List ByteArray)[j] = true)) (fun i => 3 - (intOf i).toNat)
  case atStart => exact ⟨0, Nat.zero_le _, rfl, Lib.hid (fun j _ hj => absurd hj (Nat.not_lt_zero _))⟩
  case round =>
    obtain ⟨k, hk, rfl, Hok⟩ := hrel
    by_cases hlt : k < 3
    · have hlt2 : k < ([na, nb, nc] : List ByteArray).length := hlt
      have hck := HNC.out k hlt2
      have hsz := zN.out _ (List.getElem_mem hlt2)
      obtain ⟨q, hq⟩ : ∃ s, ([na, nb, nc] : List ByteArray)[k] = s := ⟨_, rfl⟩
      have HQ := Lib.hid hq
      rw [hq] at hck hsz
      clear hq
      have HI := Lib.hid (refnumber_any q u1 (by omega))
      cases hi : isnumB q <;> rw [hi] at HI <;> have HIV := Lib.hid hi <;> clear hi
      · skip
        have HM := Lib.hid (show mainE [na, nb, nc] [] [] = 5 from main5 (any_yes hlt2 (by rw [HQ.out]; unfold badNum; rw [HIV.out]; rfl)))
        go_wp2_with fail
        refine HI.out.mono ?_
        rintro e w' ⟨rfl, rfl⟩
        have f0 := KR1.out.free 0
        have f1 := KR1.out.free 1
        have f2 := KR1.out.free 2
        have f3 := KR1.out.free 3
        have f4 := KR1.out.free 4
        have f5 := KR1.out.free 5
        obtain ⟨g0, g1, g2, g3, g4, g5⟩ := cell6 KR1.out
        go_wp2_with fail
        refine bodyPost_ret (v := .agg #[.int .i64 0, .int .i64 0, .int .i64 0, .slice none 0 0, .slice none 0 0, .int .i64 5]) (by simp [results, Tryd.results9, go_sem, g0, g1, g2, g3, g4, g5, f0, f1, f2, f3, f4, f5]) rfl ?_
        have hb6 := (((((BB1.out.setCell (p := ⟨w.heap.size, 0, none⟩) (by simp) (.int .i64 0)).setCell (p := ⟨w.heap.size, 1, none⟩) (by simp) (.int .i64 0)).setCell (p := ⟨w.heap.size, 2, none⟩) (by simp) (.int .i64 0)).setCell (p := ⟨w.heap.size, 3, none⟩) (by simp) (.slice none 0 0)).setCell (p := ⟨w.heap.size, 4, none⟩) (by simp) (.slice none 0 0)).setCell (p := ⟨w.heap.size, 5, none⟩) (by simp) (.int .i64 5)
        exact ⟨hb6, .inl ⟨by rw [HM.out]; decide, by rw [HM.out]; rfl⟩⟩
      · have Hx := Lib.hid (show ∀ j (hj : j < ([na, nb, nc] : List ByteArray).length), j < k + 1 → isnumB ([na, nb, nc] : List ByteArray)[j] = true from fun j hj hjk => by
          rcases Nat.lt_or_eq_of_le (Nat.le_of_lt_succ hjk) with h1 | h1
          · exact Hok.out j hj h1
          · subst h1; rw [HQ.out]; exact HIV.out)
        go_wp2_with fail
        refine HI.out.mono ?_
        rintro e w' ⟨rfl, rfl⟩
        go_wp2_with fail
        go_round
        case rel => first | exact ⟨k + 1, by omega, by go_num, Hx⟩ | ((repeat apply Exists.intro); exact ⟨⟨k + 1, by omega, by go_num, Hx⟩, rfl⟩)
        case measure => simp [intOf]; omega
    · obtain rfl : k = 3 := by omega
      have HB5 := Lib.hid (show [na, nb, nc].any badNum = false from any_no (fun j hj => by unfold badNum; rw [Hok.out j hj hj]; rfl))
      have HNUM := Lib.hid (And.intro (Hok.out 0 (by simp) (by decide)) (And.intro (Hok.out 1 (by simp) (by decide)) (Hok.out 2 (by simp) (by decide))))
      clear Hok
      have L1 := lengthy_any none 0 [] u1 (.inl rfl) zP.out mP
      have L2 := lengthy_any none 0 [] u1 (.inl rfl) zB.out mB
      obtain ⟨e0, e1, e2, e3, e4, e5⟩ := cell6 KP1.out
      cases hf1 : fewB [] <;> rw [hf1] at L1 <;> have HF1 := Lib.hid hf1 <;> clear hf1
      · have HL1 := Lib.hid L1
        have HM := Lib.hid (show mainE [na, nb, nc] [] [] = 7 from main7 HB5.out (by rw [HF1.out]; rfl))
        clear L1 L2
        go_wp2_with fail
        refine HL1.out.mono ?_
        rintro e w' ⟨rfl, rfl⟩
        have f0 := KR1.out.free 0
        have f1 := KR1.out.free 1
        have f2 := KR1.out.free 2
        have f3 := KR1.out.free 3
        have f4 := KR1.out.free 4
        have f5 := KR1.out.free 5
        obtain ⟨g0, g1, g2, g3, g4, g5⟩ := cell6 KR1.out
        go_wp2_with fail
        refine bodyPost_ret (v := .agg #[.int .i64 0, .int .i64 0, .int .i64 0, .slice none 0 0, .slice none 0 0, .int .i64 7]) (by simp [results, Tryd.results9, go_sem, g0, g1, g2, g3, g4, g5, f0, f1, f2, f3, f4, f5]) rfl ?_
        have hb6 := (((((BB1.out.setCell (p := ⟨w.heap.size, 0, none⟩) (by simp) (.int .i64 0)).setCell (p := ⟨w.heap.size, 1, none⟩) (by simp) (.int .i64 0)).setCell (p := ⟨w.heap.size, 2, none⟩) (by simp) (.int .i64 0)).setCell (p := ⟨w.heap.size, 3, none⟩) (by simp) (.slice none 0 0)).setCell (p := ⟨w.heap.size, 4, none⟩) (by simp) (.slice none 0 0)).setCell (p := ⟨w.heap.size, 5, none⟩) (by simp) (.int .i64 7)
        exact ⟨hb6, .inl ⟨by rw [HM.out]; decide, by rw [HM.out]; rfl⟩⟩
      cases hf2 : fewB [] <;> rw [hf2] at L2 <;> have HF2 := Lib.hid hf2 <;> clear hf2
      · have HL1 := Lib.hid L1
        have HL2 := Lib.hid L2
        have HM := Lib.hid (show mainE [na, nb, nc] [] [] = 7 from main7 HB5.out (by first | (rw [HF1.out, HF2.out]; rfl) | (rw [HF2.out]; rfl) | (have a := HF1.out; rw [HF2.out] at a; cases a)))
        clear L1 L2
        go_wp2_with fail
        refine HL1.out.mono ?_
        rintro e w' ⟨rfl, rfl⟩
        go_wp2_with fail
        refine HL2.out.mono ?_
        rintro e w' ⟨rfl, rfl⟩
        have f0 := KR1.out.free 0
        have f1 := KR1.out.free 1
        have f2 := KR1.out.free 2
        have f3 := KR1.out.free 3
        have f4 := KR1.out.free 4
        have f5 := KR1.out.free 5
        obtain ⟨g0, g1, g2, g3, g4, g5⟩ := cell6 KR1.out
        go_wp2_with fail
        refine bodyPost_ret (v := .agg #[.int .i64 0, .int .i64 0, .int .i64 0, .slice none 0 0, .slice none 0 0, .int .i64 7]) (by simp [results, Tryd.results9, go_sem, g0, g1, g2, g3, g4, g5, f0, f1, f2, f3, f4, f5]) rfl ?_
        have hb6 := (((((BB1.out.setCell (p := ⟨w.heap.size, 0, none⟩) (by simp) (.int .i64 0)).setCell (p := ⟨w.heap.size, 1, none⟩) (by simp) (.int .i64 0)).setCell (p := ⟨w.heap.size, 2, none⟩) (by simp) (.int .i64 0)).setCell (p := ⟨w.heap.size, 3, none⟩) (by simp) (.slice none 0 0)).setCell (p := ⟨w.heap.size, 4, none⟩) (by simp) (.slice none 0 0)).setCell (p := ⟨w.heap.size, 5, none⟩) (by simp) (.int .i64 7)
        exact ⟨hb6, .inl ⟨by rw [HM.out]; decide, by rw [HM.out]; rfl⟩⟩
      have HL1 := Lib.hid L1
      have HL2 := Lib.hid L2
      have HF := Lib.hid (And.intro HF1.out HF2.out)
      clear L1 L2
      go_wp2_with fail
      refine HL1.out.mono ?_
      rintro e w' ⟨rfl, rfl⟩
      go_wp2_with fail
      refine HL2.out.mono ?_
      rintro e w' ⟨rfl, rfl⟩
      go_wp2_with fail
      clear e0 e1 e2 e3 e4 e5
      go_loop [88] (fun i => ∃ k : Nat, k ≤ 3 ∧ i = .int .i64 k ∧ Hid (∀ j (hj : j < ([na, nb, nc] : List ByteArray).length), j < k → greatB ([na, nb, nc] : List ByteArray)[j] = false)) (fun i => 3 - (intOf i).toNat)
      case atStart => exact ⟨0, Nat.zero_le _, rfl, Lib.hid (fun j _ hj => absurd hj (Nat.not_lt_zero _))⟩
      case round =>
        obtain ⟨k, hk, rfl, Hok⟩ := hrel
        by_cases hlt : k < 3
        · have hlt2 : k < ([na, nb, nc] : List ByteArray).length := hlt
          have hck := HNC.out k hlt2
          have hsz := zN.out _ (List.getElem_mem hlt2)
          obtain ⟨q, hq⟩ : ∃ s, ([na, nb, nc] : List ByteArray)[k] = s := ⟨_, rfl⟩
          have HQ := Lib.hid hq
          rw [hq] at hck hsz
          clear hq
          have HI := Lib.hid (great_any q u1 (by omega))
          cases hi : greatB q <;> rw [hi] at HI <;> have HIV := Lib.hid hi <;> clear hi
          · have Hx := Lib.hid (show ∀ j (hj : j < ([na, nb, nc] : List ByteArray).length), j < k + 1 → greatB ([na, nb, nc] : List ByteArray)[j] = false from fun j hj hjk => by
              rcases Nat.lt_or_eq_of_le (Nat.le_of_lt_succ hjk) with h1 | h1
              · exact Hok.out j hj h1
              · subst h1; rw [HQ.out]; exact HIV.out)
            go_wp2_with fail
            refine HI.out.mono ?_
            rintro e w' ⟨rfl, rfl⟩
            go_wp2_with fail
            go_round
            case rel => first | exact ⟨k + 1, by omega, by go_num, Hx⟩ | ((repeat apply Exists.intro); exact ⟨⟨k + 1, by omega, by go_num, Hx⟩, rfl⟩)
            case measure => simp [intOf]; omega
          · skip
            have HM := Lib.hid (show mainE [na, nb, nc] [] [] = 2 from main2a HB5.out HF.out (any_yes hlt2 (by rw [HQ.out]; exact HIV.out)))
            go_wp2_with fail
            refine HI.out.mono ?_
            rintro e w' ⟨rfl, rfl⟩
            have f0 := KR1.out.free 0
            have f1 := KR1.out.free 1
            have f2 := KR1.out.free 2
            have f3 := KR1.out.free 3
            have f4 := KR1.out.free 4
            have f5 := KR1.out.free 5
            obtain ⟨g0, g1, g2, g3, g4, g5⟩ := cell6 KR1.out
            go_wp2_with fail
            refine bodyPost_ret (v := .agg #[.int .i64 0, .int .i64 0, .int .i64 0, .slice none 0 0, .slice none 0 0, .int .i64 2]) (by simp [results, Tryd.results9, go_sem, g0, g1, g2, g3, g4, g5, f0, f1, f2, f3, f4, f5]) rfl ?_
            have hb6 := (((((BB1.out.setCell (p := ⟨w.heap.size, 0, none⟩) (by simp) (.int .i64 0)).setCell (p := ⟨w.heap.size, 1, none⟩) (by simp) (.int .i64 0)).setCell (p := ⟨w.heap.size, 2, none⟩) (by simp) (.int .i64 0)).setCell (p := ⟨w.heap.size, 3, none⟩) (by simp) (.slice none 0 0)).setCell (p := ⟨w.heap.size, 4, none⟩) (by simp) (.slice none 0 0)).setCell (p := ⟨w.heap.size, 5, none⟩) (by simp) (.int .i64 2)
            exact ⟨hb6, .inl ⟨by rw [HM.out]; decide, by rw [HM.out]; rfl⟩⟩
        · obtain rfl : k = 3 := by omega
          have HG0 := Lib.hid (show [na, nb, nc].any greatB = false from any_no (fun j hj => Hok.out j hj hj))
          have HGR := Lib.hid (And.intro (Hok.out 0 (by simp) (by decide)) (And.intro (Hok.out 1 (by simp) (by decide)) (Hok.out 2 (by simp) (by decide))))
          clear Hok
          obtain ⟨e0, e1, e2, e3, e4, e5⟩ := cell6 KP1.out
          go_wp2_with fail
          clear e0 e1 e2 e3 e4 e5
          go_loop [100] (fun i => i = .int .i64 0) (fun _ => 0)
          case atStart => rfl
          case round =>
            subst hrel
            have Hok := Lib.hid (show ∀ j (hj : j < ([] : List ByteArray).length), j < 0 → greatB ([] : List ByteArray)[j] = false from fun j hj _ => absurd hj (Nat.not_lt_zero _))
            have HM := Lib.hid (main0 (BS := []) HB5.out HF.out HG0.out (show ([] : List ByteArray).any greatB = false from rfl))
            clear Hok
            have V0 := fun w => Lib.hid (value_any na w (dig_num HNUM.out.1) (val_num HNUM.out.1 HGR.out.1) (zN.out na (by simp)))
            obtain ⟨y0, hy0⟩ : ∃ y, ((valL 0 na.data.toList : Nat) : Int) = y := ⟨_, rfl⟩
            rw [hy0] at V0
            have HY0 := Lib.hid hy0
            clear hy0
            have V1 := fun w => Lib.hid (value_any nb w (dig_num HNUM.out.2.1) (val_num HNUM.out.2.1 HGR.out.2.1) (zN.out nb (by simp)))
            obtain ⟨y1, hy1⟩ : ∃ y, ((valL 0 nb.data.toList : Nat) : Int) = y := ⟨_, rfl⟩
            rw [hy1] at V1
            have HY1 := Lib.hid hy1
            clear hy1
            have V2 := fun w => Lib.hid (value_any nc w (dig_num HNUM.out.2.2) (val_num HNUM.out.2.2 HGR.out.2.2) (zN.out nc (by simp)))
            obtain ⟨y2, hy2⟩ : ∃ y, ((valL 0 nc.data.toList : Nat) : Int) = y := ⟨_, rfl⟩
            rw [hy2] at V2
            have HY2 := Lib.hid hy2
            clear hy2
            have NC := N012.out
            obtain ⟨n0, n1, n2⟩ := NC
            have KPc := KP1
            have KRc := KR1
            have BBc := BB1
            go_wp2_with fail
            refine (V0 _).out.mono ?_
            rintro e w' ⟨rfl, rfl⟩
            obtain ⟨x0, hx0⟩ : ∃ v, u1.setCell ⟨w.heap.size + 1, 0, none⟩ (.int .i64 y0) = v := ⟨_, rfl⟩
            have fr := KPc.out.free 0
            have ce := KPc.out.cell 0
            simp at ce
            have kp : BlockAt x0 (w.heap.size + 1) #[.int .i64 y0, .int .i64 0, .int .i64 0, .slice none 0 0, .slice none 0 0, .int .i64 0] 29 := by have h := KPc.out.set 0 (.int .i64 y0); rw [hx0] at h; simpa using h
            have kr := KRc.out.other (c := w.heap.size + 1) (by omega) 0 (.int .i64 y0)
            rw [hx0] at kr
            have bw : Below w.heap.size w x0 := by rw [← hx0]; exact BBc.out.setCell (by simp) _
            have m0 : x0.cell? ⟨nnb, nof, none⟩ = some (.string na) := by rw [← hx0, World.cell?_setCell_other _ _ _ _ (by intro e; cases e <;> (have := HNB.out; have := HZ.out; have := ZZ0.out; omega))]; exact n0
            have m1 : x0.cell? ⟨nnb, nof + 1, none⟩ = some (.string nb) := by rw [← hx0, World.cell?_setCell_other _ _ _ _ (by intro e; cases e <;> (have := HNB.out; have := HZ.out; have := ZZ0.out; omega))]; exact n1
            have m2 : x0.cell? ⟨nnb, nof + 2, none⟩ = some (.string nc) := by rw [← hx0, World.cell?_setCell_other _ _ _ _ (by intro e; cases e <;> (have := HNB.out; have := HZ.out; have := ZZ0.out; omega))]; exact n2
            clear n0 n1 n2 KPc KRc BBc
            have n0 := m0
            have n1 := m1
            have n2 := m2
            clear m0 m1 m2
            have KPc := Lib.hid kp
            have KRc := Lib.hid kr
            have BBc := Lib.hid bw
            clear kp kr bw
            go_wp2_with fail
            clear fr ce hx0
            refine (V1 _).out.mono ?_
            rintro e w' ⟨rfl, rfl⟩
            obtain ⟨x1, hx1⟩ : ∃ v, x0.setCell ⟨w.heap.size + 1, 1, none⟩ (.int .i64 y1) = v := ⟨_, rfl⟩
            have fr := KPc.out.free 1
            have ce := KPc.out.cell 1
            simp at ce
            have kp : BlockAt x1 (w.heap.size + 1) #[.int .i64 y0, .int .i64 y1, .int .i64 0, .slice none 0 0, .slice none 0 0, .int .i64 0] 29 := by have h := KPc.out.set 1 (.int .i64 y1); rw [hx1] at h; simpa using h
            have kr := KRc.out.other (c := w.heap.size + 1) (by omega) 1 (.int .i64 y1)
            rw [hx1] at kr
            have bw : Below w.heap.size w x1 := by rw [← hx1]; exact BBc.out.setCell (by simp) _
            have m0 : x1.cell? ⟨nnb, nof, none⟩ = some (.string na) := by rw [← hx1, World.cell?_setCell_other _ _ _ _ (by intro e; cases e <;> (have := HNB.out; have := HZ.out; have := ZZ0.out; omega))]; exact n0
            have m1 : x1.cell? ⟨nnb, nof + 1, none⟩ = some (.string nb) := by rw [← hx1, World.cell?_setCell_other _ _ _ _ (by intro e; cases e <;> (have := HNB.out; have := HZ.out; have := ZZ0.out; omega))]; exact n1
            have m2 : x1.cell? ⟨nnb, nof + 2, none⟩ = some (.string nc) := by rw [← hx1, World.cell?_setCell_other _ _ _ _ (by intro e; cases e <;> (have := HNB.out; have := HZ.out; have := ZZ0.out; omega))]; exact n2
            clear n0 n1 n2 KPc KRc BBc
            have n0 := m0
            have n1 := m1
            have n2 := m2
            clear m0 m1 m2
            have KPc := Lib.hid kp
            have KRc := Lib.hid kr
            have BBc := Lib.hid bw
            clear kp kr bw
            go_wp2_with fail
            clear fr ce hx1
            refine (V2 _).out.mono ?_
            rintro e w' ⟨rfl, rfl⟩
            obtain ⟨x2, hx2⟩ : ∃ v, x1.setCell ⟨w.heap.size + 1, 2, none⟩ (.int .i64 y2) = v := ⟨_, rfl⟩
            have fr := KPc.out.free 2
            have ce := KPc.out.cell 2
            simp at ce
            have kp : BlockAt x2 (w.heap.size + 1) #[.int .i64 y0, .int .i64 y1, .int .i64 y2, .slice none 0 0, .slice none 0 0, .int .i64 0] 29 := by have h := KPc.out.set 2 (.int .i64 y2); rw [hx2] at h; simpa using h
            have kr := KRc.out.other (c := w.heap.size + 1) (by omega) 2 (.int .i64 y2)
            rw [hx2] at kr
            have bw : Below w.heap.size w x2 := by rw [← hx2]; exact BBc.out.setCell (by simp) _
            have m0 : x2.cell? ⟨nnb, nof, none⟩ = some (.string na) := by rw [← hx2, World.cell?_setCell_other _ _ _ _ (by intro e; cases e <;> (have := HNB.out; have := HZ.out; have := ZZ0.out; omega))]; exact n0
            have m1 : x2.cell? ⟨nnb, nof + 1, none⟩ = some (.string nb) := by rw [← hx2, World.cell?_setCell_other _ _ _ _ (by intro e; cases e <;> (have := HNB.out; have := HZ.out; have := ZZ0.out; omega))]; exact n1
            have m2 : x2.cell? ⟨nnb, nof + 2, none⟩ = some (.string nc) := by rw [← hx2, World.cell?_setCell_other _ _ _ _ (by intro e; cases e <;> (have := HNB.out; have := HZ.out; have := ZZ0.out; omega))]; exact n2
            clear n0 n1 n2 KPc KRc BBc
            have n0 := m0
            have n1 := m1
            have n2 := m2
            clear m0 m1 m2
            have KPc := Lib.hid kp
            have KRc := Lib.hid kr
            have BBc := Lib.hid bw
            clear kp kr bw
            obtain ⟨a0, a1, a2, a3, a4, a5⟩ := cell6 KPc.out
            obtain ⟨g0, g1, g2, g3, g4, g5⟩ := cell6 KRc.out
            have f0 := KRc.out.free 0
            have f1 := KRc.out.free 1
            have f2 := KRc.out.free 2
            have f3 := KRc.out.free 3
            have f4 := KRc.out.free 4
            have f5 := KRc.out.free 5
            go_wp2_with fail
            refine bodyPost_ret (v := .agg #[.int .i64 y0, .int .i64 y1, .int .i64 y2, .slice none [].length 0, .slice none [].length 0, .int .i64 0]) (by simp [results, Tryd.results9, go_sem, g0, g1, g2, g3, g4, g5, f0, f1, f2, f3, f4, f5]) rfl ⟨?_, .inr ⟨HM.out, none, 0, none, 0, by rw [HY0.out, HY1.out, HY2.out], ?_, ?_⟩⟩
            · exact (((((BBc.out.setCell (by simp) _).setCell (by simp) _).setCell (by simp) _).setCell (by simp) _).setCell (by simp) _).setCell (by simp) _
            · exact .inl rfl
            · exact .inl rfl
end Go.Proofs.YtbdhmelebedpiaaDoor
