/- Parse. -/
import Derived.Test.YtbdhmelebedpiaaGreatDoorSemSplit
namespace Go.Proofs.YtbdhmelebedpiaaGreatDoor
open Go.RowKit
set_option linter.unusedSimpArgs false
set_option linter.unusedVariables false

/-- What Parse gives: a version, or an error. -/
def ParseP (w0 : World) (V : Vr) (E : Int) (e : Ending) (w' : World) : Prop := Below w0.heap.size w0 w' ∧
  ((E = 0 ∧ ∃ po pc bo bc, e = .returned (.tuple #[verV V po pc bo bc, .int .i64 0]) ∧ VerC w' po bo V ∧ V.pre.length ≤ pc ∧ V.build.length ≤ bc) ∨ (E ≠ 0 ∧ e = .returned (.tuple #[relV 0 0 0, .int .i64 E])))
theorem few_sizes {ss : List ByteArray} (h : fewB ss = true) : ss.length ≤ 8 ∧ ∀ s ∈ ss, s.size ≤ 40 := by
  unfold fewB at h
  rw [Bool.and_eq_true, decide_eq_true_eq, Bool.not_eq_true'] at h
  refine ⟨h.1, fun s hs => ?_⟩
  have := List.any_eq_false.1 h.2 s hs
  unfold longWord at this
  simpa using this
theorem numRes_range {s : ByteArray} (h : isnumB s = true) (h2 : (numRes s).2 = true) : 0 ≤ (numRes s).1 ∧ (numRes s).1 ≤ 9223372036854775807 := by
  obtain ⟨a, b⟩ := numRes_val h
  rw [h2] at a
  have hg : greatB s = false := by cases hh : greatB s <;> rw [hh] at a <;> first | rfl | cases a
  rw [b hg]
  have := great_val h
  rw [hg] at this
  have := of_decide_eq_false this.symm
  omega
set_option maxHeartbeats 8000000 in
set_option maxRecDepth 100000 in
theorem parse_five (s : ByteArray) (NS PS BS : List ByteArray) (w : World) (hm : MaxAt w) (hS : ∀ w', MaxAt w' → Calls Tryz.prog 51 #[.string s] w' (SplitP w' NS PS BS false)) :
    Calls Tryz.prog 34 #[.string s] w fun e w' => e = .returned (.tuple #[relV 0 0 0, .int .i64 5]) ∧ Below w.heap.size w w' := by
  obtain ⟨wa, ha⟩ : ∃ wa, w.alloc (.cells #[.int .i64 0, .int .i64 0, .int .i64 0, .slice none 0 0, .slice none 0 0] 24) = wa := ⟨_, rfl⟩
  obtain ⟨k1, q1, z1⟩ := box_new ha
  have K1 := Lib.hid k1
  have BW := Lib.hid q1
  have HS := Lib.hid (hS wa (hm.below q1))
  clear hm hS k1 q1 z1
  go_enter Tryz.func34, Tryz.ntmps34
  go_wp2_with fail
  refine HS.out.mono ?_
  rintro e w1 ⟨no, nc, po, pc, bo, bc, rfl, -, -, -, b1, -⟩
  obtain ⟨w2, hw2⟩ : ∃ w2, w1.alloc (.cells #[.slice no NS.length nc, .slice po PS.length pc, .slice bo BS.length bc] 69) = w2 := ⟨_, rfl⟩
  obtain ⟨k2, q2, z2⟩ := box_new hw2
  have K2 := Lib.hid ((K1.out.below b1).below q2)
  have B2 := Lib.hid ((BW.out.trans (b1.mono BW.out.size)).trans (q2.mono (BW.out.trans (b1.mono BW.out.size)).size))
  have f0 := K2.out.free 0
  have f1 := K2.out.free 1
  have f2 := K2.out.free 2
  have f3 := K2.out.free 3
  have f4 := K2.out.free 4
  obtain ⟨g0, g1, g2, g3, g4⟩ := cell5 K2.out
  clear b1 k2 q2 z2 ha K1 BW HS
  go_wp2_with fail
  refine bodyPost_ret (v := .tuple #[.agg #[.int .i64 0, .int .i64 0, .int .i64 0, .slice none 0 0, .slice none 0 0], .int .i64 5]) (by simp [results, Tryz.results34, go_sem, g0, g1, g2, g3, g4, f0, f1, f2, f3, f4]) rfl ⟨rfl, ?_⟩
  exact ((((B2.out.setCell (by simp) _).setCell (by simp) _).setCell (by simp) _).setCell (by simp) _).setCell (by simp) _
set_option maxHeartbeats 8000000 in
set_option maxRecDepth 100000 in
theorem parse_seven (s : ByteArray) (NS PS BS : List ByteArray) (w : World) (hm : MaxAt w) (hS : ∀ w', MaxAt w' → Calls Tryz.prog 51 #[.string s] w' (SplitP w' NS PS BS true))
    (hps : ∀ q ∈ PS, q.size ≤ 1000) (hbs : ∀ q ∈ BS, q.size ≤ 1000) (hpl : PS.length ≤ 1001) (hbl : BS.length ≤ 1001) (hf : (fewB PS && fewB BS) = false) :
    Calls Tryz.prog 34 #[.string s] w fun e w' => e = .returned (.tuple #[relV 0 0 0, .int .i64 7]) ∧ Below w.heap.size w w' := by
  obtain ⟨wa, ha⟩ : ∃ wa, w.alloc (.cells #[.int .i64 0, .int .i64 0, .int .i64 0, .slice none 0 0, .slice none 0 0] 24) = wa := ⟨_, rfl⟩
  obtain ⟨k1, q1, z1⟩ := box_new ha
  have K1 := Lib.hid k1
  have BW := Lib.hid q1
  have HS := Lib.hid (hS wa (hm.below q1))
  have HP := Lib.hid hps
  have HB := Lib.hid hbs
  clear hm hS k1 q1 z1 hps hbs
  go_enter Tryz.func34, Tryz.ntmps34
  go_wp2_with fail
  refine HS.out.mono ?_
  rintro e w1 ⟨no, nc, po, pc, bo, bc, rfl, -, rp, rb, b1, -⟩
  obtain ⟨w2, hw2⟩ : ∃ w2, w1.alloc (.cells #[.slice no NS.length nc, .slice po PS.length pc, .slice bo BS.length bc] 69) = w2 := ⟨_, rfl⟩
  obtain ⟨k2, q2, z2⟩ := box_new hw2
  have K2 := Lib.hid ((K1.out.below b1).below q2)
  have B2 := Lib.hid ((BW.out.trans (b1.mono BW.out.size)).trans (q2.mono (BW.out.trans (b1.mono BW.out.size)).size))
  have F1 := Lib.hid (fewWords_any po pc PS w2 (rp.below q2).row (fun q hq => by have := HP.out q hq; omega) (by omega))
  have F2 := Lib.hid (fewWords_any bo bc BS w2 (rb.below q2).row (fun q hq => by have := HB.out q hq; omega) (by omega))
  have f0 := K2.out.free 0
  have f1 := K2.out.free 1
  have f2 := K2.out.free 2
  have f3 := K2.out.free 3
  have f4 := K2.out.free 4
  obtain ⟨g0, g1, g2, g3, g4⟩ := cell5 K2.out
  obtain ⟨e0, e1, e2⟩ := cell3 k2
  clear b1 k2 q2 z2 ha K1 BW HS rp rb
  cases h1 : fewB PS <;> rw [h1] at F1 hf <;> clear h1
  · clear hf
    go_wp2_with fail
    refine F1.out.mono ?_
    rintro e w' ⟨rfl, rfl⟩
    go_wp2_with fail
    refine bodyPost_ret (v := .tuple #[.agg #[.int .i64 0, .int .i64 0, .int .i64 0, .slice none 0 0, .slice none 0 0], .int .i64 7]) (by simp [results, Tryz.results34, go_sem, g0, g1, g2, g3, g4, f0, f1, f2, f3, f4]) rfl ⟨rfl, ?_⟩
    exact ((((B2.out.setCell (by simp) _).setCell (by simp) _).setCell (by simp) _).setCell (by simp) _).setCell (by simp) _
  · rw [Bool.true_and] at hf
    rw [hf] at F2
    clear hf
    go_wp2_with fail
    refine F1.out.mono ?_
    rintro e w' ⟨rfl, rfl⟩
    go_wp2_with fail
    refine F2.out.mono ?_
    rintro e w' ⟨rfl, rfl⟩
    go_wp2_with fail
    refine bodyPost_ret (v := .tuple #[.agg #[.int .i64 0, .int .i64 0, .int .i64 0, .slice none 0 0, .slice none 0 0], .int .i64 7]) (by simp [results, Tryz.results34, go_sem, g0, g1, g2, g3, g4, f0, f1, f2, f3, f4]) rfl ⟨rfl, ?_⟩
    exact ((((B2.out.setCell (by simp) _).setCell (by simp) _).setCell (by simp) _).setCell (by simp) _).setCell (by simp) _
/-- The array of numbers behind k rounds. -/
def numArr (r0 r1 r2 : Int) (k : Nat) : Array Value := #[.int .i64 (if 0 < k then r0 else 0), .int .i64 (if 1 < k then r1 else 0), .int .i64 (if 2 < k then r2 else 0)]
def UpOk (a b c : ByteArray) (k : Nat) : Prop := (0 < k → (numRes a).2 = true) ∧ (1 < k → (numRes b).2 = true) ∧ (2 < k → (numRes c).2 = true)
/-- What the main way gives. -/
def MainP (w0 : World) (a b c : ByteArray) (PS BS : List ByteArray) (e : Ending) (w' : World) : Prop := Below w0.heap.size w0 w' ∧
  (((overN [a, b, c] = true ∨ overP PS = true) ∧ e = .returned (.tuple #[relV 0 0 0, .int .i64 2])) ∨
   (overN [a, b, c] = false ∧ overP PS = false ∧ ∃ po pc bo bc, e = .returned (.tuple #[verV ⟨(numRes a).1, (numRes b).1, (numRes c).1, PS, BS⟩ po pc bo bc, .int .i64 0]) ∧ SRow w' po PS ∧ SRow w' bo BS ∧ PS.length ≤ pc ∧ BS.length ≤ bc))
set_option maxHeartbeats 16000000 in
set_option maxRecDepth 100000 in
theorem parse_main (s a b c : ByteArray) (PS BS : List ByteArray) (w : World) (hm : MaxAt w) (hE : Errs w) (hS : ∀ w', MaxAt w' → Calls Tryz.prog 51 #[.string s] w' (SplitP w' [a, b, c] PS BS true))
    (ha1 : a.size ≤ 1000) (hb1 : b.size ≤ 1000) (hc1 : c.size ≤ 1000) (hps : ∀ q ∈ PS, q.size ≤ 1000) (hbs : ∀ q ∈ BS, q.size ≤ 1000) (hpl : PS.length ≤ 1001) (hbl : BS.length ≤ 1001) (hf1 : fewB PS = true) (hf2 : fewB BS = true) :
    Calls Tryz.prog 34 #[.string s] w (MainP w a b c PS BS) := by
  obtain ⟨wa, ha⟩ : ∃ wa, w.alloc (.cells #[.int .i64 0, .int .i64 0, .int .i64 0, .slice none 0 0, .slice none 0 0] 24) = wa := ⟨_, rfl⟩
  obtain ⟨k1, q1, z1⟩ := box_new ha
  have K1 := Lib.hid k1
  have BW := Lib.hid q1
  have HE := Lib.hid hE
  have HS := Lib.hid (hS wa (hm.below q1))
  have HP := Lib.hid hps
  have HB := Lib.hid hbs
  have Z1 := Lib.hid z1
  clear hm hS k1 q1 z1 hps hbs hE
  go_enter Tryz.func34, Tryz.ntmps34
  go_wp2_with fail
  refine HS.out.mono ?_
  rintro e w1 ⟨no, nc, po, pc, bo, bc, rfl, rn, rp, rb, b1, -, cp, cb⟩
  obtain ⟨w2, hw2⟩ : ∃ w2, w1.alloc (.cells #[.slice no 3 nc, .slice po PS.length pc, .slice bo BS.length bc] 69) = w2 := ⟨_, rfl⟩
  obtain ⟨k2, q2, z2⟩ := box_new hw2
  have K2 := Lib.hid ((K1.out.below b1).below q2)
  have B2 := Lib.hid ((BW.out.trans (b1.mono BW.out.size)).trans (q2.mono (BW.out.trans (b1.mono BW.out.size)).size))
  have K3 := Lib.hid k2
  have CP := Lib.hid cp
  have CB := Lib.hid cb
  clear cp cb
  have RN := Lib.hid (rn.below q2).row
  have RP := Lib.hid (rp.below q2)
  have RB := Lib.hid (rb.below q2)
  have F1 := fewWords_any po pc PS w2 RP.out.row (fun q hq => by have := HP.out q hq; omega) (by omega)
  have F2 := fewWords_any bo bc BS w2 RB.out.row (fun q hq => by have := HB.out q hq; omega) (by omega)
  rw [hf1] at F1
  rw [hf2] at F2
  have G1 := Lib.hid F1
  have G2 := Lib.hid F2
  have HF := Lib.hid (And.intro hf1 hf2)
  obtain ⟨e0, e1, e2⟩ := cell3 k2
  clear b1 k2 q2 z2 ha K1 BW HS rn rp rb F1 F2 hf1 hf2
  obtain ⟨w3, hw3⟩ : ∃ w3, w2.alloc (.cells #[.int .i64 0, .int .i64 0, .int .i64 0] 72) = w3 := ⟨_, rfl⟩
  obtain ⟨k4, q4, z4⟩ := box_new hw3
  have Q4 := Lib.hid q4
  have K4 := Lib.hid (show BlockAt w3 w2.heap.size (numArr (numRes a).1 (numRes b).1 (numRes c).1 0) 72 from k4)
  obtain ⟨x0, x1, x2⟩ := cell3 (K3.out.below q4)
  clear k4 q4 z4
  go_wp2_with fail
  refine G1.out.mono ?_
  rintro e w' ⟨rfl, rfl⟩
  go_wp2_with fail
  refine G2.out.mono ?_
  rintro e w' ⟨rfl, rfl⟩
  go_wp2_with fail
  clear hw3 hw2 x0 x1 x2 e0 e1 e2 G1 G2
  obtain ⟨nb, noff, rfl, hnb, hnc⟩ := RN.out.cells (by simp)
  have HNB := Lib.hid hnb
  have HNC := Lib.hid hnc
  clear hnb hnc
  go_loopw [35] (fun i wr => ∃ k : Nat, k ≤ 3 ∧ i = .int .i64 k ∧ Hid (Below w2.heap.size w2 wr) ∧ Hid (BlockAt wr w2.heap.size (numArr (numRes a).1 (numRes b).1 (numRes c).1 k) 72) ∧ Hid (UpOk a b c k)) (fun i _ => 3 - (intOf i).toNat)
  case atStart => exact ⟨0, by omega, rfl, Q4, K4, Lib.hid ⟨by omega, by omega, by omega⟩⟩
  case round =>
    obtain ⟨k, hk, rfl, HBw, HK, Hup⟩ := hrel
    have BW := Lib.hid (B2.out.trans (HBw.out.mono B2.out.size))
    have hways : k = 0 ∨ k = 1 ∨ k = 2 ∨ k = 3 := by omega
    rcases hways with rfl | rfl | rfl | rfl
    · have ck := (HBw.out.cell (p := ⟨nb, noff + 0, none⟩) HNB.out).trans (HNC.out 0 (by simp))
      simp at ck
      have HN := Lib.hid (number_any a wr (by omega) (HE.out.below BW.out))
      cases hr : (numRes a).2 <;> rw [hr] at HN <;> have HR := Lib.hid hr <;> clear hr
      · have Hov := Lib.hid (show overN [a, b, c] = true from any_yes (k := 0) (by simp) (by show (!(numRes a).2) = true; rw [HR.out]; rfl))
        obtain ⟨z, hz⟩ : ∃ z, (numRes a).1 = z := ⟨_, rfl⟩
        rw [hz] at HN
        clear hz
        go_wp2_with fail
        refine HN.out.mono ?_
        rintro e w4 ⟨rfl, b4⟩
        have KA := HK.out.below b4
        have BX := Lib.hid ((BW.out.trans (b4.mono BW.out.size)).setCell (p := ⟨w2.heap.size, 0, none⟩) (by have := B2.out.size; simpa using this) (.int .i64 z))
        have KZ := Lib.hid (((K2.out.below HBw.out).below b4).other (c := w2.heap.size) (Nat.ne_of_lt (K2.out.lt)) 0 (.int .i64 z))
        have fr := KA.free 0
        have ce := KA.cell 0
        simp [numArr] at ce
        obtain ⟨w5, hw5⟩ : ∃ w5, w4.setCell ⟨w2.heap.size, 0, none⟩ (.int .i64 z) = w5 := ⟨_, rfl⟩
        rw [hw5] at BX KZ
        have f0 := KZ.out.free 0
        have f1 := KZ.out.free 1
        have f2 := KZ.out.free 2
        have f3 := KZ.out.free 3
        have f4 := KZ.out.free 4
        obtain ⟨g0, g1, g2, g3, g4⟩ := cell5 KZ.out
        clear b4 KA
        go_wp2_with fail
        refine bodyPost_ret (v := .tuple #[.agg #[.int .i64 0, .int .i64 0, .int .i64 0, .slice none 0 0, .slice none 0 0], .int .i64 2]) (by simp [results, Tryz.results34, go_sem, g0, g1, g2, g3, g4, f0, f1, f2, f3, f4]) rfl ⟨?_, .inl ⟨.inl Hov.out, rfl⟩⟩
        exact ((((BX.out.setCell (by simp) _).setCell (by simp) _).setCell (by simp) _).setCell (by simp) _).setCell (by simp) _
      · obtain ⟨z, hz⟩ : ∃ z, (numRes a).1 = z := ⟨_, rfl⟩
        rw [hz] at HN
        have HZv := Lib.hid hz
        clear hz
        go_wp2_with fail
        refine HN.out.mono ?_
        rintro e w4 ⟨rfl, b4⟩
        have KA := HK.out.below b4
        have BX := Lib.hid ((HBw.out.trans (b4.mono HBw.out.size)).setCell (p := ⟨w2.heap.size, 0, none⟩) (by simp) (.int .i64 z))
        have KB := Lib.hid (show BlockAt (w4.setCell ⟨w2.heap.size, 0, none⟩ (.int .i64 z)) w2.heap.size (numArr (numRes a).1 (numRes b).1 (numRes c).1 (0 + 1)) 72 by
          have h := KA.set 0 (.int .i64 z)
          rw [← HZv.out] at h ⊢
          exact h)
        have fr := KA.free 0
        have ce := KA.cell 0
        simp [numArr] at ce
        obtain ⟨w5, hw5⟩ : ∃ w5, w4.setCell ⟨w2.heap.size, 0, none⟩ (.int .i64 z) = w5 := ⟨_, rfl⟩
        rw [hw5] at BX KB
        have Hup2 := Lib.hid (show UpOk a b c (0 + 1) from ⟨fun _ => HR.out, fun h => absurd h (by omega), fun h => absurd h (by omega)⟩)
        clear b4 KA HZv
        go_wp2_with fail
        go_roundw
        case rel => exact ⟨0 + 1, by omega, by go_num, BX, KB, Hup2⟩
        case measure => simp [intOf]
    · have ck := (HBw.out.cell (p := ⟨nb, noff + 1, none⟩) HNB.out).trans (HNC.out 1 (by simp))
      simp at ck
      have HN := Lib.hid (number_any b wr (by omega) (HE.out.below BW.out))
      cases hr : (numRes b).2 <;> rw [hr] at HN <;> have HR := Lib.hid hr <;> clear hr
      · have Hov := Lib.hid (show overN [a, b, c] = true from any_yes (k := 1) (by simp) (by show (!(numRes b).2) = true; rw [HR.out]; rfl))
        obtain ⟨z, hz⟩ : ∃ z, (numRes b).1 = z := ⟨_, rfl⟩
        rw [hz] at HN
        clear hz
        go_wp2_with fail
        refine HN.out.mono ?_
        rintro e w4 ⟨rfl, b4⟩
        have KA := HK.out.below b4
        have BX := Lib.hid ((BW.out.trans (b4.mono BW.out.size)).setCell (p := ⟨w2.heap.size, 1, none⟩) (by have := B2.out.size; simpa using this) (.int .i64 z))
        have KZ := Lib.hid (((K2.out.below HBw.out).below b4).other (c := w2.heap.size) (Nat.ne_of_lt (K2.out.lt)) 1 (.int .i64 z))
        have fr := KA.free 1
        have ce := KA.cell 1
        simp [numArr] at ce
        obtain ⟨w5, hw5⟩ : ∃ w5, w4.setCell ⟨w2.heap.size, 1, none⟩ (.int .i64 z) = w5 := ⟨_, rfl⟩
        rw [hw5] at BX KZ
        have f0 := KZ.out.free 0
        have f1 := KZ.out.free 1
        have f2 := KZ.out.free 2
        have f3 := KZ.out.free 3
        have f4 := KZ.out.free 4
        obtain ⟨g0, g1, g2, g3, g4⟩ := cell5 KZ.out
        clear b4 KA
        go_wp2_with fail
        refine bodyPost_ret (v := .tuple #[.agg #[.int .i64 0, .int .i64 0, .int .i64 0, .slice none 0 0, .slice none 0 0], .int .i64 2]) (by simp [results, Tryz.results34, go_sem, g0, g1, g2, g3, g4, f0, f1, f2, f3, f4]) rfl ⟨?_, .inl ⟨.inl Hov.out, rfl⟩⟩
        exact ((((BX.out.setCell (by simp) _).setCell (by simp) _).setCell (by simp) _).setCell (by simp) _).setCell (by simp) _
      · obtain ⟨z, hz⟩ : ∃ z, (numRes b).1 = z := ⟨_, rfl⟩
        rw [hz] at HN
        have HZv := Lib.hid hz
        clear hz
        go_wp2_with fail
        refine HN.out.mono ?_
        rintro e w4 ⟨rfl, b4⟩
        have KA := HK.out.below b4
        have BX := Lib.hid ((HBw.out.trans (b4.mono HBw.out.size)).setCell (p := ⟨w2.heap.size, 1, none⟩) (by simp) (.int .i64 z))
        have KB := Lib.hid (show BlockAt (w4.setCell ⟨w2.heap.size, 1, none⟩ (.int .i64 z)) w2.heap.size (numArr (numRes a).1 (numRes b).1 (numRes c).1 (1 + 1)) 72 by
          have h := KA.set 1 (.int .i64 z)
          rw [← HZv.out] at h ⊢
          exact h)
        have fr := KA.free 1
        have ce := KA.cell 1
        simp [numArr] at ce
        obtain ⟨w5, hw5⟩ : ∃ w5, w4.setCell ⟨w2.heap.size, 1, none⟩ (.int .i64 z) = w5 := ⟨_, rfl⟩
        rw [hw5] at BX KB
        have Hup2 := Lib.hid (show UpOk a b c (1 + 1) from ⟨fun _ => Hup.out.1 (by omega), fun _ => HR.out, fun h => absurd h (by omega)⟩)
        clear b4 KA HZv
        go_wp2_with fail
        go_roundw
        case rel => exact ⟨1 + 1, by omega, by go_num, BX, KB, Hup2⟩
        case measure => simp [intOf]
    · have ck := (HBw.out.cell (p := ⟨nb, noff + 2, none⟩) HNB.out).trans (HNC.out 2 (by simp))
      simp at ck
      have HN := Lib.hid (number_any c wr (by omega) (HE.out.below BW.out))
      cases hr : (numRes c).2 <;> rw [hr] at HN <;> have HR := Lib.hid hr <;> clear hr
      · have Hov := Lib.hid (show overN [a, b, c] = true from any_yes (k := 2) (by simp) (by show (!(numRes c).2) = true; rw [HR.out]; rfl))
        obtain ⟨z, hz⟩ : ∃ z, (numRes c).1 = z := ⟨_, rfl⟩
        rw [hz] at HN
        clear hz
        go_wp2_with fail
        refine HN.out.mono ?_
        rintro e w4 ⟨rfl, b4⟩
        have KA := HK.out.below b4
        have BX := Lib.hid ((BW.out.trans (b4.mono BW.out.size)).setCell (p := ⟨w2.heap.size, 2, none⟩) (by have := B2.out.size; simpa using this) (.int .i64 z))
        have KZ := Lib.hid (((K2.out.below HBw.out).below b4).other (c := w2.heap.size) (Nat.ne_of_lt (K2.out.lt)) 2 (.int .i64 z))
        have fr := KA.free 2
        have ce := KA.cell 2
        simp [numArr] at ce
        obtain ⟨w5, hw5⟩ : ∃ w5, w4.setCell ⟨w2.heap.size, 2, none⟩ (.int .i64 z) = w5 := ⟨_, rfl⟩
        rw [hw5] at BX KZ
        have f0 := KZ.out.free 0
        have f1 := KZ.out.free 1
        have f2 := KZ.out.free 2
        have f3 := KZ.out.free 3
        have f4 := KZ.out.free 4
        obtain ⟨g0, g1, g2, g3, g4⟩ := cell5 KZ.out
        clear b4 KA
        go_wp2_with fail
        refine bodyPost_ret (v := .tuple #[.agg #[.int .i64 0, .int .i64 0, .int .i64 0, .slice none 0 0, .slice none 0 0], .int .i64 2]) (by simp [results, Tryz.results34, go_sem, g0, g1, g2, g3, g4, f0, f1, f2, f3, f4]) rfl ⟨?_, .inl ⟨.inl Hov.out, rfl⟩⟩
        exact ((((BX.out.setCell (by simp) _).setCell (by simp) _).setCell (by simp) _).setCell (by simp) _).setCell (by simp) _
      · obtain ⟨z, hz⟩ : ∃ z, (numRes c).1 = z := ⟨_, rfl⟩
        rw [hz] at HN
        have HZv := Lib.hid hz
        clear hz
        go_wp2_with fail
        refine HN.out.mono ?_
        rintro e w4 ⟨rfl, b4⟩
        have KA := HK.out.below b4
        have BX := Lib.hid ((HBw.out.trans (b4.mono HBw.out.size)).setCell (p := ⟨w2.heap.size, 2, none⟩) (by simp) (.int .i64 z))
        have KB := Lib.hid (show BlockAt (w4.setCell ⟨w2.heap.size, 2, none⟩ (.int .i64 z)) w2.heap.size (numArr (numRes a).1 (numRes b).1 (numRes c).1 (2 + 1)) 72 by
          have h := KA.set 2 (.int .i64 z)
          rw [← HZv.out] at h ⊢
          exact h)
        have fr := KA.free 2
        have ce := KA.cell 2
        simp [numArr] at ce
        obtain ⟨w5, hw5⟩ : ∃ w5, w4.setCell ⟨w2.heap.size, 2, none⟩ (.int .i64 z) = w5 := ⟨_, rfl⟩
        rw [hw5] at BX KB
        have Hup2 := Lib.hid (show UpOk a b c (2 + 1) from ⟨fun _ => Hup.out.1 (by omega), fun _ => Hup.out.2.1 (by omega), fun _ => HR.out⟩)
        clear b4 KA HZv
        go_wp2_with fail
        go_roundw
        case rel => exact ⟨2 + 1, by omega, by go_num, BX, KB, Hup2⟩
        case measure => simp [intOf]
    · have Hno := Lib.hid (show overN [a, b, c] = false by
        unfold overN
        rw [List.any_cons, List.any_cons, List.any_cons, List.any_nil, Hup.out.1 (by omega), Hup.out.2.1 (by omega), Hup.out.2.2 (by omega)]
        rfl)
      obtain ⟨x0, x1, x2⟩ := cell3 (K3.out.below HBw.out)
      obtain ⟨r0, hr0⟩ : ∃ r, (numRes a).1 = r := ⟨_, rfl⟩
      obtain ⟨r1, hr1⟩ : ∃ r, (numRes b).1 = r := ⟨_, rfl⟩
      obtain ⟨r2, hr2⟩ : ∃ r, (numRes c).1 = r := ⟨_, rfl⟩
      have KC := Lib.hid (show BlockAt wr w2.heap.size #[.int .i64 r0, .int .i64 r1, .int .i64 r2] 72 by rw [← hr0, ← hr1, ← hr2]; exact HK.out)
      have HR := Lib.hid (And.intro hr0 (And.intro hr1 hr2))
      clear hr0 hr1 hr2 HK Hup
      obtain ⟨wo, rfl⟩ : ∃ wo : World, wo = wr := ⟨_, rfl⟩
      go_wp2_with fail
      go_loopw [54] (fun i wt => ∃ k : Nat, k ≤ PS.length ∧ i = .int .i64 k ∧ Hid (Below wo.heap.size wo wt) ∧ Hid (∀ j (hj : j < PS.length), j < k → (numB PS[j] && !(numRes PS[j]).2) = false)) (fun i _ => PS.length - (intOf i).toNat)
      case atStart => exact ⟨0, Nat.zero_le _, rfl, Lib.hid (Below.refl _ _), Lib.hid (fun j _ hj => absurd hj (Nat.not_lt_zero _))⟩
      case round =>
        obtain ⟨k, hk, rfl, HBt, Hok⟩ := hrel
        have B9 := Lib.hid (BW.out.trans (HBt.out.mono BW.out.size))
        have B8 := Lib.hid (HBw.out.trans (HBt.out.mono HBw.out.size))
        by_cases hlt : k < PS.length
        · have hsz := HP.out _ (List.getElem_mem hlt)
          obtain ⟨bb, off, rfl, hb, hc⟩ := (RP.out.below B8.out).row.cells (by omega)
          have hck := hc k hlt
          clear hc
          obtain ⟨q, hq⟩ : ∃ s, PS[k] = s := ⟨_, rfl⟩
          have HQ := Lib.hid hq
          rw [hq] at hck hsz
          clear hq
          have HN := Lib.hid (number_any q wr (by omega) (HE.out.below B9.out))
          have HNu := fun w2 => Lib.hid (numeric_any q w2 (by omega))
          obtain ⟨z, hz⟩ : ∃ z, (numRes q).1 = z := ⟨_, rfl⟩
          rw [hz] at HN
          clear hz
          by_cases hbad : numB q = true ∧ (numRes q).2 = false
          · have Hov := Lib.hid (show overP PS = true from any_yes hlt (by rw [HQ.out, hbad.1, hbad.2]; rfl))
            rw [hbad.1] at HNu
            rw [hbad.2] at HN
            clear hbad
            have KZ := Lib.hid (K2.out.below B8.out)
            go_wp2_with fail
            refine HN.out.mono ?_
            rintro e w4 ⟨rfl, b4⟩
            have KZ2 := Lib.hid (KZ.out.below b4)
            have BX := Lib.hid (B9.out.trans (b4.mono B9.out.size))
            clear b4 KZ
            go_wp2_with fail
            refine (HNu w4).out.mono ?_
            rintro e w' ⟨rfl, rfl⟩
            have f0 := KZ2.out.free 0
            have f1 := KZ2.out.free 1
            have f2 := KZ2.out.free 2
            have f3 := KZ2.out.free 3
            have f4 := KZ2.out.free 4
            obtain ⟨g0, g1, g2, g3, g4⟩ := cell5 KZ2.out
            go_wp2_with fail
            refine bodyPost_ret (v := .tuple #[.agg #[.int .i64 0, .int .i64 0, .int .i64 0, .slice none 0 0, .slice none 0 0], .int .i64 2]) (by simp [results, Tryz.results34, go_sem, g0, g1, g2, g3, g4, f0, f1, f2, f3, f4]) rfl ⟨?_, .inl ⟨.inr Hov.out, rfl⟩⟩
            exact ((((BX.out.setCell (by simp) _).setCell (by simp) _).setCell (by simp) _).setCell (by simp) _).setCell (by simp) _
          · have Hnx := Lib.hid (show ∀ j (hj : j < PS.length), j < k + 1 → (numB PS[j] && !(numRes PS[j]).2) = false from fun j hj hjk => by
              rcases Nat.lt_or_eq_of_le (Nat.le_of_lt_succ hjk) with h1 | h1
              · exact Hok.out j hj h1
              · subst h1
                rw [HQ.out]
                cases h1 : numB q
                · rfl
                · cases h2 : (numRes q).2
                  · exact absurd ⟨h1, h2⟩ hbad
                  · rfl)
            have Hb := Lib.hid hbad
            clear hbad
            cases h2 : (numRes q).2 <;> rw [h2] at HN <;> have H2 := Lib.hid h2 <;> clear h2
            · have h1 : numB q = false := by cases h : numB q <;> first | rfl | exact absurd ⟨h, H2.out⟩ Hb.out
              rw [h1] at HNu
              clear h1
              go_wp2_with fail
              refine HN.out.mono ?_
              rintro e w4 ⟨rfl, b4⟩
              have BX := Lib.hid (HBt.out.trans (b4.mono HBt.out.size))
              clear b4
              go_wp2_with fail
              refine (HNu w4).out.mono ?_
              rintro e w' ⟨rfl, rfl⟩
              go_wp2_with fail
              go_roundw
              case rel => first | exact ⟨k + 1, by omega, by go_num, BX, Hnx⟩ | ((repeat apply Exists.intro); exact ⟨⟨k + 1, by omega, by go_num, BX, Hnx⟩, rfl⟩)
              case measure => simp [intOf]; omega
            · cases h1 : numB q <;> rw [h1] at HNu <;> clear h1
              all_goals
                go_wp2_with fail
                refine HN.out.mono ?_
                rintro e w4 ⟨rfl, b4⟩
                have BX := Lib.hid (HBt.out.trans (b4.mono HBt.out.size))
                clear b4
                go_wp2_with fail
                refine (HNu w4).out.mono ?_
                rintro e w' ⟨rfl, rfl⟩
                go_wp2_with fail
                go_roundw
                case rel => first | exact ⟨k + 1, by omega, by go_num, BX, Hnx⟩ | ((repeat apply Exists.intro); exact ⟨⟨k + 1, by omega, by go_num, BX, Hnx⟩, rfl⟩)
                case measure => simp [intOf]; omega
        · obtain rfl : k = PS.length := by omega
          have Hnp := Lib.hid (show overP PS = false from any_no (fun j hj => Hok.out j hj hj))
          have Rp := Lib.hid (RP.out.below B8.out)
          have Rb := Lib.hid (RB.out.below B8.out)
          have KZ := Lib.hid (K2.out.below B8.out)
          have KY := K3.out.below B8.out
          have KX := KC.out.below HBt.out
          obtain ⟨y0, y1, y2⟩ := cell3 KY
          obtain ⟨n0, n1, n2⟩ := cell3 KX
          have f0 := KZ.out.free 0
          have f1 := KZ.out.free 1
          have f2 := KZ.out.free 2
          have f3 := KZ.out.free 3
          have f4 := KZ.out.free 4
          obtain ⟨g0, g1, g2, g3, g4⟩ := cell5 KZ.out
          clear KY KX x0 x1 x2
          go_wp2_with fail
          have hz1 : w.heap.size < wa.heap.size := by have := Z1.out; omega
          refine bodyPost_ret (v := .tuple #[.agg #[.int .i64 r0, .int .i64 r1, .int .i64 r2, .slice po PS.length pc, .slice bo BS.length bc], .int .i64 0]) (by simp [results, Tryz.results34, go_sem, g0, g1, g2, g3, g4, f0, f1, f2, f3, f4]) rfl ⟨?_, .inr ⟨Hno.out, Hnp.out, po, pc, bo, bc, ?_, ?_, ?_, CP.out, CB.out⟩⟩
          · exact ((((B9.out.setCell (by simp) _).setCell (by simp) _).setCell (by simp) _).setCell (by simp) _).setCell (by simp) _
          · rw [HR.out.1, HR.out.2.1, HR.out.2.2]; rfl
          · exact (((((Rp.out.set hz1 _).set hz1 _).set hz1 _).set hz1 _).set hz1 _).row
          · exact (((((Rb.out.set hz1 _).set hz1 _).set hz1 _).set hz1 _).set hz1 _).row
theorem parseV_any (s : ByteArray) (w : World) (hs : s.size ≤ 1000) (hm : MaxAt w) (hE : Errs w) :
    Calls Tryz.prog 34 #[.string s] w (ParseP w (parseV s) (parseE s)) := by
  have hn := parts_small s (ss := numsOf s) (.inl rfl)
  have hp := parts_small s (ss := preOf s) (.inr (.inl rfl))
  have hb := parts_small s (ss := buildOf s) (.inr (.inr rfl))
  have hps : ∀ q ∈ preOf s, q.size ≤ 1000 := fun q hq => by have := hp.2 q hq; omega
  have hbs : ∀ q ∈ buildOf s, q.size ≤ 1000 := fun q hq => by have := hb.2 q hq; omega
  cases hok : okSplit s
  · refine (parse_five s (numsOf s) (preOf s) (buildOf s) w hm (fun w' h' => by have := split_any s w' hs h'; rw [hok] at this; exact this)).mono ?_
    rintro e w' ⟨rfl, hbl⟩
    have he : parseE s = 5 := by unfold parseE; rw [if_pos hok]
    exact ⟨hbl, .inr ⟨by rw [he]; decide, by rw [he]⟩⟩
  · have hS : ∀ w', MaxAt w' → Calls Tryz.prog 51 #[.string s] w' (SplitP w' (numsOf s) (preOf s) (buildOf s) true) := fun w' h' => by have := split_any s w' hs h'; rw [hok] at this; exact this
    cases hf : (fewB (preOf s) && fewB (buildOf s))
    · refine (parse_seven s (numsOf s) (preOf s) (buildOf s) w hm hS hps hbs (by omega) (by omega) hf).mono ?_
      rintro e w' ⟨rfl, hbl⟩
      have he : parseE s = 7 := by unfold parseE; rw [if_neg (by rw [hok]; decide), if_pos hf]
      exact ⟨hbl, .inr ⟨by rw [he]; decide, by rw [he]⟩⟩
    · have hl : (numsOf s).length = 3 := by
        unfold okSplit at hok
        simp only [Bool.and_eq_true, decide_eq_true_eq] at hok
        exact hok.1.1.1
      have hnb : (numsOf s).any badNum = false := by
        unfold okSplit at hok
        simp only [Bool.and_eq_true, Bool.not_eq_true'] at hok
        exact hok.1.1.2
      obtain ⟨a, b, c, hN⟩ : ∃ a b c, numsOf s = [a, b, c] := by
        match h : numsOf s, hl with
        | [a, b, c], _ => exact ⟨a, b, c, rfl⟩
      have hn2 := hn.2
      rw [hN] at hS hn2 hnb
      rw [Bool.and_eq_true] at hf
      have hV : parseV s = ⟨(numRes a).1, (numRes b).1, (numRes c).1, preOf s, buildOf s⟩ := by unfold parseV; rw [hN]; rfl
      refine (parse_main s a b c (preOf s) (buildOf s) w hm hE hS (by have := hn2 a (by simp); omega) (by have := hn2 b (by simp); omega) (by have := hn2 c (by simp); omega) hps hbs (by omega) (by omega) hf.1 hf.2).mono ?_
      have hE0 : parseE s = if overN [a, b, c] = true then 2 else if overP (preOf s) = true then 2 else 0 := by
        unfold parseE
        rw [if_neg (by rw [hok]; decide), if_neg (by rw [hf.1, hf.2]; decide), hN]
      rintro e w' ⟨hbl, ⟨ho, rfl⟩ | ⟨h1, h2, po, pc, bo, bc, rfl, r1, r2, r3, r4⟩⟩
      · have he : parseE s = 2 := by
          rw [hE0]
          rcases ho with ho | ho
          · rw [if_pos ho]
          · rw [if_pos ho]; split <;> rfl
        exact ⟨hbl, .inr ⟨by rw [he]; decide, by rw [he]⟩⟩
      · have he : parseE s = 0 := by rw [hE0, h1, h2]; rfl
        have f1 := few_sizes hf.1
        have f2 := few_sizes hf.2
        rw [hV]
        simp only [List.any_cons, List.any_nil, Bool.or_eq_false_iff, badNum, Bool.not_eq_false'] at hnb
        unfold overN at h1
        simp only [List.any_cons, List.any_nil, Bool.or_eq_false_iff, Bool.not_eq_false'] at h1
        have g1 := numRes_range hnb.1 h1.1
        have g2 := numRes_range hnb.2.1 h1.2.1
        have g3 := numRes_range hnb.2.2.1 h1.2.2.1
        refine ⟨hbl, .inl ⟨he, po, pc, bo, bc, rfl, ⟨r1, r2, fun q hq => hps q hq, fun q hq => hbs q hq, ?_, ?_, ⟨?_, ?_⟩, ⟨?_, ?_⟩, ?_, ?_⟩, r3, r4⟩⟩
        · exact Nat.le_trans f1.1 (by decide)
        · exact Nat.le_trans f2.1 (by decide)
        all_goals simp only
        all_goals omega
end Go.Proofs.YtbdhmelebedpiaaGreatDoor
