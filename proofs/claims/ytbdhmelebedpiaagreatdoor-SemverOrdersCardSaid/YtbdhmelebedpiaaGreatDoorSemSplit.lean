/- split. -/
import Derived.Test.YtbdhmelebedpiaaGreatDoorSemSplitM
import Derived.Test.YtbdhmelebedpiaaGreatDoorSemNext
namespace Go.Proofs.YtbdhmelebedpiaaGreatDoor
open Go.RowKit
set_option linter.unusedSimpArgs false
set_option linter.unusedVariables false

theorem SRowN.mono {base b2 : Nat} {w : World} {ao : Option Addr} {ss : List ByteArray} (h : SRowN base w ao ss) (hb : b2 ≤ base) : SRowN b2 w ao ss := by
  rcases h with h | ⟨b, off, h1, h0, h2, h3⟩
  · exact .inl h
  · exact .inr ⟨b, off, h1, Nat.le_trans hb h0, h2, h3⟩
/-- The variable MaxLen of internal/bytealg. -/
def MaxAt (w : World) : Prop := ∃ m : Int, w.cell? ⟨1, 0, none⟩ = some (.int .i64 m)
theorem MaxAt.below {w w' : World} (h : MaxAt w) (hb : Below w.heap.size w w') : MaxAt w' := by
  obtain ⟨m, hm⟩ := h
  exact ⟨m, by rw [hb.cell (p := ⟨1, 0, none⟩) (cell_lt0 hm)]; exact hm⟩
theorem drewN_below (w : World) (n : Nat) : Below w.heap.size w (w.drewN n) := by
  exact ⟨rfl, rfl, rfl, Nat.le_refl _, fun _ _ => rfl⟩
theorem cut_any (s : ByteArray) (c : UInt8) (w : World) (hs : s.size ≤ 1000) (hm : MaxAt w) :
    Calls Tryz.prog 57 #[.string s, .string ⟨#[c]⟩] w fun e w' => e = .returned (.tuple #[.string (mkS (cutL c s.data.toList).1), .string (mkS (cutL c s.data.toList).2.1), .bool (cutL c s.data.toList).2.2]) ∧ Below w.heap.size w w' := by
  obtain ⟨m, hm⟩ := hm
  refine (Tryz.strings_Cut s ⟨#[c]⟩ m w (by omega) hm).mono ?_
  rintro e w' ⟨rfl, n, rfl⟩
  refine ⟨?_, drewN_below _ _⟩
  have : Lib.cut s.data.toList (⟨#[c]⟩ : ByteArray).data.toList = cutL c s.data.toList := cut_eq c _
  rw [this]
  rfl
theorem splitS_any (s : ByteArray) (w : World) (hs : s.size ≤ 1000) (hm : MaxAt w) :
    Calls Tryz.prog 58 #[.string s, .string ⟨#[46]⟩] w fun e w' => (∃ ao cap, e = .returned (.slice ao (dotsOf s.data.toList).length cap) ∧ SRowN w.heap.size w' ao (dotsOf s.data.toList) ∧ (dotsOf s.data.toList).length ≤ cap) ∧ Below w.heap.size w w' := by
  obtain ⟨m, hm⟩ := hm
  refine (Tryz.strings_Split s ⟨#[46]⟩ m w (by omega) hm (by decide)).mono ?_
  rintro e w' ⟨rfl, rfl⟩
  have e1 := dots_count s
  have e2 := dots_eq s
  unfold dotS at e1 e2
  rw [e1, e2]
  refine ⟨⟨_, _, rfl, .inr ⟨w.heap.size, 0, rfl, Nat.le_refl _, by simp, fun i hi => ?_⟩, Nat.le_refl _⟩, (Below.refl _ _).alloc (Nat.le_refl _) _⟩
  rw [World.cell?_alloc_at _ _ _ _ rfl]
  simp [hi]
theorem cell3 {w : World} {b : Nat} {a0 a1 a2 : Value} {T : TypeId} (h : BlockAt w b #[a0, a1, a2] T) : w.cell? ⟨b, 0, none⟩ = some a0 ∧ w.cell? ⟨b, 1, none⟩ = some a1 ∧ w.cell? ⟨b, 2, none⟩ = some a2 := ⟨h.cell 0, h.cell 1, h.cell 2⟩
/-- What split gives. -/
def SplitP (w0 : World) (NS PS BS : List ByteArray) (ok : Bool) (e : Ending) (w' : World) : Prop := ∃ no nc po pc bo bc, e = .returned (.tuple #[.agg #[.slice no NS.length nc, .slice po PS.length pc, .slice bo BS.length bc], .bool ok]) ∧ SRowN w0.heap.size w' no NS ∧ SRowN w0.heap.size w' po PS ∧ SRowN w0.heap.size w' bo BS ∧ Below w0.heap.size w0 w' ∧ NS.length ≤ nc ∧ PS.length ≤ pc ∧ BS.length ≤ bc
set_option maxHeartbeats 16000000 in
set_option maxRecDepth 100000 in
theorem split_tt_len (s : ByteArray) (x b x2 p : List UInt8) (NS PS BS : List ByteArray) (w : World) (hs : s.size ≤ 1000) (hx : x.length ≤ 1000) (hb : b.length ≤ 1000) (hx2 : x2.length ≤ 1000) (hp : p.length ≤ 1000) (hm : MaxAt w) (hc1 : cutL 43 s.data.toList = (x, b, true)) (hc2 : cutL 45 x = (x2, p, true)) (hNS : dotsOf x2 = NS) (hPS : dotsOf p = PS) (hBS : dotsOf b = BS) (t1 : ¬ NS.length = 3) :
    Calls Tryz.prog 51 #[.string s] w (SplitP w NS PS BS false) := by
  unfold SplitP
  have Hm := Lib.hid hm
  have lN := dots_len x2
  have lP := dots_len p
  have lB := dots_len b
  rw [hNS] at lN
  rw [hPS] at lP
  rw [hBS] at lB
  have zN := Lib.hid (show ∀ q ∈ NS, q.size ≤ 9223372036854775806 from fun q hq => by have := lN.2 q hq; omega)
  have mN : NS.length ≤ 1001 := by have := lN.1; omega
  clear lN
  have zP := Lib.hid (show ∀ q ∈ PS, q.size ≤ 9223372036854775806 from fun q hq => by have := lP.2 q hq; omega)
  have mP : PS.length ≤ 1001 := by have := lP.1; omega
  clear lP
  have zB := Lib.hid (show ∀ q ∈ BS, q.size ≤ 9223372036854775806 from fun q hq => by have := lB.2 q hq; omega)
  have mB : BS.length ≤ 1001 := by have := lB.1; omega
  clear lB
  obtain ⟨wa, ha⟩ : ∃ wa, w.alloc (.cells #[.slice none 0 0, .slice none 0 0, .slice none 0 0] 69) = wa := ⟨_, rfl⟩
  obtain ⟨wb, hb'⟩ : ∃ wb, wa.alloc (.cells #[.slice none 0 0, .slice none 0 0, .slice none 0 0] 69) = wb := ⟨_, rfl⟩
  obtain ⟨k1, q1, z1⟩ := box_new ha
  obtain ⟨k2, q2, z2⟩ := box_new hb'
  have BW := Lib.hid (q1.trans (q2.mono q1.size))
  have HZ := Lib.hid (And.intro z1 z2)
  have K1 := Lib.hid (k1.below q2)
  have K2 := Lib.hid k2
  have C1 := fun w' hw' => Lib.hid (cut_any s 43 w' hs hw')
  have C2 := fun w' hw' => Lib.hid (cut_any (mkS x) 45 w' hx hw')
  rw [hc1] at C1
  rw [mkS_data, hc2] at C2
  have S1 := fun w' hw' => Lib.hid (splitS_any (mkS x2) w' hx2 hw')
  rw [mkS_data, hNS] at S1
  have S2 := fun w' hw' => Lib.hid (splitS_any (mkS p) w' hp hw')
  rw [mkS_data, hPS] at S2
  have S3 := fun w' hw' => Lib.hid (splitS_any (mkS b) w' hb hw')
  rw [mkS_data, hBS] at S3
  simp only at C1 C2
  generalize mkS x = sx at *
  generalize mkS x2 = sx2 at *
  generalize mkS p = sp at *
  generalize mkS b = sb at *
  have D1 := C1 wb (Hm.out.below BW.out)
  have ht1 : ((NS.length : Int) == 3) = false := by rw [beq_eq_false_iff_ne]; omega
  clear hs hx hb hx2 hp hm hc1 hc2 hNS C1 k1 k2 q1 q2 z1 z2 t1 hPS hBS
  go_enter Tryz.func51, Tryz.ntmps51
  go_wp2_with fail
  refine D1.out.mono ?_
  rintro e w1 ⟨rfl, b1⟩
  have B1 := Lib.hid (BW.out.trans (b1.mono BW.out.size))
  have K3 := Lib.hid (K1.out.below b1)
  have K4 := Lib.hid (K2.out.below b1)
  have D2 := C2 w1 (Hm.out.below B1.out)
  have Z1 := Lib.hid b1.size
  clear b1 ha hb' K1 K2 BW C2 D1
  go_wp2_with fail
  refine D2.out.mono ?_
  rintro e w2 ⟨rfl, b2⟩
  have B2 := Lib.hid (B1.out.trans (b2.mono B1.out.size))
  have K5 := Lib.hid (K3.out.below b2)
  have K6 := Lib.hid (K4.out.below b2)
  have D3 := S1 w2 (Hm.out.below B2.out)
  have Z2 := Lib.hid (Nat.le_trans Z1.out b2.size)
  clear b2 K3 K4 B1 S1 D2 Z1
  go_wp2_with fail
  refine D3.out.mono ?_
  rintro e w3 ⟨⟨no, nc, rfl, rn, cn⟩, b3⟩
  have CapN := Lib.hid cn
  clear cn
  have RN := Lib.hid rn
  have B3 := Lib.hid (B2.out.trans (b3.mono B2.out.size))
  have K7 := Lib.hid (K5.out.below b3)
  have K8 := Lib.hid (K6.out.below b3)
  have Z3 := Lib.hid (Nat.le_trans Z2.out b3.size)
  clear rn b3 K5 K6 B2 D3
  obtain ⟨v4, hv4⟩ : ∃ v4, w3.setCell ⟨wa.heap.size, 0, none⟩ (.slice no NS.length nc) = v4 := ⟨_, rfl⟩
  have fr := K8.out.free 0
  have ce := K8.out.cell 0
  simp at ce
  have kp : BlockAt v4 wa.heap.size #[.slice no NS.length nc, .slice none 0 0, .slice none 0 0] 69 := by have h := K8.out.set 0 (.slice no NS.length nc); rw [hv4] at h; simpa using h
  have kr := K7.out.other (c := wa.heap.size) (by have := HZ.out; omega) 0 (.slice no NS.length nc)
  rw [hv4] at kr
  have bw : Below w.heap.size w v4 := by rw [← hv4]; exact B3.out.setCell (by have := HZ.out; simp; omega) _
  have zz : wb.heap.size ≤ v4.heap.size := by rw [← hv4]; simpa using Z3.out
  have rRN4 := RN.out.set (c := wa.heap.size) (k := 0) (by have := HZ.out; have := Z2.out; omega) (.slice no NS.length nc)
  rw [hv4] at rRN4
  have RRN4 := Lib.hid rRN4
  clear rRN4 RN
  have KP4 := Lib.hid kp
  have KR4 := Lib.hid kr
  have BB4 := Lib.hid bw
  have ZZ4 := Lib.hid zz
  clear kp kr bw zz K8 K7 B3
  have DS := S2 v4 (Hm.out.below BB4.out)
  go_wp2_with fail
  clear fr ce hv4
  refine DS.out.mono ?_
  rintro e u5 ⟨⟨poo, poc, rfl, rr, cc⟩, bb⟩
  have CapP := Lib.hid cc
  clear cc
  have RP := Lib.hid rr
  have RRN4u := Lib.hid (RRN4.out.below bb)
  clear RRN4
  have KQ5 := Lib.hid (KP4.out.below bb)
  have KS5 := Lib.hid (KR4.out.below bb)
  have BQ5 := Lib.hid (BB4.out.trans (bb.mono BB4.out.size))
  have ZQ5 := Lib.hid (Nat.le_trans ZZ4.out bb.size)
  clear rr bb DS KP4 KR4 BB4
  obtain ⟨v5, hv5⟩ : ∃ v5, u5.setCell ⟨wa.heap.size, 1, none⟩ (.slice poo PS.length poc) = v5 := ⟨_, rfl⟩
  have fr := KQ5.out.free 1
  have ce := KQ5.out.cell 1
  simp at ce
  have kp : BlockAt v5 wa.heap.size #[.slice no NS.length nc, .slice poo PS.length poc, .slice none 0 0] 69 := by have h := KQ5.out.set 1 (.slice poo PS.length poc); rw [hv5] at h; simpa using h
  have kr := KS5.out.other (c := wa.heap.size) (by have := HZ.out; omega) 1 (.slice poo PS.length poc)
  rw [hv5] at kr
  have bw : Below w.heap.size w v5 := by rw [← hv5]; exact BQ5.out.setCell (by have := HZ.out; simp; omega) _
  have zz : wb.heap.size ≤ v5.heap.size := by rw [← hv5]; simpa using ZQ5.out
  have rRRN4u5 := RRN4u.out.set (c := wa.heap.size) (k := 1) (by have := HZ.out; have := Z2.out; omega) (.slice poo PS.length poc)
  rw [hv5] at rRRN4u5
  have RRRN4u5 := Lib.hid rRRN4u5
  clear rRRN4u5 RRN4u
  have rRP5 := RP.out.set (c := wa.heap.size) (k := 1) (by have := HZ.out; have := ZZ4.out; omega) (.slice poo PS.length poc)
  rw [hv5] at rRP5
  have RRP5 := Lib.hid rRP5
  clear rRP5 RP
  have KP5 := Lib.hid kp
  have KR5 := Lib.hid kr
  have BB5 := Lib.hid bw
  have ZZ5 := Lib.hid zz
  clear kp kr bw zz KQ5 KS5 BQ5
  have DS := S3 v5 (Hm.out.below BB5.out)
  go_wp2_with fail
  clear fr ce hv5
  refine DS.out.mono ?_
  rintro e u6 ⟨⟨boo, boc, rfl, rr, cc⟩, bb⟩
  have CapB := Lib.hid cc
  clear cc
  have RB := Lib.hid rr
  have RRRN4u5u := Lib.hid (RRRN4u5.out.below bb)
  clear RRRN4u5
  have RRP5u := Lib.hid (RRP5.out.below bb)
  clear RRP5
  have KQ6 := Lib.hid (KP5.out.below bb)
  have KS6 := Lib.hid (KR5.out.below bb)
  have BQ6 := Lib.hid (BB5.out.trans (bb.mono BB5.out.size))
  have ZQ6 := Lib.hid (Nat.le_trans ZZ5.out bb.size)
  clear rr bb DS KP5 KR5 BB5
  obtain ⟨v6, hv6⟩ : ∃ v6, u6.setCell ⟨wa.heap.size, 2, none⟩ (.slice boo BS.length boc) = v6 := ⟨_, rfl⟩
  have fr := KQ6.out.free 2
  have ce := KQ6.out.cell 2
  simp at ce
  have kp : BlockAt v6 wa.heap.size #[.slice no NS.length nc, .slice poo PS.length poc, .slice boo BS.length boc] 69 := by have h := KQ6.out.set 2 (.slice boo BS.length boc); rw [hv6] at h; simpa using h
  have kr := KS6.out.other (c := wa.heap.size) (by have := HZ.out; omega) 2 (.slice boo BS.length boc)
  rw [hv6] at kr
  have bw : Below w.heap.size w v6 := by rw [← hv6]; exact BQ6.out.setCell (by have := HZ.out; simp; omega) _
  have zz : wb.heap.size ≤ v6.heap.size := by rw [← hv6]; simpa using ZQ6.out
  have rRRRN4u5u6 := RRRN4u5u.out.set (c := wa.heap.size) (k := 2) (by have := HZ.out; have := Z2.out; omega) (.slice boo BS.length boc)
  rw [hv6] at rRRRN4u5u6
  have RRRRN4u5u6 := Lib.hid rRRRN4u5u6
  clear rRRRN4u5u6 RRRN4u5u
  have rRRP5u6 := RRP5u.out.set (c := wa.heap.size) (k := 2) (by have := HZ.out; have := ZZ4.out; omega) (.slice boo BS.length boc)
  rw [hv6] at rRRP5u6
  have RRRP5u6 := Lib.hid rRRP5u6
  clear rRRP5u6 RRP5u
  have rRB6 := RB.out.set (c := wa.heap.size) (k := 2) (by have := HZ.out; have := ZZ5.out; omega) (.slice boo BS.length boc)
  rw [hv6] at rRB6
  have RRB6 := Lib.hid rRB6
  clear rRB6 RB
  have KP6 := Lib.hid kp
  have KR6 := Lib.hid kr
  have BB6 := Lib.hid bw
  have ZZ6 := Lib.hid zz
  clear kp kr bw zz KQ6 KS6 BQ6
  obtain ⟨e0, e1, e2⟩ := cell3 KP6.out
  have CN := Lib.hid (containsN_any no nc NS v6 RRRRN4u5u6.out.row zN.out (by omega))
  have f0 := KR6.out.free 0
  have f1 := KR6.out.free 1
  have f2 := KR6.out.free 2
  obtain ⟨g0, g1, g2⟩ := cell3 KR6.out
  go_wp2_with fail
  refine bodyPost_ret (v := .tuple #[.agg #[.slice no NS.length nc, .slice poo PS.length poc, .slice boo BS.length boc], .bool false]) (by simp [results, Tryz.results51, go_sem, g0, g1, g2, f0, f1, f2]) rfl ?_
  have hz := HZ.out
  refine ⟨no, nc, poo, poc, boo, boc, rfl, ((((RRRRN4u5u6.out.set (c := w.heap.size) (by have := Z2.out; omega) _).set (c := w.heap.size) (by have := Z2.out; omega) _).set (c := w.heap.size) (by have := Z2.out; omega) _).mono (by have := Z2.out; omega)), ((((RRRP5u6.out.set (c := w.heap.size) (by have := ZZ4.out; omega) _).set (c := w.heap.size) (by have := ZZ4.out; omega) _).set (c := w.heap.size) (by have := ZZ4.out; omega) _).mono (by have := ZZ4.out; omega)), ((((RRB6.out.set (c := w.heap.size) (by have := ZZ5.out; omega) _).set (c := w.heap.size) (by have := ZZ5.out; omega) _).set (c := w.heap.size) (by have := ZZ5.out; omega) _).mono (by have := ZZ5.out; omega)), ?_, CapN.out, CapP.out, CapB.out⟩
  exact ((BB6.out.setCell (by simp) _).setCell (by simp) _).setCell (by simp) _
set_option maxHeartbeats 16000000 in
set_option maxRecDepth 100000 in
theorem split_tt_num (s : ByteArray) (x b x2 p : List UInt8) (NS PS BS : List ByteArray) (w : World) (hs : s.size ≤ 1000) (hx : x.length ≤ 1000) (hb : b.length ≤ 1000) (hx2 : x2.length ≤ 1000) (hp : p.length ≤ 1000) (hm : MaxAt w) (hc1 : cutL 43 s.data.toList = (x, b, true)) (hc2 : cutL 45 x = (x2, p, true)) (hNS : dotsOf x2 = NS) (hPS : dotsOf p = PS) (hBS : dotsOf b = BS) (t1 : NS.length = 3) (t2 : NS.any badNum = true) :
    Calls Tryz.prog 51 #[.string s] w (SplitP w NS PS BS false) := by
  unfold SplitP
  have Hm := Lib.hid hm
  have lN := dots_len x2
  have lP := dots_len p
  have lB := dots_len b
  rw [hNS] at lN
  rw [hPS] at lP
  rw [hBS] at lB
  have zN := Lib.hid (show ∀ q ∈ NS, q.size ≤ 9223372036854775806 from fun q hq => by have := lN.2 q hq; omega)
  have mN : NS.length ≤ 1001 := by have := lN.1; omega
  clear lN
  have zP := Lib.hid (show ∀ q ∈ PS, q.size ≤ 9223372036854775806 from fun q hq => by have := lP.2 q hq; omega)
  have mP : PS.length ≤ 1001 := by have := lP.1; omega
  clear lP
  have zB := Lib.hid (show ∀ q ∈ BS, q.size ≤ 9223372036854775806 from fun q hq => by have := lB.2 q hq; omega)
  have mB : BS.length ≤ 1001 := by have := lB.1; omega
  clear lB
  obtain ⟨wa, ha⟩ : ∃ wa, w.alloc (.cells #[.slice none 0 0, .slice none 0 0, .slice none 0 0] 69) = wa := ⟨_, rfl⟩
  obtain ⟨wb, hb'⟩ : ∃ wb, wa.alloc (.cells #[.slice none 0 0, .slice none 0 0, .slice none 0 0] 69) = wb := ⟨_, rfl⟩
  obtain ⟨k1, q1, z1⟩ := box_new ha
  obtain ⟨k2, q2, z2⟩ := box_new hb'
  have BW := Lib.hid (q1.trans (q2.mono q1.size))
  have HZ := Lib.hid (And.intro z1 z2)
  have K1 := Lib.hid (k1.below q2)
  have K2 := Lib.hid k2
  have C1 := fun w' hw' => Lib.hid (cut_any s 43 w' hs hw')
  have C2 := fun w' hw' => Lib.hid (cut_any (mkS x) 45 w' hx hw')
  rw [hc1] at C1
  rw [mkS_data, hc2] at C2
  have S1 := fun w' hw' => Lib.hid (splitS_any (mkS x2) w' hx2 hw')
  rw [mkS_data, hNS] at S1
  have S2 := fun w' hw' => Lib.hid (splitS_any (mkS p) w' hp hw')
  rw [mkS_data, hPS] at S2
  have S3 := fun w' hw' => Lib.hid (splitS_any (mkS b) w' hb hw')
  rw [mkS_data, hBS] at S3
  simp only at C1 C2
  generalize mkS x = sx at *
  generalize mkS x2 = sx2 at *
  generalize mkS p = sp at *
  generalize mkS b = sb at *
  have D1 := C1 wb (Hm.out.below BW.out)
  have ht1 : ((NS.length : Int) == 3) = true := by rw [beq_iff_eq]; omega
  clear hs hx hb hx2 hp hm hc1 hc2 hNS C1 k1 k2 q1 q2 z1 z2 t1 hPS hBS
  go_enter Tryz.func51, Tryz.ntmps51
  go_wp2_with fail
  refine D1.out.mono ?_
  rintro e w1 ⟨rfl, b1⟩
  have B1 := Lib.hid (BW.out.trans (b1.mono BW.out.size))
  have K3 := Lib.hid (K1.out.below b1)
  have K4 := Lib.hid (K2.out.below b1)
  have D2 := C2 w1 (Hm.out.below B1.out)
  have Z1 := Lib.hid b1.size
  clear b1 ha hb' K1 K2 BW C2 D1
  go_wp2_with fail
  refine D2.out.mono ?_
  rintro e w2 ⟨rfl, b2⟩
  have B2 := Lib.hid (B1.out.trans (b2.mono B1.out.size))
  have K5 := Lib.hid (K3.out.below b2)
  have K6 := Lib.hid (K4.out.below b2)
  have D3 := S1 w2 (Hm.out.below B2.out)
  have Z2 := Lib.hid (Nat.le_trans Z1.out b2.size)
  clear b2 K3 K4 B1 S1 D2 Z1
  go_wp2_with fail
  refine D3.out.mono ?_
  rintro e w3 ⟨⟨no, nc, rfl, rn, cn⟩, b3⟩
  have CapN := Lib.hid cn
  clear cn
  have RN := Lib.hid rn
  have B3 := Lib.hid (B2.out.trans (b3.mono B2.out.size))
  have K7 := Lib.hid (K5.out.below b3)
  have K8 := Lib.hid (K6.out.below b3)
  have Z3 := Lib.hid (Nat.le_trans Z2.out b3.size)
  clear rn b3 K5 K6 B2 D3
  obtain ⟨v4, hv4⟩ : ∃ v4, w3.setCell ⟨wa.heap.size, 0, none⟩ (.slice no NS.length nc) = v4 := ⟨_, rfl⟩
  have fr := K8.out.free 0
  have ce := K8.out.cell 0
  simp at ce
  have kp : BlockAt v4 wa.heap.size #[.slice no NS.length nc, .slice none 0 0, .slice none 0 0] 69 := by have h := K8.out.set 0 (.slice no NS.length nc); rw [hv4] at h; simpa using h
  have kr := K7.out.other (c := wa.heap.size) (by have := HZ.out; omega) 0 (.slice no NS.length nc)
  rw [hv4] at kr
  have bw : Below w.heap.size w v4 := by rw [← hv4]; exact B3.out.setCell (by have := HZ.out; simp; omega) _
  have zz : wb.heap.size ≤ v4.heap.size := by rw [← hv4]; simpa using Z3.out
  have rRN4 := RN.out.set (c := wa.heap.size) (k := 0) (by have := HZ.out; have := Z2.out; omega) (.slice no NS.length nc)
  rw [hv4] at rRN4
  have RRN4 := Lib.hid rRN4
  clear rRN4 RN
  have KP4 := Lib.hid kp
  have KR4 := Lib.hid kr
  have BB4 := Lib.hid bw
  have ZZ4 := Lib.hid zz
  clear kp kr bw zz K8 K7 B3
  have DS := S2 v4 (Hm.out.below BB4.out)
  go_wp2_with fail
  clear fr ce hv4
  refine DS.out.mono ?_
  rintro e u5 ⟨⟨poo, poc, rfl, rr, cc⟩, bb⟩
  have CapP := Lib.hid cc
  clear cc
  have RP := Lib.hid rr
  have RRN4u := Lib.hid (RRN4.out.below bb)
  clear RRN4
  have KQ5 := Lib.hid (KP4.out.below bb)
  have KS5 := Lib.hid (KR4.out.below bb)
  have BQ5 := Lib.hid (BB4.out.trans (bb.mono BB4.out.size))
  have ZQ5 := Lib.hid (Nat.le_trans ZZ4.out bb.size)
  clear rr bb DS KP4 KR4 BB4
  obtain ⟨v5, hv5⟩ : ∃ v5, u5.setCell ⟨wa.heap.size, 1, none⟩ (.slice poo PS.length poc) = v5 := ⟨_, rfl⟩
  have fr := KQ5.out.free 1
  have ce := KQ5.out.cell 1
  simp at ce
  have kp : BlockAt v5 wa.heap.size #[.slice no NS.length nc, .slice poo PS.length poc, .slice none 0 0] 69 := by have h := KQ5.out.set 1 (.slice poo PS.length poc); rw [hv5] at h; simpa using h
  have kr := KS5.out.other (c := wa.heap.size) (by have := HZ.out; omega) 1 (.slice poo PS.length poc)
  rw [hv5] at kr
  have bw : Below w.heap.size w v5 := by rw [← hv5]; exact BQ5.out.setCell (by have := HZ.out; simp; omega) _
  have zz : wb.heap.size ≤ v5.heap.size := by rw [← hv5]; simpa using ZQ5.out
  have rRRN4u5 := RRN4u.out.set (c := wa.heap.size) (k := 1) (by have := HZ.out; have := Z2.out; omega) (.slice poo PS.length poc)
  rw [hv5] at rRRN4u5
  have RRRN4u5 := Lib.hid rRRN4u5
  clear rRRN4u5 RRN4u
  have rRP5 := RP.out.set (c := wa.heap.size) (k := 1) (by have := HZ.out; have := ZZ4.out; omega) (.slice poo PS.length poc)
  rw [hv5] at rRP5
  have RRP5 := Lib.hid rRP5
  clear rRP5 RP
  have KP5 := Lib.hid kp
  have KR5 := Lib.hid kr
  have BB5 := Lib.hid bw
  have ZZ5 := Lib.hid zz
  clear kp kr bw zz KQ5 KS5 BQ5
  have DS := S3 v5 (Hm.out.below BB5.out)
  go_wp2_with fail
  clear fr ce hv5
  refine DS.out.mono ?_
  rintro e u6 ⟨⟨boo, boc, rfl, rr, cc⟩, bb⟩
  have CapB := Lib.hid cc
  clear cc
  have RB := Lib.hid rr
  have RRRN4u5u := Lib.hid (RRRN4u5.out.below bb)
  clear RRRN4u5
  have RRP5u := Lib.hid (RRP5.out.below bb)
  clear RRP5
  have KQ6 := Lib.hid (KP5.out.below bb)
  have KS6 := Lib.hid (KR5.out.below bb)
  have BQ6 := Lib.hid (BB5.out.trans (bb.mono BB5.out.size))
  have ZQ6 := Lib.hid (Nat.le_trans ZZ5.out bb.size)
  clear rr bb DS KP5 KR5 BB5
  obtain ⟨v6, hv6⟩ : ∃ v6, u6.setCell ⟨wa.heap.size, 2, none⟩ (.slice boo BS.length boc) = v6 := ⟨_, rfl⟩
  have fr := KQ6.out.free 2
  have ce := KQ6.out.cell 2
  simp at ce
  have kp : BlockAt v6 wa.heap.size #[.slice no NS.length nc, .slice poo PS.length poc, .slice boo BS.length boc] 69 := by have h := KQ6.out.set 2 (.slice boo BS.length boc); rw [hv6] at h; simpa using h
  have kr := KS6.out.other (c := wa.heap.size) (by have := HZ.out; omega) 2 (.slice boo BS.length boc)
  rw [hv6] at kr
  have bw : Below w.heap.size w v6 := by rw [← hv6]; exact BQ6.out.setCell (by have := HZ.out; simp; omega) _
  have zz : wb.heap.size ≤ v6.heap.size := by rw [← hv6]; simpa using ZQ6.out
  have rRRRN4u5u6 := RRRN4u5u.out.set (c := wa.heap.size) (k := 2) (by have := HZ.out; have := Z2.out; omega) (.slice boo BS.length boc)
  rw [hv6] at rRRRN4u5u6
  have RRRRN4u5u6 := Lib.hid rRRRN4u5u6
  clear rRRRN4u5u6 RRRN4u5u
  have rRRP5u6 := RRP5u.out.set (c := wa.heap.size) (k := 2) (by have := HZ.out; have := ZZ4.out; omega) (.slice boo BS.length boc)
  rw [hv6] at rRRP5u6
  have RRRP5u6 := Lib.hid rRRP5u6
  clear rRRP5u6 RRP5u
  have rRB6 := RB.out.set (c := wa.heap.size) (k := 2) (by have := HZ.out; have := ZZ5.out; omega) (.slice boo BS.length boc)
  rw [hv6] at rRB6
  have RRB6 := Lib.hid rRB6
  clear rRB6 RB
  have KP6 := Lib.hid kp
  have KR6 := Lib.hid kr
  have BB6 := Lib.hid bw
  have ZZ6 := Lib.hid zz
  clear kp kr bw zz KQ6 KS6 BQ6
  obtain ⟨e0, e1, e2⟩ := cell3 KP6.out
  have CN := Lib.hid (containsN_any no nc NS v6 RRRRN4u5u6.out.row zN.out (by omega))
  have CN' := CN.out
  clear CN
  rw [t2] at CN'
  have CN := Lib.hid CN'
  clear CN' t2
  have f0 := KR6.out.free 0
  have f1 := KR6.out.free 1
  have f2 := KR6.out.free 2
  obtain ⟨g0, g1, g2⟩ := cell3 KR6.out
  go_wp2_with fail
  refine CN.out.mono ?_
  rintro e w' ⟨rfl, rfl⟩
  go_wp2_with fail
  refine bodyPost_ret (v := .tuple #[.agg #[.slice no NS.length nc, .slice poo PS.length poc, .slice boo BS.length boc], .bool false]) (by simp [results, Tryz.results51, go_sem, g0, g1, g2, f0, f1, f2]) rfl ?_
  have hz := HZ.out
  refine ⟨no, nc, poo, poc, boo, boc, rfl, ((((RRRRN4u5u6.out.set (c := w.heap.size) (by have := Z2.out; omega) _).set (c := w.heap.size) (by have := Z2.out; omega) _).set (c := w.heap.size) (by have := Z2.out; omega) _).mono (by have := Z2.out; omega)), ((((RRRP5u6.out.set (c := w.heap.size) (by have := ZZ4.out; omega) _).set (c := w.heap.size) (by have := ZZ4.out; omega) _).set (c := w.heap.size) (by have := ZZ4.out; omega) _).mono (by have := ZZ4.out; omega)), ((((RRB6.out.set (c := w.heap.size) (by have := ZZ5.out; omega) _).set (c := w.heap.size) (by have := ZZ5.out; omega) _).set (c := w.heap.size) (by have := ZZ5.out; omega) _).mono (by have := ZZ5.out; omega)), ?_, CapN.out, CapP.out, CapB.out⟩
  exact ((BB6.out.setCell (by simp) _).setCell (by simp) _).setCell (by simp) _
set_option maxHeartbeats 16000000 in
set_option maxRecDepth 100000 in
theorem split_tt_pre (s : ByteArray) (x b x2 p : List UInt8) (NS PS BS : List ByteArray) (w : World) (hs : s.size ≤ 1000) (hx : x.length ≤ 1000) (hb : b.length ≤ 1000) (hx2 : x2.length ≤ 1000) (hp : p.length ≤ 1000) (hm : MaxAt w) (hc1 : cutL 43 s.data.toList = (x, b, true)) (hc2 : cutL 45 x = (x2, p, true)) (hNS : dotsOf x2 = NS) (hPS : dotsOf p = PS) (hBS : dotsOf b = BS) (t1 : NS.length = 3) (t2 : NS.any badNum = false) (t3 : PS.any badPre = true) :
    Calls Tryz.prog 51 #[.string s] w (SplitP w NS PS BS false) := by
  unfold SplitP
  have Hm := Lib.hid hm
  have lN := dots_len x2
  have lP := dots_len p
  have lB := dots_len b
  rw [hNS] at lN
  rw [hPS] at lP
  rw [hBS] at lB
  have zN := Lib.hid (show ∀ q ∈ NS, q.size ≤ 9223372036854775806 from fun q hq => by have := lN.2 q hq; omega)
  have mN : NS.length ≤ 1001 := by have := lN.1; omega
  clear lN
  have zP := Lib.hid (show ∀ q ∈ PS, q.size ≤ 9223372036854775806 from fun q hq => by have := lP.2 q hq; omega)
  have mP : PS.length ≤ 1001 := by have := lP.1; omega
  clear lP
  have zB := Lib.hid (show ∀ q ∈ BS, q.size ≤ 9223372036854775806 from fun q hq => by have := lB.2 q hq; omega)
  have mB : BS.length ≤ 1001 := by have := lB.1; omega
  clear lB
  obtain ⟨wa, ha⟩ : ∃ wa, w.alloc (.cells #[.slice none 0 0, .slice none 0 0, .slice none 0 0] 69) = wa := ⟨_, rfl⟩
  obtain ⟨wb, hb'⟩ : ∃ wb, wa.alloc (.cells #[.slice none 0 0, .slice none 0 0, .slice none 0 0] 69) = wb := ⟨_, rfl⟩
  obtain ⟨k1, q1, z1⟩ := box_new ha
  obtain ⟨k2, q2, z2⟩ := box_new hb'
  have BW := Lib.hid (q1.trans (q2.mono q1.size))
  have HZ := Lib.hid (And.intro z1 z2)
  have K1 := Lib.hid (k1.below q2)
  have K2 := Lib.hid k2
  have C1 := fun w' hw' => Lib.hid (cut_any s 43 w' hs hw')
  have C2 := fun w' hw' => Lib.hid (cut_any (mkS x) 45 w' hx hw')
  rw [hc1] at C1
  rw [mkS_data, hc2] at C2
  have S1 := fun w' hw' => Lib.hid (splitS_any (mkS x2) w' hx2 hw')
  rw [mkS_data, hNS] at S1
  have S2 := fun w' hw' => Lib.hid (splitS_any (mkS p) w' hp hw')
  rw [mkS_data, hPS] at S2
  have S3 := fun w' hw' => Lib.hid (splitS_any (mkS b) w' hb hw')
  rw [mkS_data, hBS] at S3
  simp only at C1 C2
  generalize mkS x = sx at *
  generalize mkS x2 = sx2 at *
  generalize mkS p = sp at *
  generalize mkS b = sb at *
  have D1 := C1 wb (Hm.out.below BW.out)
  have ht1 : ((NS.length : Int) == 3) = true := by rw [beq_iff_eq]; omega
  clear hs hx hb hx2 hp hm hc1 hc2 hNS C1 k1 k2 q1 q2 z1 z2 t1 hPS hBS
  go_enter Tryz.func51, Tryz.ntmps51
  go_wp2_with fail
  refine D1.out.mono ?_
  rintro e w1 ⟨rfl, b1⟩
  have B1 := Lib.hid (BW.out.trans (b1.mono BW.out.size))
  have K3 := Lib.hid (K1.out.below b1)
  have K4 := Lib.hid (K2.out.below b1)
  have D2 := C2 w1 (Hm.out.below B1.out)
  have Z1 := Lib.hid b1.size
  clear b1 ha hb' K1 K2 BW C2 D1
  go_wp2_with fail
  refine D2.out.mono ?_
  rintro e w2 ⟨rfl, b2⟩
  have B2 := Lib.hid (B1.out.trans (b2.mono B1.out.size))
  have K5 := Lib.hid (K3.out.below b2)
  have K6 := Lib.hid (K4.out.below b2)
  have D3 := S1 w2 (Hm.out.below B2.out)
  have Z2 := Lib.hid (Nat.le_trans Z1.out b2.size)
  clear b2 K3 K4 B1 S1 D2 Z1
  go_wp2_with fail
  refine D3.out.mono ?_
  rintro e w3 ⟨⟨no, nc, rfl, rn, cn⟩, b3⟩
  have CapN := Lib.hid cn
  clear cn
  have RN := Lib.hid rn
  have B3 := Lib.hid (B2.out.trans (b3.mono B2.out.size))
  have K7 := Lib.hid (K5.out.below b3)
  have K8 := Lib.hid (K6.out.below b3)
  have Z3 := Lib.hid (Nat.le_trans Z2.out b3.size)
  clear rn b3 K5 K6 B2 D3
  obtain ⟨v4, hv4⟩ : ∃ v4, w3.setCell ⟨wa.heap.size, 0, none⟩ (.slice no NS.length nc) = v4 := ⟨_, rfl⟩
  have fr := K8.out.free 0
  have ce := K8.out.cell 0
  simp at ce
  have kp : BlockAt v4 wa.heap.size #[.slice no NS.length nc, .slice none 0 0, .slice none 0 0] 69 := by have h := K8.out.set 0 (.slice no NS.length nc); rw [hv4] at h; simpa using h
  have kr := K7.out.other (c := wa.heap.size) (by have := HZ.out; omega) 0 (.slice no NS.length nc)
  rw [hv4] at kr
  have bw : Below w.heap.size w v4 := by rw [← hv4]; exact B3.out.setCell (by have := HZ.out; simp; omega) _
  have zz : wb.heap.size ≤ v4.heap.size := by rw [← hv4]; simpa using Z3.out
  have rRN4 := RN.out.set (c := wa.heap.size) (k := 0) (by have := HZ.out; have := Z2.out; omega) (.slice no NS.length nc)
  rw [hv4] at rRN4
  have RRN4 := Lib.hid rRN4
  clear rRN4 RN
  have KP4 := Lib.hid kp
  have KR4 := Lib.hid kr
  have BB4 := Lib.hid bw
  have ZZ4 := Lib.hid zz
  clear kp kr bw zz K8 K7 B3
  have DS := S2 v4 (Hm.out.below BB4.out)
  go_wp2_with fail
  clear fr ce hv4
  refine DS.out.mono ?_
  rintro e u5 ⟨⟨poo, poc, rfl, rr, cc⟩, bb⟩
  have CapP := Lib.hid cc
  clear cc
  have RP := Lib.hid rr
  have RRN4u := Lib.hid (RRN4.out.below bb)
  clear RRN4
  have KQ5 := Lib.hid (KP4.out.below bb)
  have KS5 := Lib.hid (KR4.out.below bb)
  have BQ5 := Lib.hid (BB4.out.trans (bb.mono BB4.out.size))
  have ZQ5 := Lib.hid (Nat.le_trans ZZ4.out bb.size)
  clear rr bb DS KP4 KR4 BB4
  obtain ⟨v5, hv5⟩ : ∃ v5, u5.setCell ⟨wa.heap.size, 1, none⟩ (.slice poo PS.length poc) = v5 := ⟨_, rfl⟩
  have fr := KQ5.out.free 1
  have ce := KQ5.out.cell 1
  simp at ce
  have kp : BlockAt v5 wa.heap.size #[.slice no NS.length nc, .slice poo PS.length poc, .slice none 0 0] 69 := by have h := KQ5.out.set 1 (.slice poo PS.length poc); rw [hv5] at h; simpa using h
  have kr := KS5.out.other (c := wa.heap.size) (by have := HZ.out; omega) 1 (.slice poo PS.length poc)
  rw [hv5] at kr
  have bw : Below w.heap.size w v5 := by rw [← hv5]; exact BQ5.out.setCell (by have := HZ.out; simp; omega) _
  have zz : wb.heap.size ≤ v5.heap.size := by rw [← hv5]; simpa using ZQ5.out
  have rRRN4u5 := RRN4u.out.set (c := wa.heap.size) (k := 1) (by have := HZ.out; have := Z2.out; omega) (.slice poo PS.length poc)
  rw [hv5] at rRRN4u5
  have RRRN4u5 := Lib.hid rRRN4u5
  clear rRRN4u5 RRN4u
  have rRP5 := RP.out.set (c := wa.heap.size) (k := 1) (by have := HZ.out; have := ZZ4.out; omega) (.slice poo PS.length poc)
  rw [hv5] at rRP5
  have RRP5 := Lib.hid rRP5
  clear rRP5 RP
  have KP5 := Lib.hid kp
  have KR5 := Lib.hid kr
  have BB5 := Lib.hid bw
  have ZZ5 := Lib.hid zz
  clear kp kr bw zz KQ5 KS5 BQ5
  have DS := S3 v5 (Hm.out.below BB5.out)
  go_wp2_with fail
  clear fr ce hv5
  refine DS.out.mono ?_
  rintro e u6 ⟨⟨boo, boc, rfl, rr, cc⟩, bb⟩
  have CapB := Lib.hid cc
  clear cc
  have RB := Lib.hid rr
  have RRRN4u5u := Lib.hid (RRRN4u5.out.below bb)
  clear RRRN4u5
  have RRP5u := Lib.hid (RRP5.out.below bb)
  clear RRP5
  have KQ6 := Lib.hid (KP5.out.below bb)
  have KS6 := Lib.hid (KR5.out.below bb)
  have BQ6 := Lib.hid (BB5.out.trans (bb.mono BB5.out.size))
  have ZQ6 := Lib.hid (Nat.le_trans ZZ5.out bb.size)
  clear rr bb DS KP5 KR5 BB5
  obtain ⟨v6, hv6⟩ : ∃ v6, u6.setCell ⟨wa.heap.size, 2, none⟩ (.slice boo BS.length boc) = v6 := ⟨_, rfl⟩
  have fr := KQ6.out.free 2
  have ce := KQ6.out.cell 2
  simp at ce
  have kp : BlockAt v6 wa.heap.size #[.slice no NS.length nc, .slice poo PS.length poc, .slice boo BS.length boc] 69 := by have h := KQ6.out.set 2 (.slice boo BS.length boc); rw [hv6] at h; simpa using h
  have kr := KS6.out.other (c := wa.heap.size) (by have := HZ.out; omega) 2 (.slice boo BS.length boc)
  rw [hv6] at kr
  have bw : Below w.heap.size w v6 := by rw [← hv6]; exact BQ6.out.setCell (by have := HZ.out; simp; omega) _
  have zz : wb.heap.size ≤ v6.heap.size := by rw [← hv6]; simpa using ZQ6.out
  have rRRRN4u5u6 := RRRN4u5u.out.set (c := wa.heap.size) (k := 2) (by have := HZ.out; have := Z2.out; omega) (.slice boo BS.length boc)
  rw [hv6] at rRRRN4u5u6
  have RRRRN4u5u6 := Lib.hid rRRRN4u5u6
  clear rRRRN4u5u6 RRRN4u5u
  have rRRP5u6 := RRP5u.out.set (c := wa.heap.size) (k := 2) (by have := HZ.out; have := ZZ4.out; omega) (.slice boo BS.length boc)
  rw [hv6] at rRRP5u6
  have RRRP5u6 := Lib.hid rRRP5u6
  clear rRRP5u6 RRP5u
  have rRB6 := RB.out.set (c := wa.heap.size) (k := 2) (by have := HZ.out; have := ZZ5.out; omega) (.slice boo BS.length boc)
  rw [hv6] at rRB6
  have RRB6 := Lib.hid rRB6
  clear rRB6 RB
  have KP6 := Lib.hid kp
  have KR6 := Lib.hid kr
  have BB6 := Lib.hid bw
  have ZZ6 := Lib.hid zz
  clear kp kr bw zz KQ6 KS6 BQ6
  obtain ⟨e0, e1, e2⟩ := cell3 KP6.out
  have CN := Lib.hid (containsN_any no nc NS v6 RRRRN4u5u6.out.row zN.out (by omega))
  have CN' := CN.out
  clear CN
  rw [t2] at CN'
  have CN := Lib.hid CN'
  clear CN' t2
  have CP' := containsP_any poo poc PS v6 RRRP5u6.out.row zP.out (by omega)
  rw [t3] at CP'
  have CP := Lib.hid CP'
  clear CP' t3
  have f0 := KR6.out.free 0
  have f1 := KR6.out.free 1
  have f2 := KR6.out.free 2
  obtain ⟨g0, g1, g2⟩ := cell3 KR6.out
  go_wp2_with fail
  refine CN.out.mono ?_
  rintro e w' ⟨rfl, rfl⟩
  go_wp2_with fail
  refine CP.out.mono ?_
  rintro e w' ⟨rfl, rfl⟩
  go_wp2_with fail
  refine bodyPost_ret (v := .tuple #[.agg #[.slice no NS.length nc, .slice poo PS.length poc, .slice boo BS.length boc], .bool false]) (by simp [results, Tryz.results51, go_sem, g0, g1, g2, f0, f1, f2]) rfl ?_
  have hz := HZ.out
  refine ⟨no, nc, poo, poc, boo, boc, rfl, ((((RRRRN4u5u6.out.set (c := w.heap.size) (by have := Z2.out; omega) _).set (c := w.heap.size) (by have := Z2.out; omega) _).set (c := w.heap.size) (by have := Z2.out; omega) _).mono (by have := Z2.out; omega)), ((((RRRP5u6.out.set (c := w.heap.size) (by have := ZZ4.out; omega) _).set (c := w.heap.size) (by have := ZZ4.out; omega) _).set (c := w.heap.size) (by have := ZZ4.out; omega) _).mono (by have := ZZ4.out; omega)), ((((RRB6.out.set (c := w.heap.size) (by have := ZZ5.out; omega) _).set (c := w.heap.size) (by have := ZZ5.out; omega) _).set (c := w.heap.size) (by have := ZZ5.out; omega) _).mono (by have := ZZ5.out; omega)), ?_, CapN.out, CapP.out, CapB.out⟩
  exact ((BB6.out.setCell (by simp) _).setCell (by simp) _).setCell (by simp) _
set_option maxHeartbeats 16000000 in
set_option maxRecDepth 100000 in
theorem split_tt_all (s : ByteArray) (x b x2 p : List UInt8) (NS PS BS : List ByteArray) (w : World) (hs : s.size ≤ 1000) (hx : x.length ≤ 1000) (hb : b.length ≤ 1000) (hx2 : x2.length ≤ 1000) (hp : p.length ≤ 1000) (hm : MaxAt w) (hc1 : cutL 43 s.data.toList = (x, b, true)) (hc2 : cutL 45 x = (x2, p, true)) (hNS : dotsOf x2 = NS) (hPS : dotsOf p = PS) (hBS : dotsOf b = BS) (t1 : NS.length = 3) (t2 : NS.any badNum = false) (t3 : PS.any badPre = false) :
    Calls Tryz.prog 51 #[.string s] w (SplitP w NS PS BS (!BS.any badWord)) := by
  unfold SplitP
  have Hm := Lib.hid hm
  have lN := dots_len x2
  have lP := dots_len p
  have lB := dots_len b
  rw [hNS] at lN
  rw [hPS] at lP
  rw [hBS] at lB
  have zN := Lib.hid (show ∀ q ∈ NS, q.size ≤ 9223372036854775806 from fun q hq => by have := lN.2 q hq; omega)
  have mN : NS.length ≤ 1001 := by have := lN.1; omega
  clear lN
  have zP := Lib.hid (show ∀ q ∈ PS, q.size ≤ 9223372036854775806 from fun q hq => by have := lP.2 q hq; omega)
  have mP : PS.length ≤ 1001 := by have := lP.1; omega
  clear lP
  have zB := Lib.hid (show ∀ q ∈ BS, q.size ≤ 9223372036854775806 from fun q hq => by have := lB.2 q hq; omega)
  have mB : BS.length ≤ 1001 := by have := lB.1; omega
  clear lB
  obtain ⟨wa, ha⟩ : ∃ wa, w.alloc (.cells #[.slice none 0 0, .slice none 0 0, .slice none 0 0] 69) = wa := ⟨_, rfl⟩
  obtain ⟨wb, hb'⟩ : ∃ wb, wa.alloc (.cells #[.slice none 0 0, .slice none 0 0, .slice none 0 0] 69) = wb := ⟨_, rfl⟩
  obtain ⟨k1, q1, z1⟩ := box_new ha
  obtain ⟨k2, q2, z2⟩ := box_new hb'
  have BW := Lib.hid (q1.trans (q2.mono q1.size))
  have HZ := Lib.hid (And.intro z1 z2)
  have K1 := Lib.hid (k1.below q2)
  have K2 := Lib.hid k2
  have C1 := fun w' hw' => Lib.hid (cut_any s 43 w' hs hw')
  have C2 := fun w' hw' => Lib.hid (cut_any (mkS x) 45 w' hx hw')
  rw [hc1] at C1
  rw [mkS_data, hc2] at C2
  have S1 := fun w' hw' => Lib.hid (splitS_any (mkS x2) w' hx2 hw')
  rw [mkS_data, hNS] at S1
  have S2 := fun w' hw' => Lib.hid (splitS_any (mkS p) w' hp hw')
  rw [mkS_data, hPS] at S2
  have S3 := fun w' hw' => Lib.hid (splitS_any (mkS b) w' hb hw')
  rw [mkS_data, hBS] at S3
  simp only at C1 C2
  generalize mkS x = sx at *
  generalize mkS x2 = sx2 at *
  generalize mkS p = sp at *
  generalize mkS b = sb at *
  have D1 := C1 wb (Hm.out.below BW.out)
  have ht1 : ((NS.length : Int) == 3) = true := by rw [beq_iff_eq]; omega
  clear hs hx hb hx2 hp hm hc1 hc2 hNS C1 k1 k2 q1 q2 z1 z2 t1 hPS hBS
  go_enter Tryz.func51, Tryz.ntmps51
  go_wp2_with fail
  refine D1.out.mono ?_
  rintro e w1 ⟨rfl, b1⟩
  have B1 := Lib.hid (BW.out.trans (b1.mono BW.out.size))
  have K3 := Lib.hid (K1.out.below b1)
  have K4 := Lib.hid (K2.out.below b1)
  have D2 := C2 w1 (Hm.out.below B1.out)
  have Z1 := Lib.hid b1.size
  clear b1 ha hb' K1 K2 BW C2 D1
  go_wp2_with fail
  refine D2.out.mono ?_
  rintro e w2 ⟨rfl, b2⟩
  have B2 := Lib.hid (B1.out.trans (b2.mono B1.out.size))
  have K5 := Lib.hid (K3.out.below b2)
  have K6 := Lib.hid (K4.out.below b2)
  have D3 := S1 w2 (Hm.out.below B2.out)
  have Z2 := Lib.hid (Nat.le_trans Z1.out b2.size)
  clear b2 K3 K4 B1 S1 D2 Z1
  go_wp2_with fail
  refine D3.out.mono ?_
  rintro e w3 ⟨⟨no, nc, rfl, rn, cn⟩, b3⟩
  have CapN := Lib.hid cn
  clear cn
  have RN := Lib.hid rn
  have B3 := Lib.hid (B2.out.trans (b3.mono B2.out.size))
  have K7 := Lib.hid (K5.out.below b3)
  have K8 := Lib.hid (K6.out.below b3)
  have Z3 := Lib.hid (Nat.le_trans Z2.out b3.size)
  clear rn b3 K5 K6 B2 D3
  obtain ⟨v4, hv4⟩ : ∃ v4, w3.setCell ⟨wa.heap.size, 0, none⟩ (.slice no NS.length nc) = v4 := ⟨_, rfl⟩
  have fr := K8.out.free 0
  have ce := K8.out.cell 0
  simp at ce
  have kp : BlockAt v4 wa.heap.size #[.slice no NS.length nc, .slice none 0 0, .slice none 0 0] 69 := by have h := K8.out.set 0 (.slice no NS.length nc); rw [hv4] at h; simpa using h
  have kr := K7.out.other (c := wa.heap.size) (by have := HZ.out; omega) 0 (.slice no NS.length nc)
  rw [hv4] at kr
  have bw : Below w.heap.size w v4 := by rw [← hv4]; exact B3.out.setCell (by have := HZ.out; simp; omega) _
  have zz : wb.heap.size ≤ v4.heap.size := by rw [← hv4]; simpa using Z3.out
  have rRN4 := RN.out.set (c := wa.heap.size) (k := 0) (by have := HZ.out; have := Z2.out; omega) (.slice no NS.length nc)
  rw [hv4] at rRN4
  have RRN4 := Lib.hid rRN4
  clear rRN4 RN
  have KP4 := Lib.hid kp
  have KR4 := Lib.hid kr
  have BB4 := Lib.hid bw
  have ZZ4 := Lib.hid zz
  clear kp kr bw zz K8 K7 B3
  have DS := S2 v4 (Hm.out.below BB4.out)
  go_wp2_with fail
  clear fr ce hv4
  refine DS.out.mono ?_
  rintro e u5 ⟨⟨poo, poc, rfl, rr, cc⟩, bb⟩
  have CapP := Lib.hid cc
  clear cc
  have RP := Lib.hid rr
  have RRN4u := Lib.hid (RRN4.out.below bb)
  clear RRN4
  have KQ5 := Lib.hid (KP4.out.below bb)
  have KS5 := Lib.hid (KR4.out.below bb)
  have BQ5 := Lib.hid (BB4.out.trans (bb.mono BB4.out.size))
  have ZQ5 := Lib.hid (Nat.le_trans ZZ4.out bb.size)
  clear rr bb DS KP4 KR4 BB4
  obtain ⟨v5, hv5⟩ : ∃ v5, u5.setCell ⟨wa.heap.size, 1, none⟩ (.slice poo PS.length poc) = v5 := ⟨_, rfl⟩
  have fr := KQ5.out.free 1
  have ce := KQ5.out.cell 1
  simp at ce
  have kp : BlockAt v5 wa.heap.size #[.slice no NS.length nc, .slice poo PS.length poc, .slice none 0 0] 69 := by have h := KQ5.out.set 1 (.slice poo PS.length poc); rw [hv5] at h; simpa using h
  have kr := KS5.out.other (c := wa.heap.size) (by have := HZ.out; omega) 1 (.slice poo PS.length poc)
  rw [hv5] at kr
  have bw : Below w.heap.size w v5 := by rw [← hv5]; exact BQ5.out.setCell (by have := HZ.out; simp; omega) _
  have zz : wb.heap.size ≤ v5.heap.size := by rw [← hv5]; simpa using ZQ5.out
  have rRRN4u5 := RRN4u.out.set (c := wa.heap.size) (k := 1) (by have := HZ.out; have := Z2.out; omega) (.slice poo PS.length poc)
  rw [hv5] at rRRN4u5
  have RRRN4u5 := Lib.hid rRRN4u5
  clear rRRN4u5 RRN4u
  have rRP5 := RP.out.set (c := wa.heap.size) (k := 1) (by have := HZ.out; have := ZZ4.out; omega) (.slice poo PS.length poc)
  rw [hv5] at rRP5
  have RRP5 := Lib.hid rRP5
  clear rRP5 RP
  have KP5 := Lib.hid kp
  have KR5 := Lib.hid kr
  have BB5 := Lib.hid bw
  have ZZ5 := Lib.hid zz
  clear kp kr bw zz KQ5 KS5 BQ5
  have DS := S3 v5 (Hm.out.below BB5.out)
  go_wp2_with fail
  clear fr ce hv5
  refine DS.out.mono ?_
  rintro e u6 ⟨⟨boo, boc, rfl, rr, cc⟩, bb⟩
  have CapB := Lib.hid cc
  clear cc
  have RB := Lib.hid rr
  have RRRN4u5u := Lib.hid (RRRN4u5.out.below bb)
  clear RRRN4u5
  have RRP5u := Lib.hid (RRP5.out.below bb)
  clear RRP5
  have KQ6 := Lib.hid (KP5.out.below bb)
  have KS6 := Lib.hid (KR5.out.below bb)
  have BQ6 := Lib.hid (BB5.out.trans (bb.mono BB5.out.size))
  have ZQ6 := Lib.hid (Nat.le_trans ZZ5.out bb.size)
  clear rr bb DS KP5 KR5 BB5
  obtain ⟨v6, hv6⟩ : ∃ v6, u6.setCell ⟨wa.heap.size, 2, none⟩ (.slice boo BS.length boc) = v6 := ⟨_, rfl⟩
  have fr := KQ6.out.free 2
  have ce := KQ6.out.cell 2
  simp at ce
  have kp : BlockAt v6 wa.heap.size #[.slice no NS.length nc, .slice poo PS.length poc, .slice boo BS.length boc] 69 := by have h := KQ6.out.set 2 (.slice boo BS.length boc); rw [hv6] at h; simpa using h
  have kr := KS6.out.other (c := wa.heap.size) (by have := HZ.out; omega) 2 (.slice boo BS.length boc)
  rw [hv6] at kr
  have bw : Below w.heap.size w v6 := by rw [← hv6]; exact BQ6.out.setCell (by have := HZ.out; simp; omega) _
  have zz : wb.heap.size ≤ v6.heap.size := by rw [← hv6]; simpa using ZQ6.out
  have rRRRN4u5u6 := RRRN4u5u.out.set (c := wa.heap.size) (k := 2) (by have := HZ.out; have := Z2.out; omega) (.slice boo BS.length boc)
  rw [hv6] at rRRRN4u5u6
  have RRRRN4u5u6 := Lib.hid rRRRN4u5u6
  clear rRRRN4u5u6 RRRN4u5u
  have rRRP5u6 := RRP5u.out.set (c := wa.heap.size) (k := 2) (by have := HZ.out; have := ZZ4.out; omega) (.slice boo BS.length boc)
  rw [hv6] at rRRP5u6
  have RRRP5u6 := Lib.hid rRRP5u6
  clear rRRP5u6 RRP5u
  have rRB6 := RB.out.set (c := wa.heap.size) (k := 2) (by have := HZ.out; have := ZZ5.out; omega) (.slice boo BS.length boc)
  rw [hv6] at rRB6
  have RRB6 := Lib.hid rRB6
  clear rRB6 RB
  have KP6 := Lib.hid kp
  have KR6 := Lib.hid kr
  have BB6 := Lib.hid bw
  have ZZ6 := Lib.hid zz
  clear kp kr bw zz KQ6 KS6 BQ6
  obtain ⟨e0, e1, e2⟩ := cell3 KP6.out
  have CN := Lib.hid (containsN_any no nc NS v6 RRRRN4u5u6.out.row zN.out (by omega))
  have CN' := CN.out
  clear CN
  rw [t2] at CN'
  have CN := Lib.hid CN'
  clear CN' t2
  have CP' := containsP_any poo poc PS v6 RRRP5u6.out.row zP.out (by omega)
  rw [t3] at CP'
  have CP := Lib.hid CP'
  clear CP' t3
  have CB := Lib.hid (containsW3_any boo boc BS v6 RRB6.out.row zB.out (by omega))
  have f0 := KR6.out.free 0
  have f1 := KR6.out.free 1
  have f2 := KR6.out.free 2
  obtain ⟨g0, g1, g2⟩ := cell3 KR6.out
  go_wp2_with fail
  refine CN.out.mono ?_
  rintro e w' ⟨rfl, rfl⟩
  go_wp2_with fail
  refine CP.out.mono ?_
  rintro e w' ⟨rfl, rfl⟩
  go_wp2_with fail
  refine CB.out.mono ?_
  rintro e w' ⟨rfl, rfl⟩
  go_wp2_with fail
  refine bodyPost_ret (v := .tuple #[.agg #[.slice no NS.length nc, .slice poo PS.length poc, .slice boo BS.length boc], .bool (!BS.any badWord)]) (by simp [results, Tryz.results51, go_sem, g0, g1, g2, f0, f1, f2]) rfl ?_
  have hz := HZ.out
  refine ⟨no, nc, poo, poc, boo, boc, rfl, ((((RRRRN4u5u6.out.set (c := w.heap.size) (by have := Z2.out; omega) _).set (c := w.heap.size) (by have := Z2.out; omega) _).set (c := w.heap.size) (by have := Z2.out; omega) _).mono (by have := Z2.out; omega)), ((((RRRP5u6.out.set (c := w.heap.size) (by have := ZZ4.out; omega) _).set (c := w.heap.size) (by have := ZZ4.out; omega) _).set (c := w.heap.size) (by have := ZZ4.out; omega) _).mono (by have := ZZ4.out; omega)), ((((RRB6.out.set (c := w.heap.size) (by have := ZZ5.out; omega) _).set (c := w.heap.size) (by have := ZZ5.out; omega) _).set (c := w.heap.size) (by have := ZZ5.out; omega) _).mono (by have := ZZ5.out; omega)), ?_, CapN.out, CapP.out, CapB.out⟩
  exact ((BB6.out.setCell (by simp) _).setCell (by simp) _).setCell (by simp) _
set_option maxHeartbeats 16000000 in
set_option maxRecDepth 100000 in
theorem split_tf_len (s : ByteArray) (x b x2 p : List UInt8) (NS PS BS : List ByteArray) (w : World) (hs : s.size ≤ 1000) (hx : x.length ≤ 1000) (hb : b.length ≤ 1000) (hx2 : x2.length ≤ 1000) (hp : p.length ≤ 1000) (hm : MaxAt w) (hc1 : cutL 43 s.data.toList = (x, b, false)) (hc2 : cutL 45 x = (x2, p, true)) (hNS : dotsOf x2 = NS) (hPS : dotsOf p = PS) (hBS : BS = []) (t1 : ¬ NS.length = 3) :
    Calls Tryz.prog 51 #[.string s] w (SplitP w NS PS BS false) := by
  unfold SplitP
  have Hm := Lib.hid hm
  have lN := dots_len x2
  have lP := dots_len p
  have lB := dots_len b
  rw [hNS] at lN
  rw [hPS] at lP
  have zN := Lib.hid (show ∀ q ∈ NS, q.size ≤ 9223372036854775806 from fun q hq => by have := lN.2 q hq; omega)
  have mN : NS.length ≤ 1001 := by have := lN.1; omega
  clear lN
  have zP := Lib.hid (show ∀ q ∈ PS, q.size ≤ 9223372036854775806 from fun q hq => by have := lP.2 q hq; omega)
  have mP : PS.length ≤ 1001 := by have := lP.1; omega
  clear lP
  subst hBS
  clear lB
  obtain ⟨wa, ha⟩ : ∃ wa, w.alloc (.cells #[.slice none 0 0, .slice none 0 0, .slice none 0 0] 69) = wa := ⟨_, rfl⟩
  obtain ⟨wb, hb'⟩ : ∃ wb, wa.alloc (.cells #[.slice none 0 0, .slice none 0 0, .slice none 0 0] 69) = wb := ⟨_, rfl⟩
  obtain ⟨k1, q1, z1⟩ := box_new ha
  obtain ⟨k2, q2, z2⟩ := box_new hb'
  have BW := Lib.hid (q1.trans (q2.mono q1.size))
  have HZ := Lib.hid (And.intro z1 z2)
  have K1 := Lib.hid (k1.below q2)
  have K2 := Lib.hid k2
  have C1 := fun w' hw' => Lib.hid (cut_any s 43 w' hs hw')
  have C2 := fun w' hw' => Lib.hid (cut_any (mkS x) 45 w' hx hw')
  rw [hc1] at C1
  rw [mkS_data, hc2] at C2
  have S1 := fun w' hw' => Lib.hid (splitS_any (mkS x2) w' hx2 hw')
  rw [mkS_data, hNS] at S1
  have S2 := fun w' hw' => Lib.hid (splitS_any (mkS p) w' hp hw')
  rw [mkS_data, hPS] at S2
  simp only at C1 C2
  generalize mkS x = sx at *
  generalize mkS x2 = sx2 at *
  generalize mkS p = sp at *
  generalize mkS b = sb at *
  have D1 := C1 wb (Hm.out.below BW.out)
  have ht1 : ((NS.length : Int) == 3) = false := by rw [beq_eq_false_iff_ne]; omega
  clear hs hx hb hx2 hp hm hc1 hc2 hNS C1 k1 k2 q1 q2 z1 z2 t1 hPS
  go_enter Tryz.func51, Tryz.ntmps51
  go_wp2_with fail
  refine D1.out.mono ?_
  rintro e w1 ⟨rfl, b1⟩
  have B1 := Lib.hid (BW.out.trans (b1.mono BW.out.size))
  have K3 := Lib.hid (K1.out.below b1)
  have K4 := Lib.hid (K2.out.below b1)
  have D2 := C2 w1 (Hm.out.below B1.out)
  have Z1 := Lib.hid b1.size
  clear b1 ha hb' K1 K2 BW C2 D1
  go_wp2_with fail
  refine D2.out.mono ?_
  rintro e w2 ⟨rfl, b2⟩
  have B2 := Lib.hid (B1.out.trans (b2.mono B1.out.size))
  have K5 := Lib.hid (K3.out.below b2)
  have K6 := Lib.hid (K4.out.below b2)
  have D3 := S1 w2 (Hm.out.below B2.out)
  have Z2 := Lib.hid (Nat.le_trans Z1.out b2.size)
  clear b2 K3 K4 B1 S1 D2 Z1
  go_wp2_with fail
  refine D3.out.mono ?_
  rintro e w3 ⟨⟨no, nc, rfl, rn, cn⟩, b3⟩
  have CapN := Lib.hid cn
  clear cn
  have RN := Lib.hid rn
  have B3 := Lib.hid (B2.out.trans (b3.mono B2.out.size))
  have K7 := Lib.hid (K5.out.below b3)
  have K8 := Lib.hid (K6.out.below b3)
  have Z3 := Lib.hid (Nat.le_trans Z2.out b3.size)
  clear rn b3 K5 K6 B2 D3
  obtain ⟨v4, hv4⟩ : ∃ v4, w3.setCell ⟨wa.heap.size, 0, none⟩ (.slice no NS.length nc) = v4 := ⟨_, rfl⟩
  have fr := K8.out.free 0
  have ce := K8.out.cell 0
  simp at ce
  have kp : BlockAt v4 wa.heap.size #[.slice no NS.length nc, .slice none 0 0, .slice none 0 0] 69 := by have h := K8.out.set 0 (.slice no NS.length nc); rw [hv4] at h; simpa using h
  have kr := K7.out.other (c := wa.heap.size) (by have := HZ.out; omega) 0 (.slice no NS.length nc)
  rw [hv4] at kr
  have bw : Below w.heap.size w v4 := by rw [← hv4]; exact B3.out.setCell (by have := HZ.out; simp; omega) _
  have zz : wb.heap.size ≤ v4.heap.size := by rw [← hv4]; simpa using Z3.out
  have rRN4 := RN.out.set (c := wa.heap.size) (k := 0) (by have := HZ.out; have := Z2.out; omega) (.slice no NS.length nc)
  rw [hv4] at rRN4
  have RRN4 := Lib.hid rRN4
  clear rRN4 RN
  have KP4 := Lib.hid kp
  have KR4 := Lib.hid kr
  have BB4 := Lib.hid bw
  have ZZ4 := Lib.hid zz
  clear kp kr bw zz K8 K7 B3
  have DS := S2 v4 (Hm.out.below BB4.out)
  go_wp2_with fail
  clear fr ce hv4
  refine DS.out.mono ?_
  rintro e u5 ⟨⟨poo, poc, rfl, rr, cc⟩, bb⟩
  have CapP := Lib.hid cc
  clear cc
  have RP := Lib.hid rr
  have RRN4u := Lib.hid (RRN4.out.below bb)
  clear RRN4
  have KQ5 := Lib.hid (KP4.out.below bb)
  have KS5 := Lib.hid (KR4.out.below bb)
  have BQ5 := Lib.hid (BB4.out.trans (bb.mono BB4.out.size))
  have ZQ5 := Lib.hid (Nat.le_trans ZZ4.out bb.size)
  clear rr bb DS KP4 KR4 BB4
  obtain ⟨v5, hv5⟩ : ∃ v5, u5.setCell ⟨wa.heap.size, 1, none⟩ (.slice poo PS.length poc) = v5 := ⟨_, rfl⟩
  have fr := KQ5.out.free 1
  have ce := KQ5.out.cell 1
  simp at ce
  have kp : BlockAt v5 wa.heap.size #[.slice no NS.length nc, .slice poo PS.length poc, .slice none 0 0] 69 := by have h := KQ5.out.set 1 (.slice poo PS.length poc); rw [hv5] at h; simpa using h
  have kr := KS5.out.other (c := wa.heap.size) (by have := HZ.out; omega) 1 (.slice poo PS.length poc)
  rw [hv5] at kr
  have bw : Below w.heap.size w v5 := by rw [← hv5]; exact BQ5.out.setCell (by have := HZ.out; simp; omega) _
  have zz : wb.heap.size ≤ v5.heap.size := by rw [← hv5]; simpa using ZQ5.out
  have rRRN4u5 := RRN4u.out.set (c := wa.heap.size) (k := 1) (by have := HZ.out; have := Z2.out; omega) (.slice poo PS.length poc)
  rw [hv5] at rRRN4u5
  have RRRN4u5 := Lib.hid rRRN4u5
  clear rRRN4u5 RRN4u
  have rRP5 := RP.out.set (c := wa.heap.size) (k := 1) (by have := HZ.out; have := ZZ4.out; omega) (.slice poo PS.length poc)
  rw [hv5] at rRP5
  have RRP5 := Lib.hid rRP5
  clear rRP5 RP
  have KP5 := Lib.hid kp
  have KR5 := Lib.hid kr
  have BB5 := Lib.hid bw
  have ZZ5 := Lib.hid zz
  clear kp kr bw zz KQ5 KS5 BQ5
  obtain ⟨e0, e1, e2⟩ := cell3 KP5.out
  have CN := Lib.hid (containsN_any no nc NS v5 RRRN4u5.out.row zN.out (by omega))
  have f0 := KR5.out.free 0
  have f1 := KR5.out.free 1
  have f2 := KR5.out.free 2
  obtain ⟨g0, g1, g2⟩ := cell3 KR5.out
  go_wp2_with fail
  refine bodyPost_ret (v := .tuple #[.agg #[.slice no NS.length nc, .slice poo PS.length poc, .slice none 0 0], .bool false]) (by simp [results, Tryz.results51, go_sem, g0, g1, g2, f0, f1, f2]) rfl ?_
  have hz := HZ.out
  refine ⟨no, nc, poo, poc, none, 0, rfl, ((((RRRN4u5.out.set (c := w.heap.size) (by have := Z2.out; omega) _).set (c := w.heap.size) (by have := Z2.out; omega) _).set (c := w.heap.size) (by have := Z2.out; omega) _).mono (by have := Z2.out; omega)), ((((RRP5.out.set (c := w.heap.size) (by have := ZZ4.out; omega) _).set (c := w.heap.size) (by have := ZZ4.out; omega) _).set (c := w.heap.size) (by have := ZZ4.out; omega) _).mono (by have := ZZ4.out; omega)), .inl rfl, ?_, CapN.out, CapP.out, Nat.le_refl _⟩
  exact ((BB5.out.setCell (by simp) _).setCell (by simp) _).setCell (by simp) _
set_option maxHeartbeats 16000000 in
set_option maxRecDepth 100000 in
theorem split_tf_num (s : ByteArray) (x b x2 p : List UInt8) (NS PS BS : List ByteArray) (w : World) (hs : s.size ≤ 1000) (hx : x.length ≤ 1000) (hb : b.length ≤ 1000) (hx2 : x2.length ≤ 1000) (hp : p.length ≤ 1000) (hm : MaxAt w) (hc1 : cutL 43 s.data.toList = (x, b, false)) (hc2 : cutL 45 x = (x2, p, true)) (hNS : dotsOf x2 = NS) (hPS : dotsOf p = PS) (hBS : BS = []) (t1 : NS.length = 3) (t2 : NS.any badNum = true) :
    Calls Tryz.prog 51 #[.string s] w (SplitP w NS PS BS false) := by
  unfold SplitP
  have Hm := Lib.hid hm
  have lN := dots_len x2
  have lP := dots_len p
  have lB := dots_len b
  rw [hNS] at lN
  rw [hPS] at lP
  have zN := Lib.hid (show ∀ q ∈ NS, q.size ≤ 9223372036854775806 from fun q hq => by have := lN.2 q hq; omega)
  have mN : NS.length ≤ 1001 := by have := lN.1; omega
  clear lN
  have zP := Lib.hid (show ∀ q ∈ PS, q.size ≤ 9223372036854775806 from fun q hq => by have := lP.2 q hq; omega)
  have mP : PS.length ≤ 1001 := by have := lP.1; omega
  clear lP
  subst hBS
  clear lB
  obtain ⟨wa, ha⟩ : ∃ wa, w.alloc (.cells #[.slice none 0 0, .slice none 0 0, .slice none 0 0] 69) = wa := ⟨_, rfl⟩
  obtain ⟨wb, hb'⟩ : ∃ wb, wa.alloc (.cells #[.slice none 0 0, .slice none 0 0, .slice none 0 0] 69) = wb := ⟨_, rfl⟩
  obtain ⟨k1, q1, z1⟩ := box_new ha
  obtain ⟨k2, q2, z2⟩ := box_new hb'
  have BW := Lib.hid (q1.trans (q2.mono q1.size))
  have HZ := Lib.hid (And.intro z1 z2)
  have K1 := Lib.hid (k1.below q2)
  have K2 := Lib.hid k2
  have C1 := fun w' hw' => Lib.hid (cut_any s 43 w' hs hw')
  have C2 := fun w' hw' => Lib.hid (cut_any (mkS x) 45 w' hx hw')
  rw [hc1] at C1
  rw [mkS_data, hc2] at C2
  have S1 := fun w' hw' => Lib.hid (splitS_any (mkS x2) w' hx2 hw')
  rw [mkS_data, hNS] at S1
  have S2 := fun w' hw' => Lib.hid (splitS_any (mkS p) w' hp hw')
  rw [mkS_data, hPS] at S2
  simp only at C1 C2
  generalize mkS x = sx at *
  generalize mkS x2 = sx2 at *
  generalize mkS p = sp at *
  generalize mkS b = sb at *
  have D1 := C1 wb (Hm.out.below BW.out)
  have ht1 : ((NS.length : Int) == 3) = true := by rw [beq_iff_eq]; omega
  clear hs hx hb hx2 hp hm hc1 hc2 hNS C1 k1 k2 q1 q2 z1 z2 t1 hPS
  go_enter Tryz.func51, Tryz.ntmps51
  go_wp2_with fail
  refine D1.out.mono ?_
  rintro e w1 ⟨rfl, b1⟩
  have B1 := Lib.hid (BW.out.trans (b1.mono BW.out.size))
  have K3 := Lib.hid (K1.out.below b1)
  have K4 := Lib.hid (K2.out.below b1)
  have D2 := C2 w1 (Hm.out.below B1.out)
  have Z1 := Lib.hid b1.size
  clear b1 ha hb' K1 K2 BW C2 D1
  go_wp2_with fail
  refine D2.out.mono ?_
  rintro e w2 ⟨rfl, b2⟩
  have B2 := Lib.hid (B1.out.trans (b2.mono B1.out.size))
  have K5 := Lib.hid (K3.out.below b2)
  have K6 := Lib.hid (K4.out.below b2)
  have D3 := S1 w2 (Hm.out.below B2.out)
  have Z2 := Lib.hid (Nat.le_trans Z1.out b2.size)
  clear b2 K3 K4 B1 S1 D2 Z1
  go_wp2_with fail
  refine D3.out.mono ?_
  rintro e w3 ⟨⟨no, nc, rfl, rn, cn⟩, b3⟩
  have CapN := Lib.hid cn
  clear cn
  have RN := Lib.hid rn
  have B3 := Lib.hid (B2.out.trans (b3.mono B2.out.size))
  have K7 := Lib.hid (K5.out.below b3)
  have K8 := Lib.hid (K6.out.below b3)
  have Z3 := Lib.hid (Nat.le_trans Z2.out b3.size)
  clear rn b3 K5 K6 B2 D3
  obtain ⟨v4, hv4⟩ : ∃ v4, w3.setCell ⟨wa.heap.size, 0, none⟩ (.slice no NS.length nc) = v4 := ⟨_, rfl⟩
  have fr := K8.out.free 0
  have ce := K8.out.cell 0
  simp at ce
  have kp : BlockAt v4 wa.heap.size #[.slice no NS.length nc, .slice none 0 0, .slice none 0 0] 69 := by have h := K8.out.set 0 (.slice no NS.length nc); rw [hv4] at h; simpa using h
  have kr := K7.out.other (c := wa.heap.size) (by have := HZ.out; omega) 0 (.slice no NS.length nc)
  rw [hv4] at kr
  have bw : Below w.heap.size w v4 := by rw [← hv4]; exact B3.out.setCell (by have := HZ.out; simp; omega) _
  have zz : wb.heap.size ≤ v4.heap.size := by rw [← hv4]; simpa using Z3.out
  have rRN4 := RN.out.set (c := wa.heap.size) (k := 0) (by have := HZ.out; have := Z2.out; omega) (.slice no NS.length nc)
  rw [hv4] at rRN4
  have RRN4 := Lib.hid rRN4
  clear rRN4 RN
  have KP4 := Lib.hid kp
  have KR4 := Lib.hid kr
  have BB4 := Lib.hid bw
  have ZZ4 := Lib.hid zz
  clear kp kr bw zz K8 K7 B3
  have DS := S2 v4 (Hm.out.below BB4.out)
  go_wp2_with fail
  clear fr ce hv4
  refine DS.out.mono ?_
  rintro e u5 ⟨⟨poo, poc, rfl, rr, cc⟩, bb⟩
  have CapP := Lib.hid cc
  clear cc
  have RP := Lib.hid rr
  have RRN4u := Lib.hid (RRN4.out.below bb)
  clear RRN4
  have KQ5 := Lib.hid (KP4.out.below bb)
  have KS5 := Lib.hid (KR4.out.below bb)
  have BQ5 := Lib.hid (BB4.out.trans (bb.mono BB4.out.size))
  have ZQ5 := Lib.hid (Nat.le_trans ZZ4.out bb.size)
  clear rr bb DS KP4 KR4 BB4
  obtain ⟨v5, hv5⟩ : ∃ v5, u5.setCell ⟨wa.heap.size, 1, none⟩ (.slice poo PS.length poc) = v5 := ⟨_, rfl⟩
  have fr := KQ5.out.free 1
  have ce := KQ5.out.cell 1
  simp at ce
  have kp : BlockAt v5 wa.heap.size #[.slice no NS.length nc, .slice poo PS.length poc, .slice none 0 0] 69 := by have h := KQ5.out.set 1 (.slice poo PS.length poc); rw [hv5] at h; simpa using h
  have kr := KS5.out.other (c := wa.heap.size) (by have := HZ.out; omega) 1 (.slice poo PS.length poc)
  rw [hv5] at kr
  have bw : Below w.heap.size w v5 := by rw [← hv5]; exact BQ5.out.setCell (by have := HZ.out; simp; omega) _
  have zz : wb.heap.size ≤ v5.heap.size := by rw [← hv5]; simpa using ZQ5.out
  have rRRN4u5 := RRN4u.out.set (c := wa.heap.size) (k := 1) (by have := HZ.out; have := Z2.out; omega) (.slice poo PS.length poc)
  rw [hv5] at rRRN4u5
  have RRRN4u5 := Lib.hid rRRN4u5
  clear rRRN4u5 RRN4u
  have rRP5 := RP.out.set (c := wa.heap.size) (k := 1) (by have := HZ.out; have := ZZ4.out; omega) (.slice poo PS.length poc)
  rw [hv5] at rRP5
  have RRP5 := Lib.hid rRP5
  clear rRP5 RP
  have KP5 := Lib.hid kp
  have KR5 := Lib.hid kr
  have BB5 := Lib.hid bw
  have ZZ5 := Lib.hid zz
  clear kp kr bw zz KQ5 KS5 BQ5
  obtain ⟨e0, e1, e2⟩ := cell3 KP5.out
  have CN := Lib.hid (containsN_any no nc NS v5 RRRN4u5.out.row zN.out (by omega))
  have CN' := CN.out
  clear CN
  rw [t2] at CN'
  have CN := Lib.hid CN'
  clear CN' t2
  have f0 := KR5.out.free 0
  have f1 := KR5.out.free 1
  have f2 := KR5.out.free 2
  obtain ⟨g0, g1, g2⟩ := cell3 KR5.out
  go_wp2_with fail
  refine CN.out.mono ?_
  rintro e w' ⟨rfl, rfl⟩
  go_wp2_with fail
  refine bodyPost_ret (v := .tuple #[.agg #[.slice no NS.length nc, .slice poo PS.length poc, .slice none 0 0], .bool false]) (by simp [results, Tryz.results51, go_sem, g0, g1, g2, f0, f1, f2]) rfl ?_
  have hz := HZ.out
  refine ⟨no, nc, poo, poc, none, 0, rfl, ((((RRRN4u5.out.set (c := w.heap.size) (by have := Z2.out; omega) _).set (c := w.heap.size) (by have := Z2.out; omega) _).set (c := w.heap.size) (by have := Z2.out; omega) _).mono (by have := Z2.out; omega)), ((((RRP5.out.set (c := w.heap.size) (by have := ZZ4.out; omega) _).set (c := w.heap.size) (by have := ZZ4.out; omega) _).set (c := w.heap.size) (by have := ZZ4.out; omega) _).mono (by have := ZZ4.out; omega)), .inl rfl, ?_, CapN.out, CapP.out, Nat.le_refl _⟩
  exact ((BB5.out.setCell (by simp) _).setCell (by simp) _).setCell (by simp) _
set_option maxHeartbeats 16000000 in
set_option maxRecDepth 100000 in
theorem split_tf_pre (s : ByteArray) (x b x2 p : List UInt8) (NS PS BS : List ByteArray) (w : World) (hs : s.size ≤ 1000) (hx : x.length ≤ 1000) (hb : b.length ≤ 1000) (hx2 : x2.length ≤ 1000) (hp : p.length ≤ 1000) (hm : MaxAt w) (hc1 : cutL 43 s.data.toList = (x, b, false)) (hc2 : cutL 45 x = (x2, p, true)) (hNS : dotsOf x2 = NS) (hPS : dotsOf p = PS) (hBS : BS = []) (t1 : NS.length = 3) (t2 : NS.any badNum = false) (t3 : PS.any badPre = true) :
    Calls Tryz.prog 51 #[.string s] w (SplitP w NS PS BS false) := by
  unfold SplitP
  have Hm := Lib.hid hm
  have lN := dots_len x2
  have lP := dots_len p
  have lB := dots_len b
  rw [hNS] at lN
  rw [hPS] at lP
  have zN := Lib.hid (show ∀ q ∈ NS, q.size ≤ 9223372036854775806 from fun q hq => by have := lN.2 q hq; omega)
  have mN : NS.length ≤ 1001 := by have := lN.1; omega
  clear lN
  have zP := Lib.hid (show ∀ q ∈ PS, q.size ≤ 9223372036854775806 from fun q hq => by have := lP.2 q hq; omega)
  have mP : PS.length ≤ 1001 := by have := lP.1; omega
  clear lP
  subst hBS
  clear lB
  obtain ⟨wa, ha⟩ : ∃ wa, w.alloc (.cells #[.slice none 0 0, .slice none 0 0, .slice none 0 0] 69) = wa := ⟨_, rfl⟩
  obtain ⟨wb, hb'⟩ : ∃ wb, wa.alloc (.cells #[.slice none 0 0, .slice none 0 0, .slice none 0 0] 69) = wb := ⟨_, rfl⟩
  obtain ⟨k1, q1, z1⟩ := box_new ha
  obtain ⟨k2, q2, z2⟩ := box_new hb'
  have BW := Lib.hid (q1.trans (q2.mono q1.size))
  have HZ := Lib.hid (And.intro z1 z2)
  have K1 := Lib.hid (k1.below q2)
  have K2 := Lib.hid k2
  have C1 := fun w' hw' => Lib.hid (cut_any s 43 w' hs hw')
  have C2 := fun w' hw' => Lib.hid (cut_any (mkS x) 45 w' hx hw')
  rw [hc1] at C1
  rw [mkS_data, hc2] at C2
  have S1 := fun w' hw' => Lib.hid (splitS_any (mkS x2) w' hx2 hw')
  rw [mkS_data, hNS] at S1
  have S2 := fun w' hw' => Lib.hid (splitS_any (mkS p) w' hp hw')
  rw [mkS_data, hPS] at S2
  simp only at C1 C2
  generalize mkS x = sx at *
  generalize mkS x2 = sx2 at *
  generalize mkS p = sp at *
  generalize mkS b = sb at *
  have D1 := C1 wb (Hm.out.below BW.out)
  have ht1 : ((NS.length : Int) == 3) = true := by rw [beq_iff_eq]; omega
  clear hs hx hb hx2 hp hm hc1 hc2 hNS C1 k1 k2 q1 q2 z1 z2 t1 hPS
  go_enter Tryz.func51, Tryz.ntmps51
  go_wp2_with fail
  refine D1.out.mono ?_
  rintro e w1 ⟨rfl, b1⟩
  have B1 := Lib.hid (BW.out.trans (b1.mono BW.out.size))
  have K3 := Lib.hid (K1.out.below b1)
  have K4 := Lib.hid (K2.out.below b1)
  have D2 := C2 w1 (Hm.out.below B1.out)
  have Z1 := Lib.hid b1.size
  clear b1 ha hb' K1 K2 BW C2 D1
  go_wp2_with fail
  refine D2.out.mono ?_
  rintro e w2 ⟨rfl, b2⟩
  have B2 := Lib.hid (B1.out.trans (b2.mono B1.out.size))
  have K5 := Lib.hid (K3.out.below b2)
  have K6 := Lib.hid (K4.out.below b2)
  have D3 := S1 w2 (Hm.out.below B2.out)
  have Z2 := Lib.hid (Nat.le_trans Z1.out b2.size)
  clear b2 K3 K4 B1 S1 D2 Z1
  go_wp2_with fail
  refine D3.out.mono ?_
  rintro e w3 ⟨⟨no, nc, rfl, rn, cn⟩, b3⟩
  have CapN := Lib.hid cn
  clear cn
  have RN := Lib.hid rn
  have B3 := Lib.hid (B2.out.trans (b3.mono B2.out.size))
  have K7 := Lib.hid (K5.out.below b3)
  have K8 := Lib.hid (K6.out.below b3)
  have Z3 := Lib.hid (Nat.le_trans Z2.out b3.size)
  clear rn b3 K5 K6 B2 D3
  obtain ⟨v4, hv4⟩ : ∃ v4, w3.setCell ⟨wa.heap.size, 0, none⟩ (.slice no NS.length nc) = v4 := ⟨_, rfl⟩
  have fr := K8.out.free 0
  have ce := K8.out.cell 0
  simp at ce
  have kp : BlockAt v4 wa.heap.size #[.slice no NS.length nc, .slice none 0 0, .slice none 0 0] 69 := by have h := K8.out.set 0 (.slice no NS.length nc); rw [hv4] at h; simpa using h
  have kr := K7.out.other (c := wa.heap.size) (by have := HZ.out; omega) 0 (.slice no NS.length nc)
  rw [hv4] at kr
  have bw : Below w.heap.size w v4 := by rw [← hv4]; exact B3.out.setCell (by have := HZ.out; simp; omega) _
  have zz : wb.heap.size ≤ v4.heap.size := by rw [← hv4]; simpa using Z3.out
  have rRN4 := RN.out.set (c := wa.heap.size) (k := 0) (by have := HZ.out; have := Z2.out; omega) (.slice no NS.length nc)
  rw [hv4] at rRN4
  have RRN4 := Lib.hid rRN4
  clear rRN4 RN
  have KP4 := Lib.hid kp
  have KR4 := Lib.hid kr
  have BB4 := Lib.hid bw
  have ZZ4 := Lib.hid zz
  clear kp kr bw zz K8 K7 B3
  have DS := S2 v4 (Hm.out.below BB4.out)
  go_wp2_with fail
  clear fr ce hv4
  refine DS.out.mono ?_
  rintro e u5 ⟨⟨poo, poc, rfl, rr, cc⟩, bb⟩
  have CapP := Lib.hid cc
  clear cc
  have RP := Lib.hid rr
  have RRN4u := Lib.hid (RRN4.out.below bb)
  clear RRN4
  have KQ5 := Lib.hid (KP4.out.below bb)
  have KS5 := Lib.hid (KR4.out.below bb)
  have BQ5 := Lib.hid (BB4.out.trans (bb.mono BB4.out.size))
  have ZQ5 := Lib.hid (Nat.le_trans ZZ4.out bb.size)
  clear rr bb DS KP4 KR4 BB4
  obtain ⟨v5, hv5⟩ : ∃ v5, u5.setCell ⟨wa.heap.size, 1, none⟩ (.slice poo PS.length poc) = v5 := ⟨_, rfl⟩
  have fr := KQ5.out.free 1
  have ce := KQ5.out.cell 1
  simp at ce
  have kp : BlockAt v5 wa.heap.size #[.slice no NS.length nc, .slice poo PS.length poc, .slice none 0 0] 69 := by have h := KQ5.out.set 1 (.slice poo PS.length poc); rw [hv5] at h; simpa using h
  have kr := KS5.out.other (c := wa.heap.size) (by have := HZ.out; omega) 1 (.slice poo PS.length poc)
  rw [hv5] at kr
  have bw : Below w.heap.size w v5 := by rw [← hv5]; exact BQ5.out.setCell (by have := HZ.out; simp; omega) _
  have zz : wb.heap.size ≤ v5.heap.size := by rw [← hv5]; simpa using ZQ5.out
  have rRRN4u5 := RRN4u.out.set (c := wa.heap.size) (k := 1) (by have := HZ.out; have := Z2.out; omega) (.slice poo PS.length poc)
  rw [hv5] at rRRN4u5
  have RRRN4u5 := Lib.hid rRRN4u5
  clear rRRN4u5 RRN4u
  have rRP5 := RP.out.set (c := wa.heap.size) (k := 1) (by have := HZ.out; have := ZZ4.out; omega) (.slice poo PS.length poc)
  rw [hv5] at rRP5
  have RRP5 := Lib.hid rRP5
  clear rRP5 RP
  have KP5 := Lib.hid kp
  have KR5 := Lib.hid kr
  have BB5 := Lib.hid bw
  have ZZ5 := Lib.hid zz
  clear kp kr bw zz KQ5 KS5 BQ5
  obtain ⟨e0, e1, e2⟩ := cell3 KP5.out
  have CN := Lib.hid (containsN_any no nc NS v5 RRRN4u5.out.row zN.out (by omega))
  have CN' := CN.out
  clear CN
  rw [t2] at CN'
  have CN := Lib.hid CN'
  clear CN' t2
  have CP' := containsP_any poo poc PS v5 RRP5.out.row zP.out (by omega)
  rw [t3] at CP'
  have CP := Lib.hid CP'
  clear CP' t3
  have f0 := KR5.out.free 0
  have f1 := KR5.out.free 1
  have f2 := KR5.out.free 2
  obtain ⟨g0, g1, g2⟩ := cell3 KR5.out
  go_wp2_with fail
  refine CN.out.mono ?_
  rintro e w' ⟨rfl, rfl⟩
  go_wp2_with fail
  refine CP.out.mono ?_
  rintro e w' ⟨rfl, rfl⟩
  go_wp2_with fail
  refine bodyPost_ret (v := .tuple #[.agg #[.slice no NS.length nc, .slice poo PS.length poc, .slice none 0 0], .bool false]) (by simp [results, Tryz.results51, go_sem, g0, g1, g2, f0, f1, f2]) rfl ?_
  have hz := HZ.out
  refine ⟨no, nc, poo, poc, none, 0, rfl, ((((RRRN4u5.out.set (c := w.heap.size) (by have := Z2.out; omega) _).set (c := w.heap.size) (by have := Z2.out; omega) _).set (c := w.heap.size) (by have := Z2.out; omega) _).mono (by have := Z2.out; omega)), ((((RRP5.out.set (c := w.heap.size) (by have := ZZ4.out; omega) _).set (c := w.heap.size) (by have := ZZ4.out; omega) _).set (c := w.heap.size) (by have := ZZ4.out; omega) _).mono (by have := ZZ4.out; omega)), .inl rfl, ?_, CapN.out, CapP.out, Nat.le_refl _⟩
  exact ((BB5.out.setCell (by simp) _).setCell (by simp) _).setCell (by simp) _
set_option maxHeartbeats 16000000 in
set_option maxRecDepth 100000 in
theorem split_tf_all (s : ByteArray) (x b x2 p : List UInt8) (NS PS BS : List ByteArray) (w : World) (hs : s.size ≤ 1000) (hx : x.length ≤ 1000) (hb : b.length ≤ 1000) (hx2 : x2.length ≤ 1000) (hp : p.length ≤ 1000) (hm : MaxAt w) (hc1 : cutL 43 s.data.toList = (x, b, false)) (hc2 : cutL 45 x = (x2, p, true)) (hNS : dotsOf x2 = NS) (hPS : dotsOf p = PS) (hBS : BS = []) (t1 : NS.length = 3) (t2 : NS.any badNum = false) (t3 : PS.any badPre = false) :
    Calls Tryz.prog 51 #[.string s] w (SplitP w NS PS BS (!BS.any badWord)) := by
  unfold SplitP
  have Hm := Lib.hid hm
  have lN := dots_len x2
  have lP := dots_len p
  have lB := dots_len b
  rw [hNS] at lN
  rw [hPS] at lP
  have zN := Lib.hid (show ∀ q ∈ NS, q.size ≤ 9223372036854775806 from fun q hq => by have := lN.2 q hq; omega)
  have mN : NS.length ≤ 1001 := by have := lN.1; omega
  clear lN
  have zP := Lib.hid (show ∀ q ∈ PS, q.size ≤ 9223372036854775806 from fun q hq => by have := lP.2 q hq; omega)
  have mP : PS.length ≤ 1001 := by have := lP.1; omega
  clear lP
  subst hBS
  clear lB
  obtain ⟨wa, ha⟩ : ∃ wa, w.alloc (.cells #[.slice none 0 0, .slice none 0 0, .slice none 0 0] 69) = wa := ⟨_, rfl⟩
  obtain ⟨wb, hb'⟩ : ∃ wb, wa.alloc (.cells #[.slice none 0 0, .slice none 0 0, .slice none 0 0] 69) = wb := ⟨_, rfl⟩
  obtain ⟨k1, q1, z1⟩ := box_new ha
  obtain ⟨k2, q2, z2⟩ := box_new hb'
  have BW := Lib.hid (q1.trans (q2.mono q1.size))
  have HZ := Lib.hid (And.intro z1 z2)
  have K1 := Lib.hid (k1.below q2)
  have K2 := Lib.hid k2
  have C1 := fun w' hw' => Lib.hid (cut_any s 43 w' hs hw')
  have C2 := fun w' hw' => Lib.hid (cut_any (mkS x) 45 w' hx hw')
  rw [hc1] at C1
  rw [mkS_data, hc2] at C2
  have S1 := fun w' hw' => Lib.hid (splitS_any (mkS x2) w' hx2 hw')
  rw [mkS_data, hNS] at S1
  have S2 := fun w' hw' => Lib.hid (splitS_any (mkS p) w' hp hw')
  rw [mkS_data, hPS] at S2
  simp only at C1 C2
  generalize mkS x = sx at *
  generalize mkS x2 = sx2 at *
  generalize mkS p = sp at *
  generalize mkS b = sb at *
  have D1 := C1 wb (Hm.out.below BW.out)
  have ht1 : ((NS.length : Int) == 3) = true := by rw [beq_iff_eq]; omega
  clear hs hx hb hx2 hp hm hc1 hc2 hNS C1 k1 k2 q1 q2 z1 z2 t1 hPS
  go_enter Tryz.func51, Tryz.ntmps51
  go_wp2_with fail
  refine D1.out.mono ?_
  rintro e w1 ⟨rfl, b1⟩
  have B1 := Lib.hid (BW.out.trans (b1.mono BW.out.size))
  have K3 := Lib.hid (K1.out.below b1)
  have K4 := Lib.hid (K2.out.below b1)
  have D2 := C2 w1 (Hm.out.below B1.out)
  have Z1 := Lib.hid b1.size
  clear b1 ha hb' K1 K2 BW C2 D1
  go_wp2_with fail
  refine D2.out.mono ?_
  rintro e w2 ⟨rfl, b2⟩
  have B2 := Lib.hid (B1.out.trans (b2.mono B1.out.size))
  have K5 := Lib.hid (K3.out.below b2)
  have K6 := Lib.hid (K4.out.below b2)
  have D3 := S1 w2 (Hm.out.below B2.out)
  have Z2 := Lib.hid (Nat.le_trans Z1.out b2.size)
  clear b2 K3 K4 B1 S1 D2 Z1
  go_wp2_with fail
  refine D3.out.mono ?_
  rintro e w3 ⟨⟨no, nc, rfl, rn, cn⟩, b3⟩
  have CapN := Lib.hid cn
  clear cn
  have RN := Lib.hid rn
  have B3 := Lib.hid (B2.out.trans (b3.mono B2.out.size))
  have K7 := Lib.hid (K5.out.below b3)
  have K8 := Lib.hid (K6.out.below b3)
  have Z3 := Lib.hid (Nat.le_trans Z2.out b3.size)
  clear rn b3 K5 K6 B2 D3
  obtain ⟨v4, hv4⟩ : ∃ v4, w3.setCell ⟨wa.heap.size, 0, none⟩ (.slice no NS.length nc) = v4 := ⟨_, rfl⟩
  have fr := K8.out.free 0
  have ce := K8.out.cell 0
  simp at ce
  have kp : BlockAt v4 wa.heap.size #[.slice no NS.length nc, .slice none 0 0, .slice none 0 0] 69 := by have h := K8.out.set 0 (.slice no NS.length nc); rw [hv4] at h; simpa using h
  have kr := K7.out.other (c := wa.heap.size) (by have := HZ.out; omega) 0 (.slice no NS.length nc)
  rw [hv4] at kr
  have bw : Below w.heap.size w v4 := by rw [← hv4]; exact B3.out.setCell (by have := HZ.out; simp; omega) _
  have zz : wb.heap.size ≤ v4.heap.size := by rw [← hv4]; simpa using Z3.out
  have rRN4 := RN.out.set (c := wa.heap.size) (k := 0) (by have := HZ.out; have := Z2.out; omega) (.slice no NS.length nc)
  rw [hv4] at rRN4
  have RRN4 := Lib.hid rRN4
  clear rRN4 RN
  have KP4 := Lib.hid kp
  have KR4 := Lib.hid kr
  have BB4 := Lib.hid bw
  have ZZ4 := Lib.hid zz
  clear kp kr bw zz K8 K7 B3
  have DS := S2 v4 (Hm.out.below BB4.out)
  go_wp2_with fail
  clear fr ce hv4
  refine DS.out.mono ?_
  rintro e u5 ⟨⟨poo, poc, rfl, rr, cc⟩, bb⟩
  have CapP := Lib.hid cc
  clear cc
  have RP := Lib.hid rr
  have RRN4u := Lib.hid (RRN4.out.below bb)
  clear RRN4
  have KQ5 := Lib.hid (KP4.out.below bb)
  have KS5 := Lib.hid (KR4.out.below bb)
  have BQ5 := Lib.hid (BB4.out.trans (bb.mono BB4.out.size))
  have ZQ5 := Lib.hid (Nat.le_trans ZZ4.out bb.size)
  clear rr bb DS KP4 KR4 BB4
  obtain ⟨v5, hv5⟩ : ∃ v5, u5.setCell ⟨wa.heap.size, 1, none⟩ (.slice poo PS.length poc) = v5 := ⟨_, rfl⟩
  have fr := KQ5.out.free 1
  have ce := KQ5.out.cell 1
  simp at ce
  have kp : BlockAt v5 wa.heap.size #[.slice no NS.length nc, .slice poo PS.length poc, .slice none 0 0] 69 := by have h := KQ5.out.set 1 (.slice poo PS.length poc); rw [hv5] at h; simpa using h
  have kr := KS5.out.other (c := wa.heap.size) (by have := HZ.out; omega) 1 (.slice poo PS.length poc)
  rw [hv5] at kr
  have bw : Below w.heap.size w v5 := by rw [← hv5]; exact BQ5.out.setCell (by have := HZ.out; simp; omega) _
  have zz : wb.heap.size ≤ v5.heap.size := by rw [← hv5]; simpa using ZQ5.out
  have rRRN4u5 := RRN4u.out.set (c := wa.heap.size) (k := 1) (by have := HZ.out; have := Z2.out; omega) (.slice poo PS.length poc)
  rw [hv5] at rRRN4u5
  have RRRN4u5 := Lib.hid rRRN4u5
  clear rRRN4u5 RRN4u
  have rRP5 := RP.out.set (c := wa.heap.size) (k := 1) (by have := HZ.out; have := ZZ4.out; omega) (.slice poo PS.length poc)
  rw [hv5] at rRP5
  have RRP5 := Lib.hid rRP5
  clear rRP5 RP
  have KP5 := Lib.hid kp
  have KR5 := Lib.hid kr
  have BB5 := Lib.hid bw
  have ZZ5 := Lib.hid zz
  clear kp kr bw zz KQ5 KS5 BQ5
  obtain ⟨e0, e1, e2⟩ := cell3 KP5.out
  have CN := Lib.hid (containsN_any no nc NS v5 RRRN4u5.out.row zN.out (by omega))
  have CN' := CN.out
  clear CN
  rw [t2] at CN'
  have CN := Lib.hid CN'
  clear CN' t2
  have CP' := containsP_any poo poc PS v5 RRP5.out.row zP.out (by omega)
  rw [t3] at CP'
  have CP := Lib.hid CP'
  clear CP' t3
  have CB := Lib.hid (containsW3_any none 0 [] v5 (.inl rfl) (by simp) (by decide))
  have f0 := KR5.out.free 0
  have f1 := KR5.out.free 1
  have f2 := KR5.out.free 2
  obtain ⟨g0, g1, g2⟩ := cell3 KR5.out
  go_wp2_with fail
  refine CN.out.mono ?_
  rintro e w' ⟨rfl, rfl⟩
  go_wp2_with fail
  refine CP.out.mono ?_
  rintro e w' ⟨rfl, rfl⟩
  go_wp2_with fail
  refine CB.out.mono ?_
  rintro e w' ⟨rfl, rfl⟩
  go_wp2_with fail
  refine bodyPost_ret (v := .tuple #[.agg #[.slice no NS.length nc, .slice poo PS.length poc, .slice none 0 0], .bool true]) (by simp [results, Tryz.results51, go_sem, g0, g1, g2, f0, f1, f2]) rfl ?_
  have hz := HZ.out
  refine ⟨no, nc, poo, poc, none, 0, rfl, ((((RRRN4u5.out.set (c := w.heap.size) (by have := Z2.out; omega) _).set (c := w.heap.size) (by have := Z2.out; omega) _).set (c := w.heap.size) (by have := Z2.out; omega) _).mono (by have := Z2.out; omega)), ((((RRP5.out.set (c := w.heap.size) (by have := ZZ4.out; omega) _).set (c := w.heap.size) (by have := ZZ4.out; omega) _).set (c := w.heap.size) (by have := ZZ4.out; omega) _).mono (by have := ZZ4.out; omega)), .inl rfl, ?_, CapN.out, CapP.out, Nat.le_refl _⟩
  exact ((BB5.out.setCell (by simp) _).setCell (by simp) _).setCell (by simp) _
set_option maxHeartbeats 16000000 in
set_option maxRecDepth 100000 in
theorem split_ft_len (s : ByteArray) (x b x2 p : List UInt8) (NS PS BS : List ByteArray) (w : World) (hs : s.size ≤ 1000) (hx : x.length ≤ 1000) (hb : b.length ≤ 1000) (hx2 : x2.length ≤ 1000) (hp : p.length ≤ 1000) (hm : MaxAt w) (hc1 : cutL 43 s.data.toList = (x, b, true)) (hc2 : cutL 45 x = (x2, p, false)) (hNS : dotsOf x2 = NS) (hPS : PS = []) (hBS : dotsOf b = BS) (t1 : ¬ NS.length = 3) :
    Calls Tryz.prog 51 #[.string s] w (SplitP w NS PS BS false) := by
  unfold SplitP
  have Hm := Lib.hid hm
  have lN := dots_len x2
  have lP := dots_len p
  have lB := dots_len b
  rw [hNS] at lN
  rw [hBS] at lB
  have zN := Lib.hid (show ∀ q ∈ NS, q.size ≤ 9223372036854775806 from fun q hq => by have := lN.2 q hq; omega)
  have mN : NS.length ≤ 1001 := by have := lN.1; omega
  clear lN
  subst hPS
  clear lP
  have zB := Lib.hid (show ∀ q ∈ BS, q.size ≤ 9223372036854775806 from fun q hq => by have := lB.2 q hq; omega)
  have mB : BS.length ≤ 1001 := by have := lB.1; omega
  clear lB
  obtain ⟨wa, ha⟩ : ∃ wa, w.alloc (.cells #[.slice none 0 0, .slice none 0 0, .slice none 0 0] 69) = wa := ⟨_, rfl⟩
  obtain ⟨wb, hb'⟩ : ∃ wb, wa.alloc (.cells #[.slice none 0 0, .slice none 0 0, .slice none 0 0] 69) = wb := ⟨_, rfl⟩
  obtain ⟨k1, q1, z1⟩ := box_new ha
  obtain ⟨k2, q2, z2⟩ := box_new hb'
  have BW := Lib.hid (q1.trans (q2.mono q1.size))
  have HZ := Lib.hid (And.intro z1 z2)
  have K1 := Lib.hid (k1.below q2)
  have K2 := Lib.hid k2
  have C1 := fun w' hw' => Lib.hid (cut_any s 43 w' hs hw')
  have C2 := fun w' hw' => Lib.hid (cut_any (mkS x) 45 w' hx hw')
  rw [hc1] at C1
  rw [mkS_data, hc2] at C2
  have S1 := fun w' hw' => Lib.hid (splitS_any (mkS x2) w' hx2 hw')
  rw [mkS_data, hNS] at S1
  have S3 := fun w' hw' => Lib.hid (splitS_any (mkS b) w' hb hw')
  rw [mkS_data, hBS] at S3
  simp only at C1 C2
  generalize mkS x = sx at *
  generalize mkS x2 = sx2 at *
  generalize mkS p = sp at *
  generalize mkS b = sb at *
  have D1 := C1 wb (Hm.out.below BW.out)
  have ht1 : ((NS.length : Int) == 3) = false := by rw [beq_eq_false_iff_ne]; omega
  clear hs hx hb hx2 hp hm hc1 hc2 hNS C1 k1 k2 q1 q2 z1 z2 t1 hBS
  go_enter Tryz.func51, Tryz.ntmps51
  go_wp2_with fail
  refine D1.out.mono ?_
  rintro e w1 ⟨rfl, b1⟩
  have B1 := Lib.hid (BW.out.trans (b1.mono BW.out.size))
  have K3 := Lib.hid (K1.out.below b1)
  have K4 := Lib.hid (K2.out.below b1)
  have D2 := C2 w1 (Hm.out.below B1.out)
  have Z1 := Lib.hid b1.size
  clear b1 ha hb' K1 K2 BW C2 D1
  go_wp2_with fail
  refine D2.out.mono ?_
  rintro e w2 ⟨rfl, b2⟩
  have B2 := Lib.hid (B1.out.trans (b2.mono B1.out.size))
  have K5 := Lib.hid (K3.out.below b2)
  have K6 := Lib.hid (K4.out.below b2)
  have D3 := S1 w2 (Hm.out.below B2.out)
  have Z2 := Lib.hid (Nat.le_trans Z1.out b2.size)
  clear b2 K3 K4 B1 S1 D2 Z1
  go_wp2_with fail
  refine D3.out.mono ?_
  rintro e w3 ⟨⟨no, nc, rfl, rn, cn⟩, b3⟩
  have CapN := Lib.hid cn
  clear cn
  have RN := Lib.hid rn
  have B3 := Lib.hid (B2.out.trans (b3.mono B2.out.size))
  have K7 := Lib.hid (K5.out.below b3)
  have K8 := Lib.hid (K6.out.below b3)
  have Z3 := Lib.hid (Nat.le_trans Z2.out b3.size)
  clear rn b3 K5 K6 B2 D3
  obtain ⟨v4, hv4⟩ : ∃ v4, w3.setCell ⟨wa.heap.size, 0, none⟩ (.slice no NS.length nc) = v4 := ⟨_, rfl⟩
  have fr := K8.out.free 0
  have ce := K8.out.cell 0
  simp at ce
  have kp : BlockAt v4 wa.heap.size #[.slice no NS.length nc, .slice none 0 0, .slice none 0 0] 69 := by have h := K8.out.set 0 (.slice no NS.length nc); rw [hv4] at h; simpa using h
  have kr := K7.out.other (c := wa.heap.size) (by have := HZ.out; omega) 0 (.slice no NS.length nc)
  rw [hv4] at kr
  have bw : Below w.heap.size w v4 := by rw [← hv4]; exact B3.out.setCell (by have := HZ.out; simp; omega) _
  have zz : wb.heap.size ≤ v4.heap.size := by rw [← hv4]; simpa using Z3.out
  have rRN4 := RN.out.set (c := wa.heap.size) (k := 0) (by have := HZ.out; have := Z2.out; omega) (.slice no NS.length nc)
  rw [hv4] at rRN4
  have RRN4 := Lib.hid rRN4
  clear rRN4 RN
  have KP4 := Lib.hid kp
  have KR4 := Lib.hid kr
  have BB4 := Lib.hid bw
  have ZZ4 := Lib.hid zz
  clear kp kr bw zz K8 K7 B3
  have DS := S3 v4 (Hm.out.below BB4.out)
  go_wp2_with fail
  clear fr ce hv4
  refine DS.out.mono ?_
  rintro e u5 ⟨⟨boo, boc, rfl, rr, cc⟩, bb⟩
  have CapB := Lib.hid cc
  clear cc
  have RB := Lib.hid rr
  have RRN4u := Lib.hid (RRN4.out.below bb)
  clear RRN4
  have KQ5 := Lib.hid (KP4.out.below bb)
  have KS5 := Lib.hid (KR4.out.below bb)
  have BQ5 := Lib.hid (BB4.out.trans (bb.mono BB4.out.size))
  have ZQ5 := Lib.hid (Nat.le_trans ZZ4.out bb.size)
  clear rr bb DS KP4 KR4 BB4
  obtain ⟨v5, hv5⟩ : ∃ v5, u5.setCell ⟨wa.heap.size, 2, none⟩ (.slice boo BS.length boc) = v5 := ⟨_, rfl⟩
  have fr := KQ5.out.free 2
  have ce := KQ5.out.cell 2
  simp at ce
  have kp : BlockAt v5 wa.heap.size #[.slice no NS.length nc, .slice none 0 0, .slice boo BS.length boc] 69 := by have h := KQ5.out.set 2 (.slice boo BS.length boc); rw [hv5] at h; simpa using h
  have kr := KS5.out.other (c := wa.heap.size) (by have := HZ.out; omega) 2 (.slice boo BS.length boc)
  rw [hv5] at kr
  have bw : Below w.heap.size w v5 := by rw [← hv5]; exact BQ5.out.setCell (by have := HZ.out; simp; omega) _
  have zz : wb.heap.size ≤ v5.heap.size := by rw [← hv5]; simpa using ZQ5.out
  have rRRN4u5 := RRN4u.out.set (c := wa.heap.size) (k := 2) (by have := HZ.out; have := Z2.out; omega) (.slice boo BS.length boc)
  rw [hv5] at rRRN4u5
  have RRRN4u5 := Lib.hid rRRN4u5
  clear rRRN4u5 RRN4u
  have rRB5 := RB.out.set (c := wa.heap.size) (k := 2) (by have := HZ.out; have := ZZ4.out; omega) (.slice boo BS.length boc)
  rw [hv5] at rRB5
  have RRB5 := Lib.hid rRB5
  clear rRB5 RB
  have KP5 := Lib.hid kp
  have KR5 := Lib.hid kr
  have BB5 := Lib.hid bw
  have ZZ5 := Lib.hid zz
  clear kp kr bw zz KQ5 KS5 BQ5
  obtain ⟨e0, e1, e2⟩ := cell3 KP5.out
  have CN := Lib.hid (containsN_any no nc NS v5 RRRN4u5.out.row zN.out (by omega))
  have f0 := KR5.out.free 0
  have f1 := KR5.out.free 1
  have f2 := KR5.out.free 2
  obtain ⟨g0, g1, g2⟩ := cell3 KR5.out
  go_wp2_with fail
  refine bodyPost_ret (v := .tuple #[.agg #[.slice no NS.length nc, .slice none 0 0, .slice boo BS.length boc], .bool false]) (by simp [results, Tryz.results51, go_sem, g0, g1, g2, f0, f1, f2]) rfl ?_
  have hz := HZ.out
  refine ⟨no, nc, none, 0, boo, boc, rfl, ((((RRRN4u5.out.set (c := w.heap.size) (by have := Z2.out; omega) _).set (c := w.heap.size) (by have := Z2.out; omega) _).set (c := w.heap.size) (by have := Z2.out; omega) _).mono (by have := Z2.out; omega)), .inl rfl, ((((RRB5.out.set (c := w.heap.size) (by have := ZZ4.out; omega) _).set (c := w.heap.size) (by have := ZZ4.out; omega) _).set (c := w.heap.size) (by have := ZZ4.out; omega) _).mono (by have := ZZ4.out; omega)), ?_, CapN.out, Nat.le_refl _, CapB.out⟩
  exact ((BB5.out.setCell (by simp) _).setCell (by simp) _).setCell (by simp) _
set_option maxHeartbeats 16000000 in
set_option maxRecDepth 100000 in
theorem split_ft_num (s : ByteArray) (x b x2 p : List UInt8) (NS PS BS : List ByteArray) (w : World) (hs : s.size ≤ 1000) (hx : x.length ≤ 1000) (hb : b.length ≤ 1000) (hx2 : x2.length ≤ 1000) (hp : p.length ≤ 1000) (hm : MaxAt w) (hc1 : cutL 43 s.data.toList = (x, b, true)) (hc2 : cutL 45 x = (x2, p, false)) (hNS : dotsOf x2 = NS) (hPS : PS = []) (hBS : dotsOf b = BS) (t1 : NS.length = 3) (t2 : NS.any badNum = true) :
    Calls Tryz.prog 51 #[.string s] w (SplitP w NS PS BS false) := by
  unfold SplitP
  have Hm := Lib.hid hm
  have lN := dots_len x2
  have lP := dots_len p
  have lB := dots_len b
  rw [hNS] at lN
  rw [hBS] at lB
  have zN := Lib.hid (show ∀ q ∈ NS, q.size ≤ 9223372036854775806 from fun q hq => by have := lN.2 q hq; omega)
  have mN : NS.length ≤ 1001 := by have := lN.1; omega
  clear lN
  subst hPS
  clear lP
  have zB := Lib.hid (show ∀ q ∈ BS, q.size ≤ 9223372036854775806 from fun q hq => by have := lB.2 q hq; omega)
  have mB : BS.length ≤ 1001 := by have := lB.1; omega
  clear lB
  obtain ⟨wa, ha⟩ : ∃ wa, w.alloc (.cells #[.slice none 0 0, .slice none 0 0, .slice none 0 0] 69) = wa := ⟨_, rfl⟩
  obtain ⟨wb, hb'⟩ : ∃ wb, wa.alloc (.cells #[.slice none 0 0, .slice none 0 0, .slice none 0 0] 69) = wb := ⟨_, rfl⟩
  obtain ⟨k1, q1, z1⟩ := box_new ha
  obtain ⟨k2, q2, z2⟩ := box_new hb'
  have BW := Lib.hid (q1.trans (q2.mono q1.size))
  have HZ := Lib.hid (And.intro z1 z2)
  have K1 := Lib.hid (k1.below q2)
  have K2 := Lib.hid k2
  have C1 := fun w' hw' => Lib.hid (cut_any s 43 w' hs hw')
  have C2 := fun w' hw' => Lib.hid (cut_any (mkS x) 45 w' hx hw')
  rw [hc1] at C1
  rw [mkS_data, hc2] at C2
  have S1 := fun w' hw' => Lib.hid (splitS_any (mkS x2) w' hx2 hw')
  rw [mkS_data, hNS] at S1
  have S3 := fun w' hw' => Lib.hid (splitS_any (mkS b) w' hb hw')
  rw [mkS_data, hBS] at S3
  simp only at C1 C2
  generalize mkS x = sx at *
  generalize mkS x2 = sx2 at *
  generalize mkS p = sp at *
  generalize mkS b = sb at *
  have D1 := C1 wb (Hm.out.below BW.out)
  have ht1 : ((NS.length : Int) == 3) = true := by rw [beq_iff_eq]; omega
  clear hs hx hb hx2 hp hm hc1 hc2 hNS C1 k1 k2 q1 q2 z1 z2 t1 hBS
  go_enter Tryz.func51, Tryz.ntmps51
  go_wp2_with fail
  refine D1.out.mono ?_
  rintro e w1 ⟨rfl, b1⟩
  have B1 := Lib.hid (BW.out.trans (b1.mono BW.out.size))
  have K3 := Lib.hid (K1.out.below b1)
  have K4 := Lib.hid (K2.out.below b1)
  have D2 := C2 w1 (Hm.out.below B1.out)
  have Z1 := Lib.hid b1.size
  clear b1 ha hb' K1 K2 BW C2 D1
  go_wp2_with fail
  refine D2.out.mono ?_
  rintro e w2 ⟨rfl, b2⟩
  have B2 := Lib.hid (B1.out.trans (b2.mono B1.out.size))
  have K5 := Lib.hid (K3.out.below b2)
  have K6 := Lib.hid (K4.out.below b2)
  have D3 := S1 w2 (Hm.out.below B2.out)
  have Z2 := Lib.hid (Nat.le_trans Z1.out b2.size)
  clear b2 K3 K4 B1 S1 D2 Z1
  go_wp2_with fail
  refine D3.out.mono ?_
  rintro e w3 ⟨⟨no, nc, rfl, rn, cn⟩, b3⟩
  have CapN := Lib.hid cn
  clear cn
  have RN := Lib.hid rn
  have B3 := Lib.hid (B2.out.trans (b3.mono B2.out.size))
  have K7 := Lib.hid (K5.out.below b3)
  have K8 := Lib.hid (K6.out.below b3)
  have Z3 := Lib.hid (Nat.le_trans Z2.out b3.size)
  clear rn b3 K5 K6 B2 D3
  obtain ⟨v4, hv4⟩ : ∃ v4, w3.setCell ⟨wa.heap.size, 0, none⟩ (.slice no NS.length nc) = v4 := ⟨_, rfl⟩
  have fr := K8.out.free 0
  have ce := K8.out.cell 0
  simp at ce
  have kp : BlockAt v4 wa.heap.size #[.slice no NS.length nc, .slice none 0 0, .slice none 0 0] 69 := by have h := K8.out.set 0 (.slice no NS.length nc); rw [hv4] at h; simpa using h
  have kr := K7.out.other (c := wa.heap.size) (by have := HZ.out; omega) 0 (.slice no NS.length nc)
  rw [hv4] at kr
  have bw : Below w.heap.size w v4 := by rw [← hv4]; exact B3.out.setCell (by have := HZ.out; simp; omega) _
  have zz : wb.heap.size ≤ v4.heap.size := by rw [← hv4]; simpa using Z3.out
  have rRN4 := RN.out.set (c := wa.heap.size) (k := 0) (by have := HZ.out; have := Z2.out; omega) (.slice no NS.length nc)
  rw [hv4] at rRN4
  have RRN4 := Lib.hid rRN4
  clear rRN4 RN
  have KP4 := Lib.hid kp
  have KR4 := Lib.hid kr
  have BB4 := Lib.hid bw
  have ZZ4 := Lib.hid zz
  clear kp kr bw zz K8 K7 B3
  have DS := S3 v4 (Hm.out.below BB4.out)
  go_wp2_with fail
  clear fr ce hv4
  refine DS.out.mono ?_
  rintro e u5 ⟨⟨boo, boc, rfl, rr, cc⟩, bb⟩
  have CapB := Lib.hid cc
  clear cc
  have RB := Lib.hid rr
  have RRN4u := Lib.hid (RRN4.out.below bb)
  clear RRN4
  have KQ5 := Lib.hid (KP4.out.below bb)
  have KS5 := Lib.hid (KR4.out.below bb)
  have BQ5 := Lib.hid (BB4.out.trans (bb.mono BB4.out.size))
  have ZQ5 := Lib.hid (Nat.le_trans ZZ4.out bb.size)
  clear rr bb DS KP4 KR4 BB4
  obtain ⟨v5, hv5⟩ : ∃ v5, u5.setCell ⟨wa.heap.size, 2, none⟩ (.slice boo BS.length boc) = v5 := ⟨_, rfl⟩
  have fr := KQ5.out.free 2
  have ce := KQ5.out.cell 2
  simp at ce
  have kp : BlockAt v5 wa.heap.size #[.slice no NS.length nc, .slice none 0 0, .slice boo BS.length boc] 69 := by have h := KQ5.out.set 2 (.slice boo BS.length boc); rw [hv5] at h; simpa using h
  have kr := KS5.out.other (c := wa.heap.size) (by have := HZ.out; omega) 2 (.slice boo BS.length boc)
  rw [hv5] at kr
  have bw : Below w.heap.size w v5 := by rw [← hv5]; exact BQ5.out.setCell (by have := HZ.out; simp; omega) _
  have zz : wb.heap.size ≤ v5.heap.size := by rw [← hv5]; simpa using ZQ5.out
  have rRRN4u5 := RRN4u.out.set (c := wa.heap.size) (k := 2) (by have := HZ.out; have := Z2.out; omega) (.slice boo BS.length boc)
  rw [hv5] at rRRN4u5
  have RRRN4u5 := Lib.hid rRRN4u5
  clear rRRN4u5 RRN4u
  have rRB5 := RB.out.set (c := wa.heap.size) (k := 2) (by have := HZ.out; have := ZZ4.out; omega) (.slice boo BS.length boc)
  rw [hv5] at rRB5
  have RRB5 := Lib.hid rRB5
  clear rRB5 RB
  have KP5 := Lib.hid kp
  have KR5 := Lib.hid kr
  have BB5 := Lib.hid bw
  have ZZ5 := Lib.hid zz
  clear kp kr bw zz KQ5 KS5 BQ5
  obtain ⟨e0, e1, e2⟩ := cell3 KP5.out
  have CN := Lib.hid (containsN_any no nc NS v5 RRRN4u5.out.row zN.out (by omega))
  have CN' := CN.out
  clear CN
  rw [t2] at CN'
  have CN := Lib.hid CN'
  clear CN' t2
  have f0 := KR5.out.free 0
  have f1 := KR5.out.free 1
  have f2 := KR5.out.free 2
  obtain ⟨g0, g1, g2⟩ := cell3 KR5.out
  go_wp2_with fail
  refine CN.out.mono ?_
  rintro e w' ⟨rfl, rfl⟩
  go_wp2_with fail
  refine bodyPost_ret (v := .tuple #[.agg #[.slice no NS.length nc, .slice none 0 0, .slice boo BS.length boc], .bool false]) (by simp [results, Tryz.results51, go_sem, g0, g1, g2, f0, f1, f2]) rfl ?_
  have hz := HZ.out
  refine ⟨no, nc, none, 0, boo, boc, rfl, ((((RRRN4u5.out.set (c := w.heap.size) (by have := Z2.out; omega) _).set (c := w.heap.size) (by have := Z2.out; omega) _).set (c := w.heap.size) (by have := Z2.out; omega) _).mono (by have := Z2.out; omega)), .inl rfl, ((((RRB5.out.set (c := w.heap.size) (by have := ZZ4.out; omega) _).set (c := w.heap.size) (by have := ZZ4.out; omega) _).set (c := w.heap.size) (by have := ZZ4.out; omega) _).mono (by have := ZZ4.out; omega)), ?_, CapN.out, Nat.le_refl _, CapB.out⟩
  exact ((BB5.out.setCell (by simp) _).setCell (by simp) _).setCell (by simp) _
set_option maxHeartbeats 16000000 in
set_option maxRecDepth 100000 in
theorem split_ft_all (s : ByteArray) (x b x2 p : List UInt8) (NS PS BS : List ByteArray) (w : World) (hs : s.size ≤ 1000) (hx : x.length ≤ 1000) (hb : b.length ≤ 1000) (hx2 : x2.length ≤ 1000) (hp : p.length ≤ 1000) (hm : MaxAt w) (hc1 : cutL 43 s.data.toList = (x, b, true)) (hc2 : cutL 45 x = (x2, p, false)) (hNS : dotsOf x2 = NS) (hPS : PS = []) (hBS : dotsOf b = BS) (t1 : NS.length = 3) (t2 : NS.any badNum = false) (t3 : PS.any badPre = false) :
    Calls Tryz.prog 51 #[.string s] w (SplitP w NS PS BS (!BS.any badWord)) := by
  unfold SplitP
  have Hm := Lib.hid hm
  have lN := dots_len x2
  have lP := dots_len p
  have lB := dots_len b
  rw [hNS] at lN
  rw [hBS] at lB
  have zN := Lib.hid (show ∀ q ∈ NS, q.size ≤ 9223372036854775806 from fun q hq => by have := lN.2 q hq; omega)
  have mN : NS.length ≤ 1001 := by have := lN.1; omega
  clear lN
  subst hPS
  clear lP
  have zB := Lib.hid (show ∀ q ∈ BS, q.size ≤ 9223372036854775806 from fun q hq => by have := lB.2 q hq; omega)
  have mB : BS.length ≤ 1001 := by have := lB.1; omega
  clear lB
  obtain ⟨wa, ha⟩ : ∃ wa, w.alloc (.cells #[.slice none 0 0, .slice none 0 0, .slice none 0 0] 69) = wa := ⟨_, rfl⟩
  obtain ⟨wb, hb'⟩ : ∃ wb, wa.alloc (.cells #[.slice none 0 0, .slice none 0 0, .slice none 0 0] 69) = wb := ⟨_, rfl⟩
  obtain ⟨k1, q1, z1⟩ := box_new ha
  obtain ⟨k2, q2, z2⟩ := box_new hb'
  have BW := Lib.hid (q1.trans (q2.mono q1.size))
  have HZ := Lib.hid (And.intro z1 z2)
  have K1 := Lib.hid (k1.below q2)
  have K2 := Lib.hid k2
  have C1 := fun w' hw' => Lib.hid (cut_any s 43 w' hs hw')
  have C2 := fun w' hw' => Lib.hid (cut_any (mkS x) 45 w' hx hw')
  rw [hc1] at C1
  rw [mkS_data, hc2] at C2
  have S1 := fun w' hw' => Lib.hid (splitS_any (mkS x2) w' hx2 hw')
  rw [mkS_data, hNS] at S1
  have S3 := fun w' hw' => Lib.hid (splitS_any (mkS b) w' hb hw')
  rw [mkS_data, hBS] at S3
  simp only at C1 C2
  generalize mkS x = sx at *
  generalize mkS x2 = sx2 at *
  generalize mkS p = sp at *
  generalize mkS b = sb at *
  have D1 := C1 wb (Hm.out.below BW.out)
  have ht1 : ((NS.length : Int) == 3) = true := by rw [beq_iff_eq]; omega
  clear hs hx hb hx2 hp hm hc1 hc2 hNS C1 k1 k2 q1 q2 z1 z2 t1 hBS
  go_enter Tryz.func51, Tryz.ntmps51
  go_wp2_with fail
  refine D1.out.mono ?_
  rintro e w1 ⟨rfl, b1⟩
  have B1 := Lib.hid (BW.out.trans (b1.mono BW.out.size))
  have K3 := Lib.hid (K1.out.below b1)
  have K4 := Lib.hid (K2.out.below b1)
  have D2 := C2 w1 (Hm.out.below B1.out)
  have Z1 := Lib.hid b1.size
  clear b1 ha hb' K1 K2 BW C2 D1
  go_wp2_with fail
  refine D2.out.mono ?_
  rintro e w2 ⟨rfl, b2⟩
  have B2 := Lib.hid (B1.out.trans (b2.mono B1.out.size))
  have K5 := Lib.hid (K3.out.below b2)
  have K6 := Lib.hid (K4.out.below b2)
  have D3 := S1 w2 (Hm.out.below B2.out)
  have Z2 := Lib.hid (Nat.le_trans Z1.out b2.size)
  clear b2 K3 K4 B1 S1 D2 Z1
  go_wp2_with fail
  refine D3.out.mono ?_
  rintro e w3 ⟨⟨no, nc, rfl, rn, cn⟩, b3⟩
  have CapN := Lib.hid cn
  clear cn
  have RN := Lib.hid rn
  have B3 := Lib.hid (B2.out.trans (b3.mono B2.out.size))
  have K7 := Lib.hid (K5.out.below b3)
  have K8 := Lib.hid (K6.out.below b3)
  have Z3 := Lib.hid (Nat.le_trans Z2.out b3.size)
  clear rn b3 K5 K6 B2 D3
  obtain ⟨v4, hv4⟩ : ∃ v4, w3.setCell ⟨wa.heap.size, 0, none⟩ (.slice no NS.length nc) = v4 := ⟨_, rfl⟩
  have fr := K8.out.free 0
  have ce := K8.out.cell 0
  simp at ce
  have kp : BlockAt v4 wa.heap.size #[.slice no NS.length nc, .slice none 0 0, .slice none 0 0] 69 := by have h := K8.out.set 0 (.slice no NS.length nc); rw [hv4] at h; simpa using h
  have kr := K7.out.other (c := wa.heap.size) (by have := HZ.out; omega) 0 (.slice no NS.length nc)
  rw [hv4] at kr
  have bw : Below w.heap.size w v4 := by rw [← hv4]; exact B3.out.setCell (by have := HZ.out; simp; omega) _
  have zz : wb.heap.size ≤ v4.heap.size := by rw [← hv4]; simpa using Z3.out
  have rRN4 := RN.out.set (c := wa.heap.size) (k := 0) (by have := HZ.out; have := Z2.out; omega) (.slice no NS.length nc)
  rw [hv4] at rRN4
  have RRN4 := Lib.hid rRN4
  clear rRN4 RN
  have KP4 := Lib.hid kp
  have KR4 := Lib.hid kr
  have BB4 := Lib.hid bw
  have ZZ4 := Lib.hid zz
  clear kp kr bw zz K8 K7 B3
  have DS := S3 v4 (Hm.out.below BB4.out)
  go_wp2_with fail
  clear fr ce hv4
  refine DS.out.mono ?_
  rintro e u5 ⟨⟨boo, boc, rfl, rr, cc⟩, bb⟩
  have CapB := Lib.hid cc
  clear cc
  have RB := Lib.hid rr
  have RRN4u := Lib.hid (RRN4.out.below bb)
  clear RRN4
  have KQ5 := Lib.hid (KP4.out.below bb)
  have KS5 := Lib.hid (KR4.out.below bb)
  have BQ5 := Lib.hid (BB4.out.trans (bb.mono BB4.out.size))
  have ZQ5 := Lib.hid (Nat.le_trans ZZ4.out bb.size)
  clear rr bb DS KP4 KR4 BB4
  obtain ⟨v5, hv5⟩ : ∃ v5, u5.setCell ⟨wa.heap.size, 2, none⟩ (.slice boo BS.length boc) = v5 := ⟨_, rfl⟩
  have fr := KQ5.out.free 2
  have ce := KQ5.out.cell 2
  simp at ce
  have kp : BlockAt v5 wa.heap.size #[.slice no NS.length nc, .slice none 0 0, .slice boo BS.length boc] 69 := by have h := KQ5.out.set 2 (.slice boo BS.length boc); rw [hv5] at h; simpa using h
  have kr := KS5.out.other (c := wa.heap.size) (by have := HZ.out; omega) 2 (.slice boo BS.length boc)
  rw [hv5] at kr
  have bw : Below w.heap.size w v5 := by rw [← hv5]; exact BQ5.out.setCell (by have := HZ.out; simp; omega) _
  have zz : wb.heap.size ≤ v5.heap.size := by rw [← hv5]; simpa using ZQ5.out
  have rRRN4u5 := RRN4u.out.set (c := wa.heap.size) (k := 2) (by have := HZ.out; have := Z2.out; omega) (.slice boo BS.length boc)
  rw [hv5] at rRRN4u5
  have RRRN4u5 := Lib.hid rRRN4u5
  clear rRRN4u5 RRN4u
  have rRB5 := RB.out.set (c := wa.heap.size) (k := 2) (by have := HZ.out; have := ZZ4.out; omega) (.slice boo BS.length boc)
  rw [hv5] at rRB5
  have RRB5 := Lib.hid rRB5
  clear rRB5 RB
  have KP5 := Lib.hid kp
  have KR5 := Lib.hid kr
  have BB5 := Lib.hid bw
  have ZZ5 := Lib.hid zz
  clear kp kr bw zz KQ5 KS5 BQ5
  obtain ⟨e0, e1, e2⟩ := cell3 KP5.out
  have CN := Lib.hid (containsN_any no nc NS v5 RRRN4u5.out.row zN.out (by omega))
  have CN' := CN.out
  clear CN
  rw [t2] at CN'
  have CN := Lib.hid CN'
  clear CN' t2
  have CP' := containsP_any none 0 [] v5 (.inl rfl) (by simp) (by decide)
  rw [t3] at CP'
  have CP := Lib.hid CP'
  clear CP' t3
  have CB := Lib.hid (containsW3_any boo boc BS v5 RRB5.out.row zB.out (by omega))
  have f0 := KR5.out.free 0
  have f1 := KR5.out.free 1
  have f2 := KR5.out.free 2
  obtain ⟨g0, g1, g2⟩ := cell3 KR5.out
  go_wp2_with fail
  refine CN.out.mono ?_
  rintro e w' ⟨rfl, rfl⟩
  go_wp2_with fail
  refine CP.out.mono ?_
  rintro e w' ⟨rfl, rfl⟩
  go_wp2_with fail
  refine CB.out.mono ?_
  rintro e w' ⟨rfl, rfl⟩
  go_wp2_with fail
  refine bodyPost_ret (v := .tuple #[.agg #[.slice no NS.length nc, .slice none 0 0, .slice boo BS.length boc], .bool (!BS.any badWord)]) (by simp [results, Tryz.results51, go_sem, g0, g1, g2, f0, f1, f2]) rfl ?_
  have hz := HZ.out
  refine ⟨no, nc, none, 0, boo, boc, rfl, ((((RRRN4u5.out.set (c := w.heap.size) (by have := Z2.out; omega) _).set (c := w.heap.size) (by have := Z2.out; omega) _).set (c := w.heap.size) (by have := Z2.out; omega) _).mono (by have := Z2.out; omega)), .inl rfl, ((((RRB5.out.set (c := w.heap.size) (by have := ZZ4.out; omega) _).set (c := w.heap.size) (by have := ZZ4.out; omega) _).set (c := w.heap.size) (by have := ZZ4.out; omega) _).mono (by have := ZZ4.out; omega)), ?_, CapN.out, Nat.le_refl _, CapB.out⟩
  exact ((BB5.out.setCell (by simp) _).setCell (by simp) _).setCell (by simp) _
set_option maxHeartbeats 16000000 in
set_option maxRecDepth 100000 in
theorem split_ff_len (s : ByteArray) (x b x2 p : List UInt8) (NS PS BS : List ByteArray) (w : World) (hs : s.size ≤ 1000) (hx : x.length ≤ 1000) (hb : b.length ≤ 1000) (hx2 : x2.length ≤ 1000) (hp : p.length ≤ 1000) (hm : MaxAt w) (hc1 : cutL 43 s.data.toList = (x, b, false)) (hc2 : cutL 45 x = (x2, p, false)) (hNS : dotsOf x2 = NS) (hPS : PS = []) (hBS : BS = []) (t1 : ¬ NS.length = 3) :
    Calls Tryz.prog 51 #[.string s] w (SplitP w NS PS BS false) := by
  unfold SplitP
  have Hm := Lib.hid hm
  have lN := dots_len x2
  have lP := dots_len p
  have lB := dots_len b
  rw [hNS] at lN
  have zN := Lib.hid (show ∀ q ∈ NS, q.size ≤ 9223372036854775806 from fun q hq => by have := lN.2 q hq; omega)
  have mN : NS.length ≤ 1001 := by have := lN.1; omega
  clear lN
  subst hPS
  clear lP
  subst hBS
  clear lB
  obtain ⟨wa, ha⟩ : ∃ wa, w.alloc (.cells #[.slice none 0 0, .slice none 0 0, .slice none 0 0] 69) = wa := ⟨_, rfl⟩
  obtain ⟨wb, hb'⟩ : ∃ wb, wa.alloc (.cells #[.slice none 0 0, .slice none 0 0, .slice none 0 0] 69) = wb := ⟨_, rfl⟩
  obtain ⟨k1, q1, z1⟩ := box_new ha
  obtain ⟨k2, q2, z2⟩ := box_new hb'
  have BW := Lib.hid (q1.trans (q2.mono q1.size))
  have HZ := Lib.hid (And.intro z1 z2)
  have K1 := Lib.hid (k1.below q2)
  have K2 := Lib.hid k2
  have C1 := fun w' hw' => Lib.hid (cut_any s 43 w' hs hw')
  have C2 := fun w' hw' => Lib.hid (cut_any (mkS x) 45 w' hx hw')
  rw [hc1] at C1
  rw [mkS_data, hc2] at C2
  have S1 := fun w' hw' => Lib.hid (splitS_any (mkS x2) w' hx2 hw')
  rw [mkS_data, hNS] at S1
  simp only at C1 C2
  generalize mkS x = sx at *
  generalize mkS x2 = sx2 at *
  generalize mkS p = sp at *
  generalize mkS b = sb at *
  have D1 := C1 wb (Hm.out.below BW.out)
  have ht1 : ((NS.length : Int) == 3) = false := by rw [beq_eq_false_iff_ne]; omega
  clear hs hx hb hx2 hp hm hc1 hc2 hNS C1 k1 k2 q1 q2 z1 z2 t1
  go_enter Tryz.func51, Tryz.ntmps51
  go_wp2_with fail
  refine D1.out.mono ?_
  rintro e w1 ⟨rfl, b1⟩
  have B1 := Lib.hid (BW.out.trans (b1.mono BW.out.size))
  have K3 := Lib.hid (K1.out.below b1)
  have K4 := Lib.hid (K2.out.below b1)
  have D2 := C2 w1 (Hm.out.below B1.out)
  have Z1 := Lib.hid b1.size
  clear b1 ha hb' K1 K2 BW C2 D1
  go_wp2_with fail
  refine D2.out.mono ?_
  rintro e w2 ⟨rfl, b2⟩
  have B2 := Lib.hid (B1.out.trans (b2.mono B1.out.size))
  have K5 := Lib.hid (K3.out.below b2)
  have K6 := Lib.hid (K4.out.below b2)
  have D3 := S1 w2 (Hm.out.below B2.out)
  have Z2 := Lib.hid (Nat.le_trans Z1.out b2.size)
  clear b2 K3 K4 B1 S1 D2 Z1
  go_wp2_with fail
  refine D3.out.mono ?_
  rintro e w3 ⟨⟨no, nc, rfl, rn, cn⟩, b3⟩
  have CapN := Lib.hid cn
  clear cn
  have RN := Lib.hid rn
  have B3 := Lib.hid (B2.out.trans (b3.mono B2.out.size))
  have K7 := Lib.hid (K5.out.below b3)
  have K8 := Lib.hid (K6.out.below b3)
  have Z3 := Lib.hid (Nat.le_trans Z2.out b3.size)
  clear rn b3 K5 K6 B2 D3
  obtain ⟨v4, hv4⟩ : ∃ v4, w3.setCell ⟨wa.heap.size, 0, none⟩ (.slice no NS.length nc) = v4 := ⟨_, rfl⟩
  have fr := K8.out.free 0
  have ce := K8.out.cell 0
  simp at ce
  have kp : BlockAt v4 wa.heap.size #[.slice no NS.length nc, .slice none 0 0, .slice none 0 0] 69 := by have h := K8.out.set 0 (.slice no NS.length nc); rw [hv4] at h; simpa using h
  have kr := K7.out.other (c := wa.heap.size) (by have := HZ.out; omega) 0 (.slice no NS.length nc)
  rw [hv4] at kr
  have bw : Below w.heap.size w v4 := by rw [← hv4]; exact B3.out.setCell (by have := HZ.out; simp; omega) _
  have zz : wb.heap.size ≤ v4.heap.size := by rw [← hv4]; simpa using Z3.out
  have rRN4 := RN.out.set (c := wa.heap.size) (k := 0) (by have := HZ.out; have := Z2.out; omega) (.slice no NS.length nc)
  rw [hv4] at rRN4
  have RRN4 := Lib.hid rRN4
  clear rRN4 RN
  have KP4 := Lib.hid kp
  have KR4 := Lib.hid kr
  have BB4 := Lib.hid bw
  have ZZ4 := Lib.hid zz
  clear kp kr bw zz K8 K7 B3
  obtain ⟨e0, e1, e2⟩ := cell3 KP4.out
  have CN := Lib.hid (containsN_any no nc NS v4 RRN4.out.row zN.out (by omega))
  have f0 := KR4.out.free 0
  have f1 := KR4.out.free 1
  have f2 := KR4.out.free 2
  obtain ⟨g0, g1, g2⟩ := cell3 KR4.out
  go_wp2_with fail
  refine bodyPost_ret (v := .tuple #[.agg #[.slice no NS.length nc, .slice none 0 0, .slice none 0 0], .bool false]) (by simp [results, Tryz.results51, go_sem, g0, g1, g2, f0, f1, f2]) rfl ?_
  have hz := HZ.out
  refine ⟨no, nc, none, 0, none, 0, rfl, ((((RRN4.out.set (c := w.heap.size) (by have := Z2.out; omega) _).set (c := w.heap.size) (by have := Z2.out; omega) _).set (c := w.heap.size) (by have := Z2.out; omega) _).mono (by have := Z2.out; omega)), .inl rfl, .inl rfl, ?_, CapN.out, Nat.le_refl _, Nat.le_refl _⟩
  exact ((BB4.out.setCell (by simp) _).setCell (by simp) _).setCell (by simp) _
set_option maxHeartbeats 16000000 in
set_option maxRecDepth 100000 in
theorem split_ff_num (s : ByteArray) (x b x2 p : List UInt8) (NS PS BS : List ByteArray) (w : World) (hs : s.size ≤ 1000) (hx : x.length ≤ 1000) (hb : b.length ≤ 1000) (hx2 : x2.length ≤ 1000) (hp : p.length ≤ 1000) (hm : MaxAt w) (hc1 : cutL 43 s.data.toList = (x, b, false)) (hc2 : cutL 45 x = (x2, p, false)) (hNS : dotsOf x2 = NS) (hPS : PS = []) (hBS : BS = []) (t1 : NS.length = 3) (t2 : NS.any badNum = true) :
    Calls Tryz.prog 51 #[.string s] w (SplitP w NS PS BS false) := by
  unfold SplitP
  have Hm := Lib.hid hm
  have lN := dots_len x2
  have lP := dots_len p
  have lB := dots_len b
  rw [hNS] at lN
  have zN := Lib.hid (show ∀ q ∈ NS, q.size ≤ 9223372036854775806 from fun q hq => by have := lN.2 q hq; omega)
  have mN : NS.length ≤ 1001 := by have := lN.1; omega
  clear lN
  subst hPS
  clear lP
  subst hBS
  clear lB
  obtain ⟨wa, ha⟩ : ∃ wa, w.alloc (.cells #[.slice none 0 0, .slice none 0 0, .slice none 0 0] 69) = wa := ⟨_, rfl⟩
  obtain ⟨wb, hb'⟩ : ∃ wb, wa.alloc (.cells #[.slice none 0 0, .slice none 0 0, .slice none 0 0] 69) = wb := ⟨_, rfl⟩
  obtain ⟨k1, q1, z1⟩ := box_new ha
  obtain ⟨k2, q2, z2⟩ := box_new hb'
  have BW := Lib.hid (q1.trans (q2.mono q1.size))
  have HZ := Lib.hid (And.intro z1 z2)
  have K1 := Lib.hid (k1.below q2)
  have K2 := Lib.hid k2
  have C1 := fun w' hw' => Lib.hid (cut_any s 43 w' hs hw')
  have C2 := fun w' hw' => Lib.hid (cut_any (mkS x) 45 w' hx hw')
  rw [hc1] at C1
  rw [mkS_data, hc2] at C2
  have S1 := fun w' hw' => Lib.hid (splitS_any (mkS x2) w' hx2 hw')
  rw [mkS_data, hNS] at S1
  simp only at C1 C2
  generalize mkS x = sx at *
  generalize mkS x2 = sx2 at *
  generalize mkS p = sp at *
  generalize mkS b = sb at *
  have D1 := C1 wb (Hm.out.below BW.out)
  have ht1 : ((NS.length : Int) == 3) = true := by rw [beq_iff_eq]; omega
  clear hs hx hb hx2 hp hm hc1 hc2 hNS C1 k1 k2 q1 q2 z1 z2 t1
  go_enter Tryz.func51, Tryz.ntmps51
  go_wp2_with fail
  refine D1.out.mono ?_
  rintro e w1 ⟨rfl, b1⟩
  have B1 := Lib.hid (BW.out.trans (b1.mono BW.out.size))
  have K3 := Lib.hid (K1.out.below b1)
  have K4 := Lib.hid (K2.out.below b1)
  have D2 := C2 w1 (Hm.out.below B1.out)
  have Z1 := Lib.hid b1.size
  clear b1 ha hb' K1 K2 BW C2 D1
  go_wp2_with fail
  refine D2.out.mono ?_
  rintro e w2 ⟨rfl, b2⟩
  have B2 := Lib.hid (B1.out.trans (b2.mono B1.out.size))
  have K5 := Lib.hid (K3.out.below b2)
  have K6 := Lib.hid (K4.out.below b2)
  have D3 := S1 w2 (Hm.out.below B2.out)
  have Z2 := Lib.hid (Nat.le_trans Z1.out b2.size)
  clear b2 K3 K4 B1 S1 D2 Z1
  go_wp2_with fail
  refine D3.out.mono ?_
  rintro e w3 ⟨⟨no, nc, rfl, rn, cn⟩, b3⟩
  have CapN := Lib.hid cn
  clear cn
  have RN := Lib.hid rn
  have B3 := Lib.hid (B2.out.trans (b3.mono B2.out.size))
  have K7 := Lib.hid (K5.out.below b3)
  have K8 := Lib.hid (K6.out.below b3)
  have Z3 := Lib.hid (Nat.le_trans Z2.out b3.size)
  clear rn b3 K5 K6 B2 D3
  obtain ⟨v4, hv4⟩ : ∃ v4, w3.setCell ⟨wa.heap.size, 0, none⟩ (.slice no NS.length nc) = v4 := ⟨_, rfl⟩
  have fr := K8.out.free 0
  have ce := K8.out.cell 0
  simp at ce
  have kp : BlockAt v4 wa.heap.size #[.slice no NS.length nc, .slice none 0 0, .slice none 0 0] 69 := by have h := K8.out.set 0 (.slice no NS.length nc); rw [hv4] at h; simpa using h
  have kr := K7.out.other (c := wa.heap.size) (by have := HZ.out; omega) 0 (.slice no NS.length nc)
  rw [hv4] at kr
  have bw : Below w.heap.size w v4 := by rw [← hv4]; exact B3.out.setCell (by have := HZ.out; simp; omega) _
  have zz : wb.heap.size ≤ v4.heap.size := by rw [← hv4]; simpa using Z3.out
  have rRN4 := RN.out.set (c := wa.heap.size) (k := 0) (by have := HZ.out; have := Z2.out; omega) (.slice no NS.length nc)
  rw [hv4] at rRN4
  have RRN4 := Lib.hid rRN4
  clear rRN4 RN
  have KP4 := Lib.hid kp
  have KR4 := Lib.hid kr
  have BB4 := Lib.hid bw
  have ZZ4 := Lib.hid zz
  clear kp kr bw zz K8 K7 B3
  obtain ⟨e0, e1, e2⟩ := cell3 KP4.out
  have CN := Lib.hid (containsN_any no nc NS v4 RRN4.out.row zN.out (by omega))
  have CN' := CN.out
  clear CN
  rw [t2] at CN'
  have CN := Lib.hid CN'
  clear CN' t2
  have f0 := KR4.out.free 0
  have f1 := KR4.out.free 1
  have f2 := KR4.out.free 2
  obtain ⟨g0, g1, g2⟩ := cell3 KR4.out
  go_wp2_with fail
  refine CN.out.mono ?_
  rintro e w' ⟨rfl, rfl⟩
  go_wp2_with fail
  refine bodyPost_ret (v := .tuple #[.agg #[.slice no NS.length nc, .slice none 0 0, .slice none 0 0], .bool false]) (by simp [results, Tryz.results51, go_sem, g0, g1, g2, f0, f1, f2]) rfl ?_
  have hz := HZ.out
  refine ⟨no, nc, none, 0, none, 0, rfl, ((((RRN4.out.set (c := w.heap.size) (by have := Z2.out; omega) _).set (c := w.heap.size) (by have := Z2.out; omega) _).set (c := w.heap.size) (by have := Z2.out; omega) _).mono (by have := Z2.out; omega)), .inl rfl, .inl rfl, ?_, CapN.out, Nat.le_refl _, Nat.le_refl _⟩
  exact ((BB4.out.setCell (by simp) _).setCell (by simp) _).setCell (by simp) _
set_option maxHeartbeats 16000000 in
set_option maxRecDepth 100000 in
theorem split_ff_all (s : ByteArray) (x b x2 p : List UInt8) (NS PS BS : List ByteArray) (w : World) (hs : s.size ≤ 1000) (hx : x.length ≤ 1000) (hb : b.length ≤ 1000) (hx2 : x2.length ≤ 1000) (hp : p.length ≤ 1000) (hm : MaxAt w) (hc1 : cutL 43 s.data.toList = (x, b, false)) (hc2 : cutL 45 x = (x2, p, false)) (hNS : dotsOf x2 = NS) (hPS : PS = []) (hBS : BS = []) (t1 : NS.length = 3) (t2 : NS.any badNum = false) (t3 : PS.any badPre = false) :
    Calls Tryz.prog 51 #[.string s] w (SplitP w NS PS BS (!BS.any badWord)) := by
  unfold SplitP
  have Hm := Lib.hid hm
  have lN := dots_len x2
  have lP := dots_len p
  have lB := dots_len b
  rw [hNS] at lN
  have zN := Lib.hid (show ∀ q ∈ NS, q.size ≤ 9223372036854775806 from fun q hq => by have := lN.2 q hq; omega)
  have mN : NS.length ≤ 1001 := by have := lN.1; omega
  clear lN
  subst hPS
  clear lP
  subst hBS
  clear lB
  obtain ⟨wa, ha⟩ : ∃ wa, w.alloc (.cells #[.slice none 0 0, .slice none 0 0, .slice none 0 0] 69) = wa := ⟨_, rfl⟩
  obtain ⟨wb, hb'⟩ : ∃ wb, wa.alloc (.cells #[.slice none 0 0, .slice none 0 0, .slice none 0 0] 69) = wb := ⟨_, rfl⟩
  obtain ⟨k1, q1, z1⟩ := box_new ha
  obtain ⟨k2, q2, z2⟩ := box_new hb'
  have BW := Lib.hid (q1.trans (q2.mono q1.size))
  have HZ := Lib.hid (And.intro z1 z2)
  have K1 := Lib.hid (k1.below q2)
  have K2 := Lib.hid k2
  have C1 := fun w' hw' => Lib.hid (cut_any s 43 w' hs hw')
  have C2 := fun w' hw' => Lib.hid (cut_any (mkS x) 45 w' hx hw')
  rw [hc1] at C1
  rw [mkS_data, hc2] at C2
  have S1 := fun w' hw' => Lib.hid (splitS_any (mkS x2) w' hx2 hw')
  rw [mkS_data, hNS] at S1
  simp only at C1 C2
  generalize mkS x = sx at *
  generalize mkS x2 = sx2 at *
  generalize mkS p = sp at *
  generalize mkS b = sb at *
  have D1 := C1 wb (Hm.out.below BW.out)
  have ht1 : ((NS.length : Int) == 3) = true := by rw [beq_iff_eq]; omega
  clear hs hx hb hx2 hp hm hc1 hc2 hNS C1 k1 k2 q1 q2 z1 z2 t1
  go_enter Tryz.func51, Tryz.ntmps51
  go_wp2_with fail
  refine D1.out.mono ?_
  rintro e w1 ⟨rfl, b1⟩
  have B1 := Lib.hid (BW.out.trans (b1.mono BW.out.size))
  have K3 := Lib.hid (K1.out.below b1)
  have K4 := Lib.hid (K2.out.below b1)
  have D2 := C2 w1 (Hm.out.below B1.out)
  have Z1 := Lib.hid b1.size
  clear b1 ha hb' K1 K2 BW C2 D1
  go_wp2_with fail
  refine D2.out.mono ?_
  rintro e w2 ⟨rfl, b2⟩
  have B2 := Lib.hid (B1.out.trans (b2.mono B1.out.size))
  have K5 := Lib.hid (K3.out.below b2)
  have K6 := Lib.hid (K4.out.below b2)
  have D3 := S1 w2 (Hm.out.below B2.out)
  have Z2 := Lib.hid (Nat.le_trans Z1.out b2.size)
  clear b2 K3 K4 B1 S1 D2 Z1
  go_wp2_with fail
  refine D3.out.mono ?_
  rintro e w3 ⟨⟨no, nc, rfl, rn, cn⟩, b3⟩
  have CapN := Lib.hid cn
  clear cn
  have RN := Lib.hid rn
  have B3 := Lib.hid (B2.out.trans (b3.mono B2.out.size))
  have K7 := Lib.hid (K5.out.below b3)
  have K8 := Lib.hid (K6.out.below b3)
  have Z3 := Lib.hid (Nat.le_trans Z2.out b3.size)
  clear rn b3 K5 K6 B2 D3
  obtain ⟨v4, hv4⟩ : ∃ v4, w3.setCell ⟨wa.heap.size, 0, none⟩ (.slice no NS.length nc) = v4 := ⟨_, rfl⟩
  have fr := K8.out.free 0
  have ce := K8.out.cell 0
  simp at ce
  have kp : BlockAt v4 wa.heap.size #[.slice no NS.length nc, .slice none 0 0, .slice none 0 0] 69 := by have h := K8.out.set 0 (.slice no NS.length nc); rw [hv4] at h; simpa using h
  have kr := K7.out.other (c := wa.heap.size) (by have := HZ.out; omega) 0 (.slice no NS.length nc)
  rw [hv4] at kr
  have bw : Below w.heap.size w v4 := by rw [← hv4]; exact B3.out.setCell (by have := HZ.out; simp; omega) _
  have zz : wb.heap.size ≤ v4.heap.size := by rw [← hv4]; simpa using Z3.out
  have rRN4 := RN.out.set (c := wa.heap.size) (k := 0) (by have := HZ.out; have := Z2.out; omega) (.slice no NS.length nc)
  rw [hv4] at rRN4
  have RRN4 := Lib.hid rRN4
  clear rRN4 RN
  have KP4 := Lib.hid kp
  have KR4 := Lib.hid kr
  have BB4 := Lib.hid bw
  have ZZ4 := Lib.hid zz
  clear kp kr bw zz K8 K7 B3
  obtain ⟨e0, e1, e2⟩ := cell3 KP4.out
  have CN := Lib.hid (containsN_any no nc NS v4 RRN4.out.row zN.out (by omega))
  have CN' := CN.out
  clear CN
  rw [t2] at CN'
  have CN := Lib.hid CN'
  clear CN' t2
  have CP' := containsP_any none 0 [] v4 (.inl rfl) (by simp) (by decide)
  rw [t3] at CP'
  have CP := Lib.hid CP'
  clear CP' t3
  have CB := Lib.hid (containsW3_any none 0 [] v4 (.inl rfl) (by simp) (by decide))
  have f0 := KR4.out.free 0
  have f1 := KR4.out.free 1
  have f2 := KR4.out.free 2
  obtain ⟨g0, g1, g2⟩ := cell3 KR4.out
  go_wp2_with fail
  refine CN.out.mono ?_
  rintro e w' ⟨rfl, rfl⟩
  go_wp2_with fail
  refine CP.out.mono ?_
  rintro e w' ⟨rfl, rfl⟩
  go_wp2_with fail
  refine CB.out.mono ?_
  rintro e w' ⟨rfl, rfl⟩
  go_wp2_with fail
  refine bodyPost_ret (v := .tuple #[.agg #[.slice no NS.length nc, .slice none 0 0, .slice none 0 0], .bool true]) (by simp [results, Tryz.results51, go_sem, g0, g1, g2, f0, f1, f2]) rfl ?_
  have hz := HZ.out
  refine ⟨no, nc, none, 0, none, 0, rfl, ((((RRN4.out.set (c := w.heap.size) (by have := Z2.out; omega) _).set (c := w.heap.size) (by have := Z2.out; omega) _).set (c := w.heap.size) (by have := Z2.out; omega) _).mono (by have := Z2.out; omega)), .inl rfl, .inl rfl, ?_, CapN.out, Nat.le_refl _, Nat.le_refl _⟩
  exact ((BB4.out.setCell (by simp) _).setCell (by simp) _).setCell (by simp) _
theorem split_any (s : ByteArray) (w : World) (hs : s.size ≤ 1000) (hm : MaxAt w) :
    Calls Tryz.prog 51 #[.string s] w (SplitP w (numsOf s) (preOf s) (buildOf s) (okSplit s)) := by
  have c1 := cut_len 43 s.data.toList
  have c2 := cut_len 45 (cutL 43 s.data.toList).1
  have hs2 : s.data.toList.length = s.size := rfl
  have hcoreL : coreL s = (cutL 45 (cutL 43 s.data.toList).1).1 := rfl
  have hnum : dotsOf (cutL 45 (cutL 43 s.data.toList).1).1 = numsOf s := rfl
  have hpre : preOf s = if (cutL 45 (cutL 43 s.data.toList).1).2.2 = true then dotsOf (cutL 45 (cutL 43 s.data.toList).1).2.1 else [] := rfl
  have hbld : buildOf s = if (cutL 43 s.data.toList).2.2 = true then dotsOf (cutL 43 s.data.toList).2.1 else [] := rfl
  obtain ⟨x, b, fB, hc1⟩ : ∃ x b f, cutL 43 s.data.toList = (x, b, f) := ⟨_, _, _, rfl⟩
  rw [hc1] at c1 c2 hnum hpre hbld
  simp only at c1 c2 hnum hpre hbld
  obtain ⟨x2, p, fP, hc2⟩ : ∃ y c f, cutL 45 x = (y, c, f) := ⟨_, _, _, rfl⟩
  rw [hc2] at c2 hnum hpre
  simp only at c2 hnum hpre
  have hok : ∀ v, (decide ((numsOf s).length = 3) && !(numsOf s).any badNum && !(preOf s).any badPre && !(buildOf s).any badWord) = v → okSplit s = v := fun v h => h
  by_cases t1 : (numsOf s).length = 3
  · cases t2 : (numsOf s).any badNum
    · cases t3 : (preOf s).any badPre
      · rw [hok (!(buildOf s).any badWord) (by rw [t2, t3, decide_eq_true t1]; rfl)]
        cases fP <;> cases fB
        · exact split_ff_all s x b x2 p _ _ _ w hs (by omega) (by omega) (by omega) (by omega) hm hc1 hc2 hnum (by rw [hpre]; rfl) (by rw [hbld]; rfl) t1 t2 t3
        · exact split_ft_all s x b x2 p _ _ _ w hs (by omega) (by omega) (by omega) (by omega) hm hc1 hc2 hnum (by rw [hpre]; rfl) (by rw [hbld]; rfl) t1 t2 t3
        · exact split_tf_all s x b x2 p _ _ _ w hs (by omega) (by omega) (by omega) (by omega) hm hc1 hc2 hnum (by rw [hpre]; rfl) (by rw [hbld]; rfl) t1 t2 t3
        · exact split_tt_all s x b x2 p _ _ _ w hs (by omega) (by omega) (by omega) (by omega) hm hc1 hc2 hnum (by rw [hpre]; rfl) (by rw [hbld]; rfl) t1 t2 t3
      · rw [hok false (by rw [t3, Bool.not_true, Bool.and_false]; rfl)]
        cases fP <;> cases fB
        · rw [hpre] at t3; cases t3
        · rw [hpre] at t3; cases t3
        · exact split_tf_pre s x b x2 p _ _ _ w hs (by omega) (by omega) (by omega) (by omega) hm hc1 hc2 hnum (by rw [hpre]; rfl) (by rw [hbld]; rfl) t1 t2 t3
        · exact split_tt_pre s x b x2 p _ _ _ w hs (by omega) (by omega) (by omega) (by omega) hm hc1 hc2 hnum (by rw [hpre]; rfl) (by rw [hbld]; rfl) t1 t2 t3
    · rw [hok false (by rw [t2, Bool.not_true, Bool.and_false]; rfl)]
      cases fP <;> cases fB
      · exact split_ff_num s x b x2 p _ _ _ w hs (by omega) (by omega) (by omega) (by omega) hm hc1 hc2 hnum (by rw [hpre]; rfl) (by rw [hbld]; rfl) t1 t2
      · exact split_ft_num s x b x2 p _ _ _ w hs (by omega) (by omega) (by omega) (by omega) hm hc1 hc2 hnum (by rw [hpre]; rfl) (by rw [hbld]; rfl) t1 t2
      · exact split_tf_num s x b x2 p _ _ _ w hs (by omega) (by omega) (by omega) (by omega) hm hc1 hc2 hnum (by rw [hpre]; rfl) (by rw [hbld]; rfl) t1 t2
      · exact split_tt_num s x b x2 p _ _ _ w hs (by omega) (by omega) (by omega) (by omega) hm hc1 hc2 hnum (by rw [hpre]; rfl) (by rw [hbld]; rfl) t1 t2
  · rw [hok false (by rw [decide_eq_false t1]; rfl)]
    cases fP <;> cases fB
    · exact split_ff_len s x b x2 p _ _ _ w hs (by omega) (by omega) (by omega) (by omega) hm hc1 hc2 hnum (by rw [hpre]; rfl) (by rw [hbld]; rfl) t1
    · exact split_ft_len s x b x2 p _ _ _ w hs (by omega) (by omega) (by omega) (by omega) hm hc1 hc2 hnum (by rw [hpre]; rfl) (by rw [hbld]; rfl) t1
    · exact split_tf_len s x b x2 p _ _ _ w hs (by omega) (by omega) (by omega) (by omega) hm hc1 hc2 hnum (by rw [hpre]; rfl) (by rw [hbld]; rfl) t1
    · exact split_tt_len s x b x2 p _ _ _ w hs (by omega) (by omega) (by omega) (by omega) hm hc1 hc2 hnum (by rw [hpre]; rfl) (by rw [hbld]; rfl) t1
end Go.Proofs.YtbdhmelebedpiaaGreatDoor
