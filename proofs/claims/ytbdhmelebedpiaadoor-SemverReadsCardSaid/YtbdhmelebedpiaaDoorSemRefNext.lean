/- The reference's Next. -/
import Derived.Test.YtbdhmelebedpiaaDoorSemSuits
namespace Go.Proofs.YtbdhmelebedpiaaDoor
open Go.RowKit
set_option linter.unusedSimpArgs false
set_option linter.unusedVariables false

theorem info_ver : (Tryd.prog.info? 24).map (fun i => (i.zero, i.size, i.bytes)) = some (some (.agg #[.int .i64 0, .int .i64 0, .int .i64 0, .slice none 0 0, .slice none 0 0]), 5, 72) := by kernel_rfl
def relC (a b c : Int) : List Value := [.int .i64 a, .int .i64 b, .int .i64 c, .slice none 0 0, .slice none 0 0]
/-- A row of the call's own of one release. -/
theorem own_one {w w1 : World} {a b c : Int} (h : w.alloc (.cells #[.int .i64 a, .int .i64 b, .int .i64 c, .slice none 0 0, .slice none 0 0] 24) = w1) :
    w1.ownsRow w.heap.size 24 5 (.slice (some ⟨w.heap.size, 0, none⟩) 1 1) 1 (relC a b c) := by
  subst h
  refine ⟨rfl, .inr ⟨w.heap.size, 1, #[.int .i64 a, .int .i64 b, .int .i64 c, .slice none 0 0, .slice none 0 0], rfl, Nat.le_refl _, BlockAt.new _ _ _, Nat.le_refl _, by decide, rfl, rfl⟩⟩
/-- Its cells behind another one was put in. -/
theorem own_cells {w : World} {base n : Nat} {v : Value} {xs : List Value} (h : w.ownsRow base 24 5 v n xs) (hn : 0 < n) :
    ∃ g cap, v = .slice (some ⟨g, 0, none⟩) n cap ∧ base ≤ g ∧ g < w.heap.size ∧ ∀ j (hj : j < xs.length), w.cell? ⟨g, j, none⟩ = some xs[j] := by
  obtain ⟨h1, h2⟩ := h
  rcases h2 with ⟨rfl, h0⟩ | ⟨g, cap, cur, rfl, hg, hcur, hcap1, hcap2, hcs, htk⟩
  · omega
  · refine ⟨g, cap, rfl, hg, (Array.getElem?_eq_some_iff.1 hcur).1, fun j hj => ?_⟩
    simp only [World.cell?, hcur, Option.isSome_none, Bool.false_eq_true, if_false]
    have e : cur[j]? = (cur.toList.take (n * 5))[j]? := by
      rw [List.getElem?_take_of_lt (by omega)]
      simp
    rw [e, htk, List.getElem?_eq_getElem hj]
theorem own_pushV {w0 wr w2 : World} {v : Value} {n : Nat} {xs : List Value} {cs : Array Value} (hown : wr.ownsRow w0.heap.size 24 5 v n xs) (hbl : Below w0.heap.size w0 wr)
    (hg : (wr.alloc (.cells cs 24)).grownBy w2 v.ownBlock) : Below w0.heap.size w0 w2 :=
  (hbl.alloc hbl.size _).grown hg (by have := hbl.size; simp; omega) (fun k hk => (hown.lt k hk).1)
theorem cell_newV (w : World) (a b c : Int) (t : TypeId) : ∀ (j : Nat) (u : Value), (relC a b c)[j]? = some u → (w.alloc (.cells #[.int .i64 a, .int .i64 b, .int .i64 c, .slice none 0 0, .slice none 0 0] t)).cell? ((⟨w.heap.size, 0, none⟩ : Addr).add j) = some u := by
  intro j u hu
  have hadd : (⟨w.heap.size, 0, none⟩ : Addr).add j = ⟨w.heap.size, j, none⟩ := by unfold Addr.add; split <;> simp_all
  rw [hadd, World.cell?_alloc_at _ _ _ _ rfl]
  unfold relC at hu
  simpa using hu
theorem relC_one (a b c : Int) : ∀ u ∈ relC a b c, u.oneCell' = true := by
  intro u hu
  unfold relC at hu
  simp at hu
  rcases hu with rfl | rfl | rfl | rfl <;> rfl
theorem cell6 {w : World} {b : Nat} {a0 a1 a2 a3 a4 a5 : Value} {T : TypeId} (h : BlockAt w b #[a0, a1, a2, a3, a4, a5] T) :
    w.cell? ⟨b, 0, none⟩ = some a0 ∧ w.cell? ⟨b, 1, none⟩ = some a1 ∧ w.cell? ⟨b, 2, none⟩ = some a2 ∧ w.cell? ⟨b, 3, none⟩ = some a3 ∧ w.cell? ⟨b, 4, none⟩ = some a4 ∧ w.cell? ⟨b, 5, none⟩ = some a5 :=
  ⟨h.cell 0, h.cell 1, h.cell 2, h.cell 3, h.cell 4, h.cell 5⟩
/-- What the reference's Next gives. -/
def refRes (o : Option Vr) : Value := match o with
  | some n => .agg #[.int .i64 n.ma, .int .i64 n.mi, .int .i64 n.pa, .slice none 0 0, .slice none 0 0, .int .i64 0]
  | none => .agg #[.int .i64 0, .int .i64 0, .int .i64 0, .slice none 0 0, .slice none 0 0, .int .i64 2]
set_option maxHeartbeats 16000000 in
set_option maxRecDepth 100000 in
theorem refnext_0rt (V : Vr) (po bo : Option Addr) (pc bc : Nat) (w : World) (hV : VerC w po bo V) (hr : rightB V = true) (hm : V.pa ≠ bigM) (hS0 : ∀ w', Below w.heap.size w w' → Calls Tryd.prog 34 #[verV ⟨V.ma, V.mi, V.pa, [], []⟩ none 0 none 0, verV V po pc bo bc, .int .i64 0] w' fun e w2 => e = .returned (.bool true) ∧ Below w'.heap.size w' w2)  :
    Calls Tryd.prog 15 #[verV V po pc bo bc, .int .i64 0] w fun e w' => e = .returned (refRes (some ⟨V.ma, V.mi, V.pa, [], []⟩)) ∧ Below w.heap.size w w' := by
  have hN := hV.nums
  obtain ⟨i0, hi, hz0, hz1, hz2⟩ := info_parts info_ver
  have hm0 : V.pa ≠ 9223372036854775807 := hm
  have hm1 : V.pa < 9223372036854775807 := by omega
  have hm2 : decide (V.pa < 9223372036854775807) = true := decide_eq_true hm1
  clear hm hm0
  have S0 := Lib.hid hS0
  obtain ⟨wa, ha⟩ : ∃ wa, w.alloc (.cells #[.int .i64 V.ma, .int .i64 V.mi, .int .i64 V.pa, .slice po V.pre.length pc, .slice bo V.build.length bc] 24) = wa := ⟨_, rfl⟩
  obtain ⟨wb, hb⟩ : ∃ wb, wa.alloc (.cells #[.int .i64 0, .int .i64 0, .int .i64 0, .slice none 0 0, .slice none 0 0, .int .i64 0] 29) = wb := ⟨_, rfl⟩
  obtain ⟨w2, hw2⟩ : ∃ w2, wb.alloc (.cells #[.int .i64 V.ma, .int .i64 V.mi, .int .i64 V.pa, .slice none 0 0, .slice none 0 0] 24) = w2 := ⟨_, rfl⟩
  obtain ⟨k1', q1, z1⟩ := box_new ha
  obtain ⟨k2', q2, z2⟩ := box_new hb
  obtain ⟨k3', q3, z3⟩ := box_new hw2
  have BW := Lib.hid (q1.trans (q2.mono q1.size))
  have HZ := Lib.hid (And.intro z1 z2)
  have K1 := Lib.hid (k1'.below q2)
  have K2 := Lib.hid k2'
  have own := Lib.hid (own_one hw2)
  have Q3 := Lib.hid q3
  have BB2 := Lib.hid (BW.out.trans (q3.mono BW.out.size))
  have T1 := Lib.hid (K1.out.below q3)
  have T2 := Lib.hid (K2.out.below q3)
  have o0 := k3'.cell 0
  have o1 := k3'.cell 1
  have o2 := k3'.cell 2
  have o3 := k3'.cell 3
  have o4 := k3'.cell 4
  simp at o0 o1 o2 o3 o4
  obtain ⟨x0, x1, x2, x3, x4⟩ := cell5 K1.out
  obtain ⟨y0, y1, y2, y3, y4⟩ := cell5 T1.out
  have hlt := T1.out.lt
  unfold verV at *
  simp only [List.length_nil] at *
  clear hS0 hV hr k1' k2' k3' q1 q2 q3 z1 z2 z3
  go_enter Tryd.func15, Tryd.ntmps15
  go_wp2_with (at_builtin; refine wpList_append_own_at _ rfl _ _ 61 rfl wb.heap.size 24 i0 (.agg #[.int .i64 0, .int .i64 0, .int .i64 0, .slice none 0 0, .slice none 0 0]) 5 72 Tryd.underlying61 hi hz0 hz1 hz2 rfl (by decide) _ 1 (relC V.ma V.mi V.pa) rfl (own.out.alloc _) ⟨w2.heap.size, 0, none⟩ 1 1 (relC (V.ma) (V.mi) (V.pa + 1)) rfl ?c1 ?c2 ?c3 ?c4 ?c5 ?c6 ?_)
  try (case c1 => rfl)
  try (case c2 => first | exact cell_newV _ _ _ _ _ | (intro j u hu; unfold relC at hu; simpa using hu))
  try (case c3 => exact relC_one _ _ _)
  try (case c4 => unfold maxLen; omega)
  try (case c5 => omega)
  try (case c6 => have := Q3.out.size; simp; omega)
  intro v' w3 hown3 hgrow _ hblk
  have b3 : Below wb.heap.size wb w3 := own_pushV own.out Q3.out hgrow
  obtain ⟨g, cap, rfl, hg1, hg2, hgc⟩ := own_cells hown3 (by decide)
  have B3 := Lib.hid (BW.out.trans (b3.mono BW.out.size))
  have T3 := Lib.hid (K1.out.below b3)
  have T4 := Lib.hid (K2.out.below b3)
  have e0 := hgc 0 (by simp [relC])
  have e1 := hgc 1 (by simp [relC])
  have e2 := hgc 2 (by simp [relC])
  have e3 := hgc 3 (by simp [relC])
  have e4 := hgc 4 (by simp [relC])
  have e5 := hgc 5 (by simp [relC])
  have e6 := hgc 6 (by simp [relC])
  have e7 := hgc 7 (by simp [relC])
  have e8 := hgc 8 (by simp [relC])
  have e9 := hgc 9 (by simp [relC])
  simp only [relC, List.cons_append, List.nil_append, List.getElem_cons_zero, List.getElem_cons_succ] at e0 e1 e2 e3 e4 e5 e6 e7 e8 e9
  clear hown3 hgrow hblk b3 hgc o0 o1 o2 o3 o4 x0 x1 x2 x3 x4 y0 y1 y2 y3 y4 hlt T1 T2 BB2 hw2 ha hb
  have hgl := hg2
  obtain ⟨y0, y1, y2, y3, y4⟩ := cell5 T3.out
  go_wp2_with fail
  clear y0 y1 y2 y3 y4
  have E0 := Lib.hid e0
  have E1 := Lib.hid e1
  have E2 := Lib.hid e2
  have E3 := Lib.hid e3
  have E4 := Lib.hid e4
  have E5 := Lib.hid e5
  have E6 := Lib.hid e6
  have E7 := Lib.hid e7
  have E8 := Lib.hid e8
  have E9 := Lib.hid e9
  have HGL := Lib.hid hgl
  clear e0 e1 e2 e3 e4 e5 e6 e7 e8 e9 hgl
  go_loopw [80] (fun i wr => (i = .int .i64 0 ∧ wr = w3) ∨ (i = .int .i64 1 ∧ False)) (fun i _ => 2 - (intOf i).toNat)
  case atStart => exact .inl ⟨rfl, by first | rfl | trivial⟩
  case round =>
    rcases hrel with ⟨rfl, rfl⟩ | ⟨rfl, Hb⟩
    · have BR := Lib.hid B3.out
      have U3 := T3
      have U4 := T4
      have BQ := Lib.hid (Below.refl wr.heap.size wr)
      have e0 := E0.out
      have e1 := E1.out
      have e2 := E2.out
      have e3 := E3.out
      have e4 := E4.out
      have hgl := HGL.out
      obtain ⟨y0, y1, y2, y3, y4⟩ := cell5 U3.out
      have hlt := U3.out.lt
      go_wp2_with fail
      have bq : Below wr.heap.size wr (wr.alloc (.cells #[.int .i64 (V.ma), .int .i64 (V.mi), .int .i64 (V.pa), .slice none 0 0, .slice none 0 0] 24)) := (Below.refl _ _).alloc (Nat.le_refl _) _
      have r1 := BR.out.trans (bq.mono BR.out.size)
      have r2 := BQ.out.trans (bq.mono BQ.out.size)
      have v3 := U3.out.below bq
      have v4 := U4.out.below bq
      have vn := BlockAt.new wr #[.int .i64 (V.ma), .int .i64 (V.mi), .int .i64 (V.pa), .slice none 0 0, .slice none 0 0] 24
      clear bq y0 y1 y2 y3 y4 hlt e0 e1 e2 e3 e4 hgl
      generalize wr.alloc (.cells #[.int .i64 (V.ma), .int .i64 (V.mi), .int .i64 (V.pa), .slice none 0 0, .slice none 0 0] 24) = w5 at *
      have R1 := Lib.hid r1
      have R2 := Lib.hid r2
      have V3 := Lib.hid v3
      have V4 := Lib.hid v4
      have VN := Lib.hid vn
      clear r1 r2 v3 v4 vn
      refine (S0.out w5 R1.out).mono ?_
      rintro e w6 ⟨rfl, bb⟩
      have R3 := Lib.hid (R1.out.trans (bb.mono R1.out.size))
      have R4 := Lib.hid (R2.out.trans (bb.mono R2.out.size))
      have V5 := Lib.hid (V4.out.below bb)
      have V6 := Lib.hid (VN.out.below bb)
      clear bb
      obtain ⟨n0, n1, n2, n3, n4⟩ := cell5 V6.out
      obtain ⟨g0, g1, g2, g3, g4, g5⟩ := cell6 V5.out
      have f0 := V5.out.free 0
      have f1 := V5.out.free 1
      have f2 := V5.out.free 2
      have f3 := V5.out.free 3
      have f4 := V5.out.free 4
      have f5 := V5.out.free 5
      go_wp2_with fail
      refine bodyPost_ret (v := .agg #[.int .i64 (V.ma), .int .i64 (V.mi), .int .i64 (V.pa), .slice none 0 0, .slice none 0 0, .int .i64 0]) (by simp [results, Tryd.results15, go_sem, g0, g1, g2, g3, g4, g5, f0, f1, f2, f3, f4, f5]) rfl ⟨rfl, ?_⟩
      have hlw := HZ.out.1
      exact (((((R3.out.setCell (by simp; omega) _).setCell (by simp; omega) _).setCell (by simp; omega) _).setCell (by simp; omega) _).setCell (by simp; omega) _).setCell (by simp; omega) _
    · exact Hb.elim
set_option maxHeartbeats 16000000 in
set_option maxRecDepth 100000 in
theorem refnext_0rf (V : Vr) (po bo : Option Addr) (pc bc : Nat) (w : World) (hV : VerC w po bo V) (hr : rightB V = true) (hm : V.pa ≠ bigM) (hS0 : ∀ w', Below w.heap.size w w' → Calls Tryd.prog 34 #[verV ⟨V.ma, V.mi, V.pa, [], []⟩ none 0 none 0, verV V po pc bo bc, .int .i64 0] w' fun e w2 => e = .returned (.bool false) ∧ Below w'.heap.size w' w2) (hS1 : ∀ w', Below w.heap.size w w' → Calls Tryd.prog 34 #[verV ⟨V.ma, V.mi, V.pa + 1, [], []⟩ none 0 none 0, verV V po pc bo bc, .int .i64 0] w' fun e w2 => e = .returned (.bool true) ∧ Below w'.heap.size w' w2) :
    Calls Tryd.prog 15 #[verV V po pc bo bc, .int .i64 0] w fun e w' => e = .returned (refRes (some ⟨V.ma, V.mi, V.pa + 1, [], []⟩)) ∧ Below w.heap.size w w' := by
  have hN := hV.nums
  obtain ⟨i0, hi, hz0, hz1, hz2⟩ := info_parts info_ver
  have hm0 : V.pa ≠ 9223372036854775807 := hm
  have hm1 : V.pa < 9223372036854775807 := by omega
  have hm2 : decide (V.pa < 9223372036854775807) = true := decide_eq_true hm1
  clear hm hm0
  have S0 := Lib.hid hS0
  have S1 := Lib.hid hS1
  obtain ⟨wa, ha⟩ : ∃ wa, w.alloc (.cells #[.int .i64 V.ma, .int .i64 V.mi, .int .i64 V.pa, .slice po V.pre.length pc, .slice bo V.build.length bc] 24) = wa := ⟨_, rfl⟩
  obtain ⟨wb, hb⟩ : ∃ wb, wa.alloc (.cells #[.int .i64 0, .int .i64 0, .int .i64 0, .slice none 0 0, .slice none 0 0, .int .i64 0] 29) = wb := ⟨_, rfl⟩
  obtain ⟨w2, hw2⟩ : ∃ w2, wb.alloc (.cells #[.int .i64 V.ma, .int .i64 V.mi, .int .i64 V.pa, .slice none 0 0, .slice none 0 0] 24) = w2 := ⟨_, rfl⟩
  obtain ⟨k1', q1, z1⟩ := box_new ha
  obtain ⟨k2', q2, z2⟩ := box_new hb
  obtain ⟨k3', q3, z3⟩ := box_new hw2
  have BW := Lib.hid (q1.trans (q2.mono q1.size))
  have HZ := Lib.hid (And.intro z1 z2)
  have K1 := Lib.hid (k1'.below q2)
  have K2 := Lib.hid k2'
  have own := Lib.hid (own_one hw2)
  have Q3 := Lib.hid q3
  have BB2 := Lib.hid (BW.out.trans (q3.mono BW.out.size))
  have T1 := Lib.hid (K1.out.below q3)
  have T2 := Lib.hid (K2.out.below q3)
  have o0 := k3'.cell 0
  have o1 := k3'.cell 1
  have o2 := k3'.cell 2
  have o3 := k3'.cell 3
  have o4 := k3'.cell 4
  simp at o0 o1 o2 o3 o4
  obtain ⟨x0, x1, x2, x3, x4⟩ := cell5 K1.out
  obtain ⟨y0, y1, y2, y3, y4⟩ := cell5 T1.out
  have hlt := T1.out.lt
  unfold verV at *
  simp only [List.length_nil] at *
  clear hS0 hS1 hV hr k1' k2' k3' q1 q2 q3 z1 z2 z3
  go_enter Tryd.func15, Tryd.ntmps15
  go_wp2_with (at_builtin; refine wpList_append_own_at _ rfl _ _ 61 rfl wb.heap.size 24 i0 (.agg #[.int .i64 0, .int .i64 0, .int .i64 0, .slice none 0 0, .slice none 0 0]) 5 72 Tryd.underlying61 hi hz0 hz1 hz2 rfl (by decide) _ 1 (relC V.ma V.mi V.pa) rfl (own.out.alloc _) ⟨w2.heap.size, 0, none⟩ 1 1 (relC (V.ma) (V.mi) (V.pa + 1)) rfl ?c1 ?c2 ?c3 ?c4 ?c5 ?c6 ?_)
  try (case c1 => rfl)
  try (case c2 => first | exact cell_newV _ _ _ _ _ | (intro j u hu; unfold relC at hu; simpa using hu))
  try (case c3 => exact relC_one _ _ _)
  try (case c4 => unfold maxLen; omega)
  try (case c5 => omega)
  try (case c6 => have := Q3.out.size; simp; omega)
  intro v' w3 hown3 hgrow _ hblk
  have b3 : Below wb.heap.size wb w3 := own_pushV own.out Q3.out hgrow
  obtain ⟨g, cap, rfl, hg1, hg2, hgc⟩ := own_cells hown3 (by decide)
  have B3 := Lib.hid (BW.out.trans (b3.mono BW.out.size))
  have T3 := Lib.hid (K1.out.below b3)
  have T4 := Lib.hid (K2.out.below b3)
  have e0 := hgc 0 (by simp [relC])
  have e1 := hgc 1 (by simp [relC])
  have e2 := hgc 2 (by simp [relC])
  have e3 := hgc 3 (by simp [relC])
  have e4 := hgc 4 (by simp [relC])
  have e5 := hgc 5 (by simp [relC])
  have e6 := hgc 6 (by simp [relC])
  have e7 := hgc 7 (by simp [relC])
  have e8 := hgc 8 (by simp [relC])
  have e9 := hgc 9 (by simp [relC])
  simp only [relC, List.cons_append, List.nil_append, List.getElem_cons_zero, List.getElem_cons_succ] at e0 e1 e2 e3 e4 e5 e6 e7 e8 e9
  clear hown3 hgrow hblk b3 hgc o0 o1 o2 o3 o4 x0 x1 x2 x3 x4 y0 y1 y2 y3 y4 hlt T1 T2 BB2 hw2 ha hb
  have hgl := hg2
  obtain ⟨y0, y1, y2, y3, y4⟩ := cell5 T3.out
  go_wp2_with fail
  clear y0 y1 y2 y3 y4
  have E0 := Lib.hid e0
  have E1 := Lib.hid e1
  have E2 := Lib.hid e2
  have E3 := Lib.hid e3
  have E4 := Lib.hid e4
  have E5 := Lib.hid e5
  have E6 := Lib.hid e6
  have E7 := Lib.hid e7
  have E8 := Lib.hid e8
  have E9 := Lib.hid e9
  have HGL := Lib.hid hgl
  clear e0 e1 e2 e3 e4 e5 e6 e7 e8 e9 hgl
  go_loopw [80] (fun i wr => (i = .int .i64 0 ∧ wr = w3) ∨ (i = .int .i64 1 ∧ Hid (Below w3.heap.size w3 wr))) (fun i _ => 2 - (intOf i).toNat)
  case atStart => exact .inl ⟨rfl, by first | rfl | trivial⟩
  case round =>
    rcases hrel with ⟨rfl, rfl⟩ | ⟨rfl, Hb⟩
    · have BR := Lib.hid B3.out
      have U3 := T3
      have U4 := T4
      have BQ := Lib.hid (Below.refl wr.heap.size wr)
      have e0 := E0.out
      have e1 := E1.out
      have e2 := E2.out
      have e3 := E3.out
      have e4 := E4.out
      have hgl := HGL.out
      obtain ⟨y0, y1, y2, y3, y4⟩ := cell5 U3.out
      have hlt := U3.out.lt
      go_wp2_with fail
      have bq : Below wr.heap.size wr (wr.alloc (.cells #[.int .i64 (V.ma), .int .i64 (V.mi), .int .i64 (V.pa), .slice none 0 0, .slice none 0 0] 24)) := (Below.refl _ _).alloc (Nat.le_refl _) _
      have r1 := BR.out.trans (bq.mono BR.out.size)
      have r2 := BQ.out.trans (bq.mono BQ.out.size)
      have v3 := U3.out.below bq
      have v4 := U4.out.below bq
      have vn := BlockAt.new wr #[.int .i64 (V.ma), .int .i64 (V.mi), .int .i64 (V.pa), .slice none 0 0, .slice none 0 0] 24
      clear bq y0 y1 y2 y3 y4 hlt e0 e1 e2 e3 e4 hgl
      generalize wr.alloc (.cells #[.int .i64 (V.ma), .int .i64 (V.mi), .int .i64 (V.pa), .slice none 0 0, .slice none 0 0] 24) = w5 at *
      have R1 := Lib.hid r1
      have R2 := Lib.hid r2
      have V3 := Lib.hid v3
      have V4 := Lib.hid v4
      have VN := Lib.hid vn
      clear r1 r2 v3 v4 vn
      refine (S0.out w5 R1.out).mono ?_
      rintro e w6 ⟨rfl, bb⟩
      have R3 := Lib.hid (R1.out.trans (bb.mono R1.out.size))
      have R4 := Lib.hid (R2.out.trans (bb.mono R2.out.size))
      have V5 := Lib.hid (V4.out.below bb)
      have V6 := Lib.hid (VN.out.below bb)
      clear bb
      go_wp2_with fail
      go_roundw
      case rel => first | exact .inr ⟨by go_num, R4⟩ | ((repeat apply Exists.intro); exact ⟨.inr ⟨by go_num, R4⟩, rfl⟩)
      case measure => simp [intOf]
    · have BR := Lib.hid (B3.out.trans (Hb.out.mono B3.out.size))
      have U3 := Lib.hid (T3.out.below Hb.out)
      have U4 := Lib.hid (T4.out.below Hb.out)
      have BQ := Hb
      have e0 := (Hb.out.cell (p := ⟨g, 5, none⟩) HGL.out).trans E5.out
      have e1 := (Hb.out.cell (p := ⟨g, 6, none⟩) HGL.out).trans E6.out
      have e2 := (Hb.out.cell (p := ⟨g, 7, none⟩) HGL.out).trans E7.out
      have e3 := (Hb.out.cell (p := ⟨g, 8, none⟩) HGL.out).trans E8.out
      have e4 := (Hb.out.cell (p := ⟨g, 9, none⟩) HGL.out).trans E9.out
      have hgl : g < wr.heap.size := Nat.lt_of_lt_of_le HGL.out Hb.out.size
      obtain ⟨y0, y1, y2, y3, y4⟩ := cell5 U3.out
      have hlt := U3.out.lt
      go_wp2_with fail
      have bq : Below wr.heap.size wr (wr.alloc (.cells #[.int .i64 (V.ma), .int .i64 (V.mi), .int .i64 (V.pa + 1), .slice none 0 0, .slice none 0 0] 24)) := (Below.refl _ _).alloc (Nat.le_refl _) _
      have r1 := BR.out.trans (bq.mono BR.out.size)
      have r2 := BQ.out.trans (bq.mono BQ.out.size)
      have v3 := U3.out.below bq
      have v4 := U4.out.below bq
      have vn := BlockAt.new wr #[.int .i64 (V.ma), .int .i64 (V.mi), .int .i64 (V.pa + 1), .slice none 0 0, .slice none 0 0] 24
      clear bq y0 y1 y2 y3 y4 hlt e0 e1 e2 e3 e4 hgl
      generalize wr.alloc (.cells #[.int .i64 (V.ma), .int .i64 (V.mi), .int .i64 (V.pa + 1), .slice none 0 0, .slice none 0 0] 24) = w5 at *
      have R1 := Lib.hid r1
      have R2 := Lib.hid r2
      have V3 := Lib.hid v3
      have V4 := Lib.hid v4
      have VN := Lib.hid vn
      clear r1 r2 v3 v4 vn
      refine (S1.out w5 R1.out).mono ?_
      rintro e w6 ⟨rfl, bb⟩
      have R3 := Lib.hid (R1.out.trans (bb.mono R1.out.size))
      have R4 := Lib.hid (R2.out.trans (bb.mono R2.out.size))
      have V5 := Lib.hid (V4.out.below bb)
      have V6 := Lib.hid (VN.out.below bb)
      clear bb
      obtain ⟨n0, n1, n2, n3, n4⟩ := cell5 V6.out
      obtain ⟨g0, g1, g2, g3, g4, g5⟩ := cell6 V5.out
      have f0 := V5.out.free 0
      have f1 := V5.out.free 1
      have f2 := V5.out.free 2
      have f3 := V5.out.free 3
      have f4 := V5.out.free 4
      have f5 := V5.out.free 5
      go_wp2_with fail
      refine bodyPost_ret (v := .agg #[.int .i64 (V.ma), .int .i64 (V.mi), .int .i64 (V.pa + 1), .slice none 0 0, .slice none 0 0, .int .i64 0]) (by simp [results, Tryd.results15, go_sem, g0, g1, g2, g3, g4, g5, f0, f1, f2, f3, f4, f5]) rfl ⟨rfl, ?_⟩
      have hlw := HZ.out.1
      exact (((((R3.out.setCell (by simp; omega) _).setCell (by simp; omega) _).setCell (by simp; omega) _).setCell (by simp; omega) _).setCell (by simp; omega) _).setCell (by simp; omega) _
set_option maxHeartbeats 16000000 in
set_option maxRecDepth 100000 in
theorem refnext_0ot (V : Vr) (po bo : Option Addr) (pc bc : Nat) (w : World) (hV : VerC w po bo V) (hr : rightB V = true) (hm : V.pa = bigM) (hS0 : ∀ w', Below w.heap.size w w' → Calls Tryd.prog 34 #[verV ⟨V.ma, V.mi, V.pa, [], []⟩ none 0 none 0, verV V po pc bo bc, .int .i64 0] w' fun e w2 => e = .returned (.bool true) ∧ Below w'.heap.size w' w2)  :
    Calls Tryd.prog 15 #[verV V po pc bo bc, .int .i64 0] w fun e w' => e = .returned (refRes (some ⟨V.ma, V.mi, V.pa, [], []⟩)) ∧ Below w.heap.size w w' := by
  have hN := hV.nums
  obtain ⟨i0, hi, hz0, hz1, hz2⟩ := info_parts info_ver
  have hm0 : V.pa = 9223372036854775807 := hm
  have hm2 : decide (V.pa < 9223372036854775807) = false := decide_eq_false (by omega)
  have hm3 : ¬ V.pa < 9223372036854775807 := by omega
  have HM := Lib.hid hm0
  clear hm hm0
  have S0 := Lib.hid hS0
  obtain ⟨wa, ha⟩ : ∃ wa, w.alloc (.cells #[.int .i64 V.ma, .int .i64 V.mi, .int .i64 V.pa, .slice po V.pre.length pc, .slice bo V.build.length bc] 24) = wa := ⟨_, rfl⟩
  obtain ⟨wb, hb⟩ : ∃ wb, wa.alloc (.cells #[.int .i64 0, .int .i64 0, .int .i64 0, .slice none 0 0, .slice none 0 0, .int .i64 0] 29) = wb := ⟨_, rfl⟩
  obtain ⟨w2, hw2⟩ : ∃ w2, wb.alloc (.cells #[.int .i64 V.ma, .int .i64 V.mi, .int .i64 V.pa, .slice none 0 0, .slice none 0 0] 24) = w2 := ⟨_, rfl⟩
  obtain ⟨k1', q1, z1⟩ := box_new ha
  obtain ⟨k2', q2, z2⟩ := box_new hb
  obtain ⟨k3', q3, z3⟩ := box_new hw2
  have BW := Lib.hid (q1.trans (q2.mono q1.size))
  have HZ := Lib.hid (And.intro z1 z2)
  have K1 := Lib.hid (k1'.below q2)
  have K2 := Lib.hid k2'
  have own := Lib.hid (own_one hw2)
  have Q3 := Lib.hid q3
  have BB2 := Lib.hid (BW.out.trans (q3.mono BW.out.size))
  have T1 := Lib.hid (K1.out.below q3)
  have T2 := Lib.hid (K2.out.below q3)
  have o0 := k3'.cell 0
  have o1 := k3'.cell 1
  have o2 := k3'.cell 2
  have o3 := k3'.cell 3
  have o4 := k3'.cell 4
  simp at o0 o1 o2 o3 o4
  obtain ⟨x0, x1, x2, x3, x4⟩ := cell5 K1.out
  obtain ⟨y0, y1, y2, y3, y4⟩ := cell5 T1.out
  have hlt := T1.out.lt
  unfold verV at *
  simp only [List.length_nil] at *
  clear hS0 hV hr k1' k2' k3' q1 q2 q3 z1 z2 z3
  go_enter Tryd.func15, Tryd.ntmps15
  go_wp2_with fail
  clear x0 x1 x2 x3 x4 ha hb hw2
  obtain ⟨g, hgd⟩ : ∃ g, wb.heap.size = g := ⟨_, rfl⟩
  have hgl : g < w2.heap.size := by have := Q3.out.size; have h := cell_lt0 o0; omega
  rw [hgd] at o0 o1 o2 o3 o4 ⊢
  have B3 := BB2
  have T3 := T1
  have T4 := T2
  have e0 := o0
  have e1 := o1
  have e2 := o2
  have e3 := o3
  have e4 := o4
  clear o0 o1 o2 o3 o4 hlt BB2 T1 T2 hgd
  clear y0 y1 y2 y3 y4
  have E0 := Lib.hid e0
  have E1 := Lib.hid e1
  have E2 := Lib.hid e2
  have E3 := Lib.hid e3
  have E4 := Lib.hid e4
  have HGL := Lib.hid hgl
  clear e0 e1 e2 e3 e4 hgl
  go_loopw [80] (fun i wr => (i = .int .i64 0 ∧ wr = w2) ∨ (i = .int .i64 1 ∧ False)) (fun i _ => 1 - (intOf i).toNat)
  case atStart => exact .inl ⟨rfl, by first | rfl | trivial⟩
  case round =>
    rcases hrel with ⟨rfl, rfl⟩ | ⟨rfl, Hb⟩
    · have BR := Lib.hid B3.out
      have U3 := T3
      have U4 := T4
      have BQ := Lib.hid (Below.refl wr.heap.size wr)
      have e0 := E0.out
      have e1 := E1.out
      have e2 := E2.out
      have e3 := E3.out
      have e4 := E4.out
      have hgl := HGL.out
      obtain ⟨y0, y1, y2, y3, y4⟩ := cell5 U3.out
      have hlt := U3.out.lt
      go_wp2_with fail
      have bq : Below wr.heap.size wr (wr.alloc (.cells #[.int .i64 (V.ma), .int .i64 (V.mi), .int .i64 (V.pa), .slice none 0 0, .slice none 0 0] 24)) := (Below.refl _ _).alloc (Nat.le_refl _) _
      have r1 := BR.out.trans (bq.mono BR.out.size)
      have r2 := BQ.out.trans (bq.mono BQ.out.size)
      have v3 := U3.out.below bq
      have v4 := U4.out.below bq
      have vn := BlockAt.new wr #[.int .i64 (V.ma), .int .i64 (V.mi), .int .i64 (V.pa), .slice none 0 0, .slice none 0 0] 24
      clear bq y0 y1 y2 y3 y4 hlt e0 e1 e2 e3 e4 hgl
      generalize wr.alloc (.cells #[.int .i64 (V.ma), .int .i64 (V.mi), .int .i64 (V.pa), .slice none 0 0, .slice none 0 0] 24) = w5 at *
      have R1 := Lib.hid r1
      have R2 := Lib.hid r2
      have V3 := Lib.hid v3
      have V4 := Lib.hid v4
      have VN := Lib.hid vn
      clear r1 r2 v3 v4 vn
      refine (S0.out w5 R1.out).mono ?_
      rintro e w6 ⟨rfl, bb⟩
      have R3 := Lib.hid (R1.out.trans (bb.mono R1.out.size))
      have R4 := Lib.hid (R2.out.trans (bb.mono R2.out.size))
      have V5 := Lib.hid (V4.out.below bb)
      have V6 := Lib.hid (VN.out.below bb)
      clear bb
      obtain ⟨n0, n1, n2, n3, n4⟩ := cell5 V6.out
      obtain ⟨g0, g1, g2, g3, g4, g5⟩ := cell6 V5.out
      have f0 := V5.out.free 0
      have f1 := V5.out.free 1
      have f2 := V5.out.free 2
      have f3 := V5.out.free 3
      have f4 := V5.out.free 4
      have f5 := V5.out.free 5
      go_wp2_with fail
      refine bodyPost_ret (v := .agg #[.int .i64 (V.ma), .int .i64 (V.mi), .int .i64 (V.pa), .slice none 0 0, .slice none 0 0, .int .i64 0]) (by simp [results, Tryd.results15, go_sem, g0, g1, g2, g3, g4, g5, f0, f1, f2, f3, f4, f5]) rfl ⟨rfl, ?_⟩
      have hlw := HZ.out.1
      exact (((((R3.out.setCell (by simp; omega) _).setCell (by simp; omega) _).setCell (by simp; omega) _).setCell (by simp; omega) _).setCell (by simp; omega) _).setCell (by simp; omega) _
    · exact Hb.elim
set_option maxHeartbeats 16000000 in
set_option maxRecDepth 100000 in
theorem refnext_0of (V : Vr) (po bo : Option Addr) (pc bc : Nat) (w : World) (hV : VerC w po bo V) (hr : rightB V = true) (hm : V.pa = bigM) (hS0 : ∀ w', Below w.heap.size w w' → Calls Tryd.prog 34 #[verV ⟨V.ma, V.mi, V.pa, [], []⟩ none 0 none 0, verV V po pc bo bc, .int .i64 0] w' fun e w2 => e = .returned (.bool false) ∧ Below w'.heap.size w' w2)  :
    Calls Tryd.prog 15 #[verV V po pc bo bc, .int .i64 0] w fun e w' => e = .returned (refRes none) ∧ Below w.heap.size w w' := by
  have hN := hV.nums
  obtain ⟨i0, hi, hz0, hz1, hz2⟩ := info_parts info_ver
  have hm0 : V.pa = 9223372036854775807 := hm
  have hm2 : decide (V.pa < 9223372036854775807) = false := decide_eq_false (by omega)
  have hm3 : ¬ V.pa < 9223372036854775807 := by omega
  have HM := Lib.hid hm0
  clear hm hm0
  have S0 := Lib.hid hS0
  obtain ⟨wa, ha⟩ : ∃ wa, w.alloc (.cells #[.int .i64 V.ma, .int .i64 V.mi, .int .i64 V.pa, .slice po V.pre.length pc, .slice bo V.build.length bc] 24) = wa := ⟨_, rfl⟩
  obtain ⟨wb, hb⟩ : ∃ wb, wa.alloc (.cells #[.int .i64 0, .int .i64 0, .int .i64 0, .slice none 0 0, .slice none 0 0, .int .i64 0] 29) = wb := ⟨_, rfl⟩
  obtain ⟨w2, hw2⟩ : ∃ w2, wb.alloc (.cells #[.int .i64 V.ma, .int .i64 V.mi, .int .i64 V.pa, .slice none 0 0, .slice none 0 0] 24) = w2 := ⟨_, rfl⟩
  obtain ⟨k1', q1, z1⟩ := box_new ha
  obtain ⟨k2', q2, z2⟩ := box_new hb
  obtain ⟨k3', q3, z3⟩ := box_new hw2
  have BW := Lib.hid (q1.trans (q2.mono q1.size))
  have HZ := Lib.hid (And.intro z1 z2)
  have K1 := Lib.hid (k1'.below q2)
  have K2 := Lib.hid k2'
  have own := Lib.hid (own_one hw2)
  have Q3 := Lib.hid q3
  have BB2 := Lib.hid (BW.out.trans (q3.mono BW.out.size))
  have T1 := Lib.hid (K1.out.below q3)
  have T2 := Lib.hid (K2.out.below q3)
  have o0 := k3'.cell 0
  have o1 := k3'.cell 1
  have o2 := k3'.cell 2
  have o3 := k3'.cell 3
  have o4 := k3'.cell 4
  simp at o0 o1 o2 o3 o4
  obtain ⟨x0, x1, x2, x3, x4⟩ := cell5 K1.out
  obtain ⟨y0, y1, y2, y3, y4⟩ := cell5 T1.out
  have hlt := T1.out.lt
  unfold verV at *
  simp only [List.length_nil] at *
  clear hS0 hV hr k1' k2' k3' q1 q2 q3 z1 z2 z3
  go_enter Tryd.func15, Tryd.ntmps15
  go_wp2_with fail
  clear x0 x1 x2 x3 x4 ha hb hw2
  obtain ⟨g, hgd⟩ : ∃ g, wb.heap.size = g := ⟨_, rfl⟩
  have hgl : g < w2.heap.size := by have := Q3.out.size; have h := cell_lt0 o0; omega
  rw [hgd] at o0 o1 o2 o3 o4 ⊢
  have B3 := BB2
  have T3 := T1
  have T4 := T2
  have e0 := o0
  have e1 := o1
  have e2 := o2
  have e3 := o3
  have e4 := o4
  clear o0 o1 o2 o3 o4 hlt BB2 T1 T2 hgd
  clear y0 y1 y2 y3 y4
  have E0 := Lib.hid e0
  have E1 := Lib.hid e1
  have E2 := Lib.hid e2
  have E3 := Lib.hid e3
  have E4 := Lib.hid e4
  have HGL := Lib.hid hgl
  clear e0 e1 e2 e3 e4 hgl
  go_loopw [80] (fun i wr => (i = .int .i64 0 ∧ wr = w2) ∨ (i = .int .i64 1 ∧ Hid (Below w2.heap.size w2 wr))) (fun i _ => 1 - (intOf i).toNat)
  case atStart => exact .inl ⟨rfl, by first | rfl | trivial⟩
  case round =>
    rcases hrel with ⟨rfl, rfl⟩ | ⟨rfl, Hb⟩
    · have BR := Lib.hid B3.out
      have U3 := T3
      have U4 := T4
      have BQ := Lib.hid (Below.refl wr.heap.size wr)
      have e0 := E0.out
      have e1 := E1.out
      have e2 := E2.out
      have e3 := E3.out
      have e4 := E4.out
      have hgl := HGL.out
      obtain ⟨y0, y1, y2, y3, y4⟩ := cell5 U3.out
      have hlt := U3.out.lt
      go_wp2_with fail
      have bq : Below wr.heap.size wr (wr.alloc (.cells #[.int .i64 (V.ma), .int .i64 (V.mi), .int .i64 (V.pa), .slice none 0 0, .slice none 0 0] 24)) := (Below.refl _ _).alloc (Nat.le_refl _) _
      have r1 := BR.out.trans (bq.mono BR.out.size)
      have r2 := BQ.out.trans (bq.mono BQ.out.size)
      have v3 := U3.out.below bq
      have v4 := U4.out.below bq
      have vn := BlockAt.new wr #[.int .i64 (V.ma), .int .i64 (V.mi), .int .i64 (V.pa), .slice none 0 0, .slice none 0 0] 24
      clear bq y0 y1 y2 y3 y4 hlt e0 e1 e2 e3 e4 hgl
      generalize wr.alloc (.cells #[.int .i64 (V.ma), .int .i64 (V.mi), .int .i64 (V.pa), .slice none 0 0, .slice none 0 0] 24) = w5 at *
      have R1 := Lib.hid r1
      have R2 := Lib.hid r2
      have V3 := Lib.hid v3
      have V4 := Lib.hid v4
      have VN := Lib.hid vn
      clear r1 r2 v3 v4 vn
      refine (S0.out w5 R1.out).mono ?_
      rintro e w6 ⟨rfl, bb⟩
      have R3 := Lib.hid (R1.out.trans (bb.mono R1.out.size))
      have R4 := Lib.hid (R2.out.trans (bb.mono R2.out.size))
      have V5 := Lib.hid (V4.out.below bb)
      have V6 := Lib.hid (VN.out.below bb)
      clear bb
      go_wp2_with fail
      go_roundw
      case rel => first | exact .inr ⟨by go_num, R4⟩ | ((repeat apply Exists.intro); exact ⟨.inr ⟨by go_num, R4⟩, rfl⟩)
      case measure => simp [intOf]
    · have BR := Lib.hid (B3.out.trans (Hb.out.mono B3.out.size))
      have U4 := Lib.hid (T4.out.below Hb.out)
      obtain ⟨g0, g1, g2, g3, g4, g5⟩ := cell6 U4.out
      have f0 := U4.out.free 0
      have f1 := U4.out.free 1
      have f2 := U4.out.free 2
      have f3 := U4.out.free 3
      have f4 := U4.out.free 4
      have f5 := U4.out.free 5
      go_wp2_with fail
      refine bodyPost_ret (v := .agg #[.int .i64 0, .int .i64 0, .int .i64 0, .slice none 0 0, .slice none 0 0, .int .i64 2]) (by simp [results, Tryd.results15, go_sem, g0, g1, g2, g3, g4, g5, f0, f1, f2, f3, f4, f5]) rfl ⟨rfl, ?_⟩
      have hlw := HZ.out.1
      exact (((((BR.out.setCell (by simp; omega) _).setCell (by simp; omega) _).setCell (by simp; omega) _).setCell (by simp; omega) _).setCell (by simp; omega) _).setCell (by simp; omega) _
set_option maxHeartbeats 16000000 in
set_option maxRecDepth 100000 in
theorem refnext_1rt (V : Vr) (po bo : Option Addr) (pc bc : Nat) (w : World) (hV : VerC w po bo V) (hr : rightB V = true) (hm : V.mi ≠ bigM) (hS0 : ∀ w', Below w.heap.size w w' → Calls Tryd.prog 34 #[verV ⟨V.ma, V.mi, V.pa, [], []⟩ none 0 none 0, verV V po pc bo bc, .int .i64 1] w' fun e w2 => e = .returned (.bool true) ∧ Below w'.heap.size w' w2)  :
    Calls Tryd.prog 15 #[verV V po pc bo bc, .int .i64 1] w fun e w' => e = .returned (refRes (some ⟨V.ma, V.mi, V.pa, [], []⟩)) ∧ Below w.heap.size w w' := by
  have hN := hV.nums
  obtain ⟨i0, hi, hz0, hz1, hz2⟩ := info_parts info_ver
  have hm0 : V.mi ≠ 9223372036854775807 := hm
  have hm1 : V.mi < 9223372036854775807 := by omega
  have hm2 : decide (V.mi < 9223372036854775807) = true := decide_eq_true hm1
  clear hm hm0
  have S0 := Lib.hid hS0
  obtain ⟨wa, ha⟩ : ∃ wa, w.alloc (.cells #[.int .i64 V.ma, .int .i64 V.mi, .int .i64 V.pa, .slice po V.pre.length pc, .slice bo V.build.length bc] 24) = wa := ⟨_, rfl⟩
  obtain ⟨wb, hb⟩ : ∃ wb, wa.alloc (.cells #[.int .i64 0, .int .i64 0, .int .i64 0, .slice none 0 0, .slice none 0 0, .int .i64 0] 29) = wb := ⟨_, rfl⟩
  obtain ⟨w2, hw2⟩ : ∃ w2, wb.alloc (.cells #[.int .i64 V.ma, .int .i64 V.mi, .int .i64 V.pa, .slice none 0 0, .slice none 0 0] 24) = w2 := ⟨_, rfl⟩
  obtain ⟨k1', q1, z1⟩ := box_new ha
  obtain ⟨k2', q2, z2⟩ := box_new hb
  obtain ⟨k3', q3, z3⟩ := box_new hw2
  have BW := Lib.hid (q1.trans (q2.mono q1.size))
  have HZ := Lib.hid (And.intro z1 z2)
  have K1 := Lib.hid (k1'.below q2)
  have K2 := Lib.hid k2'
  have own := Lib.hid (own_one hw2)
  have Q3 := Lib.hid q3
  have BB2 := Lib.hid (BW.out.trans (q3.mono BW.out.size))
  have T1 := Lib.hid (K1.out.below q3)
  have T2 := Lib.hid (K2.out.below q3)
  have o0 := k3'.cell 0
  have o1 := k3'.cell 1
  have o2 := k3'.cell 2
  have o3 := k3'.cell 3
  have o4 := k3'.cell 4
  simp at o0 o1 o2 o3 o4
  obtain ⟨x0, x1, x2, x3, x4⟩ := cell5 K1.out
  obtain ⟨y0, y1, y2, y3, y4⟩ := cell5 T1.out
  have hlt := T1.out.lt
  unfold verV at *
  simp only [List.length_nil] at *
  clear hS0 hV hr k1' k2' k3' q1 q2 q3 z1 z2 z3
  go_enter Tryd.func15, Tryd.ntmps15
  go_wp2_with (at_builtin; refine wpList_append_own_at _ rfl _ _ 61 rfl wb.heap.size 24 i0 (.agg #[.int .i64 0, .int .i64 0, .int .i64 0, .slice none 0 0, .slice none 0 0]) 5 72 Tryd.underlying61 hi hz0 hz1 hz2 rfl (by decide) _ 1 (relC V.ma V.mi V.pa) rfl (own.out.alloc _) ⟨w2.heap.size, 0, none⟩ 1 1 (relC (V.ma) (V.mi + 1) (0)) rfl ?c1 ?c2 ?c3 ?c4 ?c5 ?c6 ?_)
  try (case c1 => rfl)
  try (case c2 => first | exact cell_newV _ _ _ _ _ | (intro j u hu; unfold relC at hu; simpa using hu))
  try (case c3 => exact relC_one _ _ _)
  try (case c4 => unfold maxLen; omega)
  try (case c5 => omega)
  try (case c6 => have := Q3.out.size; simp; omega)
  intro v' w3 hown3 hgrow _ hblk
  have b3 : Below wb.heap.size wb w3 := own_pushV own.out Q3.out hgrow
  obtain ⟨g, cap, rfl, hg1, hg2, hgc⟩ := own_cells hown3 (by decide)
  have B3 := Lib.hid (BW.out.trans (b3.mono BW.out.size))
  have T3 := Lib.hid (K1.out.below b3)
  have T4 := Lib.hid (K2.out.below b3)
  have e0 := hgc 0 (by simp [relC])
  have e1 := hgc 1 (by simp [relC])
  have e2 := hgc 2 (by simp [relC])
  have e3 := hgc 3 (by simp [relC])
  have e4 := hgc 4 (by simp [relC])
  have e5 := hgc 5 (by simp [relC])
  have e6 := hgc 6 (by simp [relC])
  have e7 := hgc 7 (by simp [relC])
  have e8 := hgc 8 (by simp [relC])
  have e9 := hgc 9 (by simp [relC])
  simp only [relC, List.cons_append, List.nil_append, List.getElem_cons_zero, List.getElem_cons_succ] at e0 e1 e2 e3 e4 e5 e6 e7 e8 e9
  clear hown3 hgrow hblk b3 hgc o0 o1 o2 o3 o4 x0 x1 x2 x3 x4 y0 y1 y2 y3 y4 hlt T1 T2 BB2 hw2 ha hb
  have hgl := hg2
  obtain ⟨y0, y1, y2, y3, y4⟩ := cell5 T3.out
  go_wp2_with fail
  clear y0 y1 y2 y3 y4
  have E0 := Lib.hid e0
  have E1 := Lib.hid e1
  have E2 := Lib.hid e2
  have E3 := Lib.hid e3
  have E4 := Lib.hid e4
  have E5 := Lib.hid e5
  have E6 := Lib.hid e6
  have E7 := Lib.hid e7
  have E8 := Lib.hid e8
  have E9 := Lib.hid e9
  have HGL := Lib.hid hgl
  clear e0 e1 e2 e3 e4 e5 e6 e7 e8 e9 hgl
  go_loopw [80] (fun i wr => (i = .int .i64 0 ∧ wr = w3) ∨ (i = .int .i64 1 ∧ False)) (fun i _ => 2 - (intOf i).toNat)
  case atStart => exact .inl ⟨rfl, by first | rfl | trivial⟩
  case round =>
    rcases hrel with ⟨rfl, rfl⟩ | ⟨rfl, Hb⟩
    · have BR := Lib.hid B3.out
      have U3 := T3
      have U4 := T4
      have BQ := Lib.hid (Below.refl wr.heap.size wr)
      have e0 := E0.out
      have e1 := E1.out
      have e2 := E2.out
      have e3 := E3.out
      have e4 := E4.out
      have hgl := HGL.out
      obtain ⟨y0, y1, y2, y3, y4⟩ := cell5 U3.out
      have hlt := U3.out.lt
      go_wp2_with fail
      have bq : Below wr.heap.size wr (wr.alloc (.cells #[.int .i64 (V.ma), .int .i64 (V.mi), .int .i64 (V.pa), .slice none 0 0, .slice none 0 0] 24)) := (Below.refl _ _).alloc (Nat.le_refl _) _
      have r1 := BR.out.trans (bq.mono BR.out.size)
      have r2 := BQ.out.trans (bq.mono BQ.out.size)
      have v3 := U3.out.below bq
      have v4 := U4.out.below bq
      have vn := BlockAt.new wr #[.int .i64 (V.ma), .int .i64 (V.mi), .int .i64 (V.pa), .slice none 0 0, .slice none 0 0] 24
      clear bq y0 y1 y2 y3 y4 hlt e0 e1 e2 e3 e4 hgl
      generalize wr.alloc (.cells #[.int .i64 (V.ma), .int .i64 (V.mi), .int .i64 (V.pa), .slice none 0 0, .slice none 0 0] 24) = w5 at *
      have R1 := Lib.hid r1
      have R2 := Lib.hid r2
      have V3 := Lib.hid v3
      have V4 := Lib.hid v4
      have VN := Lib.hid vn
      clear r1 r2 v3 v4 vn
      refine (S0.out w5 R1.out).mono ?_
      rintro e w6 ⟨rfl, bb⟩
      have R3 := Lib.hid (R1.out.trans (bb.mono R1.out.size))
      have R4 := Lib.hid (R2.out.trans (bb.mono R2.out.size))
      have V5 := Lib.hid (V4.out.below bb)
      have V6 := Lib.hid (VN.out.below bb)
      clear bb
      obtain ⟨n0, n1, n2, n3, n4⟩ := cell5 V6.out
      obtain ⟨g0, g1, g2, g3, g4, g5⟩ := cell6 V5.out
      have f0 := V5.out.free 0
      have f1 := V5.out.free 1
      have f2 := V5.out.free 2
      have f3 := V5.out.free 3
      have f4 := V5.out.free 4
      have f5 := V5.out.free 5
      go_wp2_with fail
      refine bodyPost_ret (v := .agg #[.int .i64 (V.ma), .int .i64 (V.mi), .int .i64 (V.pa), .slice none 0 0, .slice none 0 0, .int .i64 0]) (by simp [results, Tryd.results15, go_sem, g0, g1, g2, g3, g4, g5, f0, f1, f2, f3, f4, f5]) rfl ⟨rfl, ?_⟩
      have hlw := HZ.out.1
      exact (((((R3.out.setCell (by simp; omega) _).setCell (by simp; omega) _).setCell (by simp; omega) _).setCell (by simp; omega) _).setCell (by simp; omega) _).setCell (by simp; omega) _
    · exact Hb.elim
set_option maxHeartbeats 16000000 in
set_option maxRecDepth 100000 in
theorem refnext_1rf (V : Vr) (po bo : Option Addr) (pc bc : Nat) (w : World) (hV : VerC w po bo V) (hr : rightB V = true) (hm : V.mi ≠ bigM) (hS0 : ∀ w', Below w.heap.size w w' → Calls Tryd.prog 34 #[verV ⟨V.ma, V.mi, V.pa, [], []⟩ none 0 none 0, verV V po pc bo bc, .int .i64 1] w' fun e w2 => e = .returned (.bool false) ∧ Below w'.heap.size w' w2) (hS1 : ∀ w', Below w.heap.size w w' → Calls Tryd.prog 34 #[verV ⟨V.ma, V.mi + 1, 0, [], []⟩ none 0 none 0, verV V po pc bo bc, .int .i64 1] w' fun e w2 => e = .returned (.bool true) ∧ Below w'.heap.size w' w2) :
    Calls Tryd.prog 15 #[verV V po pc bo bc, .int .i64 1] w fun e w' => e = .returned (refRes (some ⟨V.ma, V.mi + 1, 0, [], []⟩)) ∧ Below w.heap.size w w' := by
  have hN := hV.nums
  obtain ⟨i0, hi, hz0, hz1, hz2⟩ := info_parts info_ver
  have hm0 : V.mi ≠ 9223372036854775807 := hm
  have hm1 : V.mi < 9223372036854775807 := by omega
  have hm2 : decide (V.mi < 9223372036854775807) = true := decide_eq_true hm1
  clear hm hm0
  have S0 := Lib.hid hS0
  have S1 := Lib.hid hS1
  obtain ⟨wa, ha⟩ : ∃ wa, w.alloc (.cells #[.int .i64 V.ma, .int .i64 V.mi, .int .i64 V.pa, .slice po V.pre.length pc, .slice bo V.build.length bc] 24) = wa := ⟨_, rfl⟩
  obtain ⟨wb, hb⟩ : ∃ wb, wa.alloc (.cells #[.int .i64 0, .int .i64 0, .int .i64 0, .slice none 0 0, .slice none 0 0, .int .i64 0] 29) = wb := ⟨_, rfl⟩
  obtain ⟨w2, hw2⟩ : ∃ w2, wb.alloc (.cells #[.int .i64 V.ma, .int .i64 V.mi, .int .i64 V.pa, .slice none 0 0, .slice none 0 0] 24) = w2 := ⟨_, rfl⟩
  obtain ⟨k1', q1, z1⟩ := box_new ha
  obtain ⟨k2', q2, z2⟩ := box_new hb
  obtain ⟨k3', q3, z3⟩ := box_new hw2
  have BW := Lib.hid (q1.trans (q2.mono q1.size))
  have HZ := Lib.hid (And.intro z1 z2)
  have K1 := Lib.hid (k1'.below q2)
  have K2 := Lib.hid k2'
  have own := Lib.hid (own_one hw2)
  have Q3 := Lib.hid q3
  have BB2 := Lib.hid (BW.out.trans (q3.mono BW.out.size))
  have T1 := Lib.hid (K1.out.below q3)
  have T2 := Lib.hid (K2.out.below q3)
  have o0 := k3'.cell 0
  have o1 := k3'.cell 1
  have o2 := k3'.cell 2
  have o3 := k3'.cell 3
  have o4 := k3'.cell 4
  simp at o0 o1 o2 o3 o4
  obtain ⟨x0, x1, x2, x3, x4⟩ := cell5 K1.out
  obtain ⟨y0, y1, y2, y3, y4⟩ := cell5 T1.out
  have hlt := T1.out.lt
  unfold verV at *
  simp only [List.length_nil] at *
  clear hS0 hS1 hV hr k1' k2' k3' q1 q2 q3 z1 z2 z3
  go_enter Tryd.func15, Tryd.ntmps15
  go_wp2_with (at_builtin; refine wpList_append_own_at _ rfl _ _ 61 rfl wb.heap.size 24 i0 (.agg #[.int .i64 0, .int .i64 0, .int .i64 0, .slice none 0 0, .slice none 0 0]) 5 72 Tryd.underlying61 hi hz0 hz1 hz2 rfl (by decide) _ 1 (relC V.ma V.mi V.pa) rfl (own.out.alloc _) ⟨w2.heap.size, 0, none⟩ 1 1 (relC (V.ma) (V.mi + 1) (0)) rfl ?c1 ?c2 ?c3 ?c4 ?c5 ?c6 ?_)
  try (case c1 => rfl)
  try (case c2 => first | exact cell_newV _ _ _ _ _ | (intro j u hu; unfold relC at hu; simpa using hu))
  try (case c3 => exact relC_one _ _ _)
  try (case c4 => unfold maxLen; omega)
  try (case c5 => omega)
  try (case c6 => have := Q3.out.size; simp; omega)
  intro v' w3 hown3 hgrow _ hblk
  have b3 : Below wb.heap.size wb w3 := own_pushV own.out Q3.out hgrow
  obtain ⟨g, cap, rfl, hg1, hg2, hgc⟩ := own_cells hown3 (by decide)
  have B3 := Lib.hid (BW.out.trans (b3.mono BW.out.size))
  have T3 := Lib.hid (K1.out.below b3)
  have T4 := Lib.hid (K2.out.below b3)
  have e0 := hgc 0 (by simp [relC])
  have e1 := hgc 1 (by simp [relC])
  have e2 := hgc 2 (by simp [relC])
  have e3 := hgc 3 (by simp [relC])
  have e4 := hgc 4 (by simp [relC])
  have e5 := hgc 5 (by simp [relC])
  have e6 := hgc 6 (by simp [relC])
  have e7 := hgc 7 (by simp [relC])
  have e8 := hgc 8 (by simp [relC])
  have e9 := hgc 9 (by simp [relC])
  simp only [relC, List.cons_append, List.nil_append, List.getElem_cons_zero, List.getElem_cons_succ] at e0 e1 e2 e3 e4 e5 e6 e7 e8 e9
  clear hown3 hgrow hblk b3 hgc o0 o1 o2 o3 o4 x0 x1 x2 x3 x4 y0 y1 y2 y3 y4 hlt T1 T2 BB2 hw2 ha hb
  have hgl := hg2
  obtain ⟨y0, y1, y2, y3, y4⟩ := cell5 T3.out
  go_wp2_with fail
  clear y0 y1 y2 y3 y4
  have E0 := Lib.hid e0
  have E1 := Lib.hid e1
  have E2 := Lib.hid e2
  have E3 := Lib.hid e3
  have E4 := Lib.hid e4
  have E5 := Lib.hid e5
  have E6 := Lib.hid e6
  have E7 := Lib.hid e7
  have E8 := Lib.hid e8
  have E9 := Lib.hid e9
  have HGL := Lib.hid hgl
  clear e0 e1 e2 e3 e4 e5 e6 e7 e8 e9 hgl
  go_loopw [80] (fun i wr => (i = .int .i64 0 ∧ wr = w3) ∨ (i = .int .i64 1 ∧ Hid (Below w3.heap.size w3 wr))) (fun i _ => 2 - (intOf i).toNat)
  case atStart => exact .inl ⟨rfl, by first | rfl | trivial⟩
  case round =>
    rcases hrel with ⟨rfl, rfl⟩ | ⟨rfl, Hb⟩
    · have BR := Lib.hid B3.out
      have U3 := T3
      have U4 := T4
      have BQ := Lib.hid (Below.refl wr.heap.size wr)
      have e0 := E0.out
      have e1 := E1.out
      have e2 := E2.out
      have e3 := E3.out
      have e4 := E4.out
      have hgl := HGL.out
      obtain ⟨y0, y1, y2, y3, y4⟩ := cell5 U3.out
      have hlt := U3.out.lt
      go_wp2_with fail
      have bq : Below wr.heap.size wr (wr.alloc (.cells #[.int .i64 (V.ma), .int .i64 (V.mi), .int .i64 (V.pa), .slice none 0 0, .slice none 0 0] 24)) := (Below.refl _ _).alloc (Nat.le_refl _) _
      have r1 := BR.out.trans (bq.mono BR.out.size)
      have r2 := BQ.out.trans (bq.mono BQ.out.size)
      have v3 := U3.out.below bq
      have v4 := U4.out.below bq
      have vn := BlockAt.new wr #[.int .i64 (V.ma), .int .i64 (V.mi), .int .i64 (V.pa), .slice none 0 0, .slice none 0 0] 24
      clear bq y0 y1 y2 y3 y4 hlt e0 e1 e2 e3 e4 hgl
      generalize wr.alloc (.cells #[.int .i64 (V.ma), .int .i64 (V.mi), .int .i64 (V.pa), .slice none 0 0, .slice none 0 0] 24) = w5 at *
      have R1 := Lib.hid r1
      have R2 := Lib.hid r2
      have V3 := Lib.hid v3
      have V4 := Lib.hid v4
      have VN := Lib.hid vn
      clear r1 r2 v3 v4 vn
      refine (S0.out w5 R1.out).mono ?_
      rintro e w6 ⟨rfl, bb⟩
      have R3 := Lib.hid (R1.out.trans (bb.mono R1.out.size))
      have R4 := Lib.hid (R2.out.trans (bb.mono R2.out.size))
      have V5 := Lib.hid (V4.out.below bb)
      have V6 := Lib.hid (VN.out.below bb)
      clear bb
      go_wp2_with fail
      go_roundw
      case rel => first | exact .inr ⟨by go_num, R4⟩ | ((repeat apply Exists.intro); exact ⟨.inr ⟨by go_num, R4⟩, rfl⟩)
      case measure => simp [intOf]
    · have BR := Lib.hid (B3.out.trans (Hb.out.mono B3.out.size))
      have U3 := Lib.hid (T3.out.below Hb.out)
      have U4 := Lib.hid (T4.out.below Hb.out)
      have BQ := Hb
      have e0 := (Hb.out.cell (p := ⟨g, 5, none⟩) HGL.out).trans E5.out
      have e1 := (Hb.out.cell (p := ⟨g, 6, none⟩) HGL.out).trans E6.out
      have e2 := (Hb.out.cell (p := ⟨g, 7, none⟩) HGL.out).trans E7.out
      have e3 := (Hb.out.cell (p := ⟨g, 8, none⟩) HGL.out).trans E8.out
      have e4 := (Hb.out.cell (p := ⟨g, 9, none⟩) HGL.out).trans E9.out
      have hgl : g < wr.heap.size := Nat.lt_of_lt_of_le HGL.out Hb.out.size
      obtain ⟨y0, y1, y2, y3, y4⟩ := cell5 U3.out
      have hlt := U3.out.lt
      go_wp2_with fail
      have bq : Below wr.heap.size wr (wr.alloc (.cells #[.int .i64 (V.ma), .int .i64 (V.mi + 1), .int .i64 (0), .slice none 0 0, .slice none 0 0] 24)) := (Below.refl _ _).alloc (Nat.le_refl _) _
      have r1 := BR.out.trans (bq.mono BR.out.size)
      have r2 := BQ.out.trans (bq.mono BQ.out.size)
      have v3 := U3.out.below bq
      have v4 := U4.out.below bq
      have vn := BlockAt.new wr #[.int .i64 (V.ma), .int .i64 (V.mi + 1), .int .i64 (0), .slice none 0 0, .slice none 0 0] 24
      clear bq y0 y1 y2 y3 y4 hlt e0 e1 e2 e3 e4 hgl
      generalize wr.alloc (.cells #[.int .i64 (V.ma), .int .i64 (V.mi + 1), .int .i64 (0), .slice none 0 0, .slice none 0 0] 24) = w5 at *
      have R1 := Lib.hid r1
      have R2 := Lib.hid r2
      have V3 := Lib.hid v3
      have V4 := Lib.hid v4
      have VN := Lib.hid vn
      clear r1 r2 v3 v4 vn
      refine (S1.out w5 R1.out).mono ?_
      rintro e w6 ⟨rfl, bb⟩
      have R3 := Lib.hid (R1.out.trans (bb.mono R1.out.size))
      have R4 := Lib.hid (R2.out.trans (bb.mono R2.out.size))
      have V5 := Lib.hid (V4.out.below bb)
      have V6 := Lib.hid (VN.out.below bb)
      clear bb
      obtain ⟨n0, n1, n2, n3, n4⟩ := cell5 V6.out
      obtain ⟨g0, g1, g2, g3, g4, g5⟩ := cell6 V5.out
      have f0 := V5.out.free 0
      have f1 := V5.out.free 1
      have f2 := V5.out.free 2
      have f3 := V5.out.free 3
      have f4 := V5.out.free 4
      have f5 := V5.out.free 5
      go_wp2_with fail
      refine bodyPost_ret (v := .agg #[.int .i64 (V.ma), .int .i64 (V.mi + 1), .int .i64 (0), .slice none 0 0, .slice none 0 0, .int .i64 0]) (by simp [results, Tryd.results15, go_sem, g0, g1, g2, g3, g4, g5, f0, f1, f2, f3, f4, f5]) rfl ⟨rfl, ?_⟩
      have hlw := HZ.out.1
      exact (((((R3.out.setCell (by simp; omega) _).setCell (by simp; omega) _).setCell (by simp; omega) _).setCell (by simp; omega) _).setCell (by simp; omega) _).setCell (by simp; omega) _
set_option maxHeartbeats 16000000 in
set_option maxRecDepth 100000 in
theorem refnext_1ot (V : Vr) (po bo : Option Addr) (pc bc : Nat) (w : World) (hV : VerC w po bo V) (hr : rightB V = true) (hm : V.mi = bigM) (hS0 : ∀ w', Below w.heap.size w w' → Calls Tryd.prog 34 #[verV ⟨V.ma, V.mi, V.pa, [], []⟩ none 0 none 0, verV V po pc bo bc, .int .i64 1] w' fun e w2 => e = .returned (.bool true) ∧ Below w'.heap.size w' w2)  :
    Calls Tryd.prog 15 #[verV V po pc bo bc, .int .i64 1] w fun e w' => e = .returned (refRes (some ⟨V.ma, V.mi, V.pa, [], []⟩)) ∧ Below w.heap.size w w' := by
  have hN := hV.nums
  obtain ⟨i0, hi, hz0, hz1, hz2⟩ := info_parts info_ver
  have hm0 : V.mi = 9223372036854775807 := hm
  have hm2 : decide (V.mi < 9223372036854775807) = false := decide_eq_false (by omega)
  have hm3 : ¬ V.mi < 9223372036854775807 := by omega
  have HM := Lib.hid hm0
  clear hm hm0
  have S0 := Lib.hid hS0
  obtain ⟨wa, ha⟩ : ∃ wa, w.alloc (.cells #[.int .i64 V.ma, .int .i64 V.mi, .int .i64 V.pa, .slice po V.pre.length pc, .slice bo V.build.length bc] 24) = wa := ⟨_, rfl⟩
  obtain ⟨wb, hb⟩ : ∃ wb, wa.alloc (.cells #[.int .i64 0, .int .i64 0, .int .i64 0, .slice none 0 0, .slice none 0 0, .int .i64 0] 29) = wb := ⟨_, rfl⟩
  obtain ⟨w2, hw2⟩ : ∃ w2, wb.alloc (.cells #[.int .i64 V.ma, .int .i64 V.mi, .int .i64 V.pa, .slice none 0 0, .slice none 0 0] 24) = w2 := ⟨_, rfl⟩
  obtain ⟨k1', q1, z1⟩ := box_new ha
  obtain ⟨k2', q2, z2⟩ := box_new hb
  obtain ⟨k3', q3, z3⟩ := box_new hw2
  have BW := Lib.hid (q1.trans (q2.mono q1.size))
  have HZ := Lib.hid (And.intro z1 z2)
  have K1 := Lib.hid (k1'.below q2)
  have K2 := Lib.hid k2'
  have own := Lib.hid (own_one hw2)
  have Q3 := Lib.hid q3
  have BB2 := Lib.hid (BW.out.trans (q3.mono BW.out.size))
  have T1 := Lib.hid (K1.out.below q3)
  have T2 := Lib.hid (K2.out.below q3)
  have o0 := k3'.cell 0
  have o1 := k3'.cell 1
  have o2 := k3'.cell 2
  have o3 := k3'.cell 3
  have o4 := k3'.cell 4
  simp at o0 o1 o2 o3 o4
  obtain ⟨x0, x1, x2, x3, x4⟩ := cell5 K1.out
  obtain ⟨y0, y1, y2, y3, y4⟩ := cell5 T1.out
  have hlt := T1.out.lt
  unfold verV at *
  simp only [List.length_nil] at *
  clear hS0 hV hr k1' k2' k3' q1 q2 q3 z1 z2 z3
  go_enter Tryd.func15, Tryd.ntmps15
  go_wp2_with fail
  clear x0 x1 x2 x3 x4 ha hb hw2
  obtain ⟨g, hgd⟩ : ∃ g, wb.heap.size = g := ⟨_, rfl⟩
  have hgl : g < w2.heap.size := by have := Q3.out.size; have h := cell_lt0 o0; omega
  rw [hgd] at o0 o1 o2 o3 o4 ⊢
  have B3 := BB2
  have T3 := T1
  have T4 := T2
  have e0 := o0
  have e1 := o1
  have e2 := o2
  have e3 := o3
  have e4 := o4
  clear o0 o1 o2 o3 o4 hlt BB2 T1 T2 hgd
  clear y0 y1 y2 y3 y4
  have E0 := Lib.hid e0
  have E1 := Lib.hid e1
  have E2 := Lib.hid e2
  have E3 := Lib.hid e3
  have E4 := Lib.hid e4
  have HGL := Lib.hid hgl
  clear e0 e1 e2 e3 e4 hgl
  go_loopw [80] (fun i wr => (i = .int .i64 0 ∧ wr = w2) ∨ (i = .int .i64 1 ∧ False)) (fun i _ => 1 - (intOf i).toNat)
  case atStart => exact .inl ⟨rfl, by first | rfl | trivial⟩
  case round =>
    rcases hrel with ⟨rfl, rfl⟩ | ⟨rfl, Hb⟩
    · have BR := Lib.hid B3.out
      have U3 := T3
      have U4 := T4
      have BQ := Lib.hid (Below.refl wr.heap.size wr)
      have e0 := E0.out
      have e1 := E1.out
      have e2 := E2.out
      have e3 := E3.out
      have e4 := E4.out
      have hgl := HGL.out
      obtain ⟨y0, y1, y2, y3, y4⟩ := cell5 U3.out
      have hlt := U3.out.lt
      go_wp2_with fail
      have bq : Below wr.heap.size wr (wr.alloc (.cells #[.int .i64 (V.ma), .int .i64 (V.mi), .int .i64 (V.pa), .slice none 0 0, .slice none 0 0] 24)) := (Below.refl _ _).alloc (Nat.le_refl _) _
      have r1 := BR.out.trans (bq.mono BR.out.size)
      have r2 := BQ.out.trans (bq.mono BQ.out.size)
      have v3 := U3.out.below bq
      have v4 := U4.out.below bq
      have vn := BlockAt.new wr #[.int .i64 (V.ma), .int .i64 (V.mi), .int .i64 (V.pa), .slice none 0 0, .slice none 0 0] 24
      clear bq y0 y1 y2 y3 y4 hlt e0 e1 e2 e3 e4 hgl
      generalize wr.alloc (.cells #[.int .i64 (V.ma), .int .i64 (V.mi), .int .i64 (V.pa), .slice none 0 0, .slice none 0 0] 24) = w5 at *
      have R1 := Lib.hid r1
      have R2 := Lib.hid r2
      have V3 := Lib.hid v3
      have V4 := Lib.hid v4
      have VN := Lib.hid vn
      clear r1 r2 v3 v4 vn
      refine (S0.out w5 R1.out).mono ?_
      rintro e w6 ⟨rfl, bb⟩
      have R3 := Lib.hid (R1.out.trans (bb.mono R1.out.size))
      have R4 := Lib.hid (R2.out.trans (bb.mono R2.out.size))
      have V5 := Lib.hid (V4.out.below bb)
      have V6 := Lib.hid (VN.out.below bb)
      clear bb
      obtain ⟨n0, n1, n2, n3, n4⟩ := cell5 V6.out
      obtain ⟨g0, g1, g2, g3, g4, g5⟩ := cell6 V5.out
      have f0 := V5.out.free 0
      have f1 := V5.out.free 1
      have f2 := V5.out.free 2
      have f3 := V5.out.free 3
      have f4 := V5.out.free 4
      have f5 := V5.out.free 5
      go_wp2_with fail
      refine bodyPost_ret (v := .agg #[.int .i64 (V.ma), .int .i64 (V.mi), .int .i64 (V.pa), .slice none 0 0, .slice none 0 0, .int .i64 0]) (by simp [results, Tryd.results15, go_sem, g0, g1, g2, g3, g4, g5, f0, f1, f2, f3, f4, f5]) rfl ⟨rfl, ?_⟩
      have hlw := HZ.out.1
      exact (((((R3.out.setCell (by simp; omega) _).setCell (by simp; omega) _).setCell (by simp; omega) _).setCell (by simp; omega) _).setCell (by simp; omega) _).setCell (by simp; omega) _
    · exact Hb.elim
set_option maxHeartbeats 16000000 in
set_option maxRecDepth 100000 in
theorem refnext_1of (V : Vr) (po bo : Option Addr) (pc bc : Nat) (w : World) (hV : VerC w po bo V) (hr : rightB V = true) (hm : V.mi = bigM) (hS0 : ∀ w', Below w.heap.size w w' → Calls Tryd.prog 34 #[verV ⟨V.ma, V.mi, V.pa, [], []⟩ none 0 none 0, verV V po pc bo bc, .int .i64 1] w' fun e w2 => e = .returned (.bool false) ∧ Below w'.heap.size w' w2)  :
    Calls Tryd.prog 15 #[verV V po pc bo bc, .int .i64 1] w fun e w' => e = .returned (refRes none) ∧ Below w.heap.size w w' := by
  have hN := hV.nums
  obtain ⟨i0, hi, hz0, hz1, hz2⟩ := info_parts info_ver
  have hm0 : V.mi = 9223372036854775807 := hm
  have hm2 : decide (V.mi < 9223372036854775807) = false := decide_eq_false (by omega)
  have hm3 : ¬ V.mi < 9223372036854775807 := by omega
  have HM := Lib.hid hm0
  clear hm hm0
  have S0 := Lib.hid hS0
  obtain ⟨wa, ha⟩ : ∃ wa, w.alloc (.cells #[.int .i64 V.ma, .int .i64 V.mi, .int .i64 V.pa, .slice po V.pre.length pc, .slice bo V.build.length bc] 24) = wa := ⟨_, rfl⟩
  obtain ⟨wb, hb⟩ : ∃ wb, wa.alloc (.cells #[.int .i64 0, .int .i64 0, .int .i64 0, .slice none 0 0, .slice none 0 0, .int .i64 0] 29) = wb := ⟨_, rfl⟩
  obtain ⟨w2, hw2⟩ : ∃ w2, wb.alloc (.cells #[.int .i64 V.ma, .int .i64 V.mi, .int .i64 V.pa, .slice none 0 0, .slice none 0 0] 24) = w2 := ⟨_, rfl⟩
  obtain ⟨k1', q1, z1⟩ := box_new ha
  obtain ⟨k2', q2, z2⟩ := box_new hb
  obtain ⟨k3', q3, z3⟩ := box_new hw2
  have BW := Lib.hid (q1.trans (q2.mono q1.size))
  have HZ := Lib.hid (And.intro z1 z2)
  have K1 := Lib.hid (k1'.below q2)
  have K2 := Lib.hid k2'
  have own := Lib.hid (own_one hw2)
  have Q3 := Lib.hid q3
  have BB2 := Lib.hid (BW.out.trans (q3.mono BW.out.size))
  have T1 := Lib.hid (K1.out.below q3)
  have T2 := Lib.hid (K2.out.below q3)
  have o0 := k3'.cell 0
  have o1 := k3'.cell 1
  have o2 := k3'.cell 2
  have o3 := k3'.cell 3
  have o4 := k3'.cell 4
  simp at o0 o1 o2 o3 o4
  obtain ⟨x0, x1, x2, x3, x4⟩ := cell5 K1.out
  obtain ⟨y0, y1, y2, y3, y4⟩ := cell5 T1.out
  have hlt := T1.out.lt
  unfold verV at *
  simp only [List.length_nil] at *
  clear hS0 hV hr k1' k2' k3' q1 q2 q3 z1 z2 z3
  go_enter Tryd.func15, Tryd.ntmps15
  go_wp2_with fail
  clear x0 x1 x2 x3 x4 ha hb hw2
  obtain ⟨g, hgd⟩ : ∃ g, wb.heap.size = g := ⟨_, rfl⟩
  have hgl : g < w2.heap.size := by have := Q3.out.size; have h := cell_lt0 o0; omega
  rw [hgd] at o0 o1 o2 o3 o4 ⊢
  have B3 := BB2
  have T3 := T1
  have T4 := T2
  have e0 := o0
  have e1 := o1
  have e2 := o2
  have e3 := o3
  have e4 := o4
  clear o0 o1 o2 o3 o4 hlt BB2 T1 T2 hgd
  clear y0 y1 y2 y3 y4
  have E0 := Lib.hid e0
  have E1 := Lib.hid e1
  have E2 := Lib.hid e2
  have E3 := Lib.hid e3
  have E4 := Lib.hid e4
  have HGL := Lib.hid hgl
  clear e0 e1 e2 e3 e4 hgl
  go_loopw [80] (fun i wr => (i = .int .i64 0 ∧ wr = w2) ∨ (i = .int .i64 1 ∧ Hid (Below w2.heap.size w2 wr))) (fun i _ => 1 - (intOf i).toNat)
  case atStart => exact .inl ⟨rfl, by first | rfl | trivial⟩
  case round =>
    rcases hrel with ⟨rfl, rfl⟩ | ⟨rfl, Hb⟩
    · have BR := Lib.hid B3.out
      have U3 := T3
      have U4 := T4
      have BQ := Lib.hid (Below.refl wr.heap.size wr)
      have e0 := E0.out
      have e1 := E1.out
      have e2 := E2.out
      have e3 := E3.out
      have e4 := E4.out
      have hgl := HGL.out
      obtain ⟨y0, y1, y2, y3, y4⟩ := cell5 U3.out
      have hlt := U3.out.lt
      go_wp2_with fail
      have bq : Below wr.heap.size wr (wr.alloc (.cells #[.int .i64 (V.ma), .int .i64 (V.mi), .int .i64 (V.pa), .slice none 0 0, .slice none 0 0] 24)) := (Below.refl _ _).alloc (Nat.le_refl _) _
      have r1 := BR.out.trans (bq.mono BR.out.size)
      have r2 := BQ.out.trans (bq.mono BQ.out.size)
      have v3 := U3.out.below bq
      have v4 := U4.out.below bq
      have vn := BlockAt.new wr #[.int .i64 (V.ma), .int .i64 (V.mi), .int .i64 (V.pa), .slice none 0 0, .slice none 0 0] 24
      clear bq y0 y1 y2 y3 y4 hlt e0 e1 e2 e3 e4 hgl
      generalize wr.alloc (.cells #[.int .i64 (V.ma), .int .i64 (V.mi), .int .i64 (V.pa), .slice none 0 0, .slice none 0 0] 24) = w5 at *
      have R1 := Lib.hid r1
      have R2 := Lib.hid r2
      have V3 := Lib.hid v3
      have V4 := Lib.hid v4
      have VN := Lib.hid vn
      clear r1 r2 v3 v4 vn
      refine (S0.out w5 R1.out).mono ?_
      rintro e w6 ⟨rfl, bb⟩
      have R3 := Lib.hid (R1.out.trans (bb.mono R1.out.size))
      have R4 := Lib.hid (R2.out.trans (bb.mono R2.out.size))
      have V5 := Lib.hid (V4.out.below bb)
      have V6 := Lib.hid (VN.out.below bb)
      clear bb
      go_wp2_with fail
      go_roundw
      case rel => first | exact .inr ⟨by go_num, R4⟩ | ((repeat apply Exists.intro); exact ⟨.inr ⟨by go_num, R4⟩, rfl⟩)
      case measure => simp [intOf]
    · have BR := Lib.hid (B3.out.trans (Hb.out.mono B3.out.size))
      have U4 := Lib.hid (T4.out.below Hb.out)
      obtain ⟨g0, g1, g2, g3, g4, g5⟩ := cell6 U4.out
      have f0 := U4.out.free 0
      have f1 := U4.out.free 1
      have f2 := U4.out.free 2
      have f3 := U4.out.free 3
      have f4 := U4.out.free 4
      have f5 := U4.out.free 5
      go_wp2_with fail
      refine bodyPost_ret (v := .agg #[.int .i64 0, .int .i64 0, .int .i64 0, .slice none 0 0, .slice none 0 0, .int .i64 2]) (by simp [results, Tryd.results15, go_sem, g0, g1, g2, g3, g4, g5, f0, f1, f2, f3, f4, f5]) rfl ⟨rfl, ?_⟩
      have hlw := HZ.out.1
      exact (((((BR.out.setCell (by simp; omega) _).setCell (by simp; omega) _).setCell (by simp; omega) _).setCell (by simp; omega) _).setCell (by simp; omega) _).setCell (by simp; omega) _
set_option maxHeartbeats 16000000 in
set_option maxRecDepth 100000 in
theorem refnext_zrt (V : Vr) (c : Int) (po bo : Option Addr) (pc bc : Nat) (w : World) (hV : VerC w po bo V) (hr : rightB V = true) (hc2 : 2 ≤ c) (hc3 : c ≤ 3) (hma : V.ma = 0) (hm : V.mi ≠ bigM) (hS0 : ∀ w', Below w.heap.size w w' → Calls Tryd.prog 34 #[verV ⟨V.ma, V.mi, V.pa, [], []⟩ none 0 none 0, verV V po pc bo bc, .int .i64 c] w' fun e w2 => e = .returned (.bool true) ∧ Below w'.heap.size w' w2)  :
    Calls Tryd.prog 15 #[verV V po pc bo bc, .int .i64 c] w fun e w' => e = .returned (refRes (some ⟨V.ma, V.mi, V.pa, [], []⟩)) ∧ Below w.heap.size w w' := by
  have hN := hV.nums
  obtain ⟨i0, hi, hz0, hz1, hz2⟩ := info_parts info_ver
  have hm0 : V.mi ≠ 9223372036854775807 := hm
  have hm1 : V.mi < 9223372036854775807 := by omega
  have hm2 : decide (V.mi < 9223372036854775807) = true := decide_eq_true hm1
  clear hm hm0
  have k1 : (c == 1) = false := by rw [beq_eq_false_iff_ne]; omega
  have k0 : (c == 0) = false := by rw [beq_eq_false_iff_ne]; omega
  have k2 : decide (0 < c) = true := decide_eq_true (by omega)
  have k3 : decide (1 < c) = true := decide_eq_true (by omega)
  have k4 : 0 < c := by omega
  have k5 : 1 < c := by omega
  have m1 : (V.ma == 0) = true := by rw [beq_iff_eq]; exact hma
  have m2 : decide (0 < V.ma) = false := decide_eq_false (by omega)
  have m3 : ¬ 0 < V.ma := by omega
  clear hma
  have S0 := Lib.hid hS0
  obtain ⟨wa, ha⟩ : ∃ wa, w.alloc (.cells #[.int .i64 V.ma, .int .i64 V.mi, .int .i64 V.pa, .slice po V.pre.length pc, .slice bo V.build.length bc] 24) = wa := ⟨_, rfl⟩
  obtain ⟨wb, hb⟩ : ∃ wb, wa.alloc (.cells #[.int .i64 0, .int .i64 0, .int .i64 0, .slice none 0 0, .slice none 0 0, .int .i64 0] 29) = wb := ⟨_, rfl⟩
  obtain ⟨w2, hw2⟩ : ∃ w2, wb.alloc (.cells #[.int .i64 V.ma, .int .i64 V.mi, .int .i64 V.pa, .slice none 0 0, .slice none 0 0] 24) = w2 := ⟨_, rfl⟩
  obtain ⟨k1', q1, z1⟩ := box_new ha
  obtain ⟨k2', q2, z2⟩ := box_new hb
  obtain ⟨k3', q3, z3⟩ := box_new hw2
  have BW := Lib.hid (q1.trans (q2.mono q1.size))
  have HZ := Lib.hid (And.intro z1 z2)
  have K1 := Lib.hid (k1'.below q2)
  have K2 := Lib.hid k2'
  have own := Lib.hid (own_one hw2)
  have Q3 := Lib.hid q3
  have BB2 := Lib.hid (BW.out.trans (q3.mono BW.out.size))
  have T1 := Lib.hid (K1.out.below q3)
  have T2 := Lib.hid (K2.out.below q3)
  have o0 := k3'.cell 0
  have o1 := k3'.cell 1
  have o2 := k3'.cell 2
  have o3 := k3'.cell 3
  have o4 := k3'.cell 4
  simp at o0 o1 o2 o3 o4
  obtain ⟨x0, x1, x2, x3, x4⟩ := cell5 K1.out
  obtain ⟨y0, y1, y2, y3, y4⟩ := cell5 T1.out
  have hlt := T1.out.lt
  unfold verV at *
  simp only [List.length_nil] at *
  clear hS0 hV hr k1' k2' k3' q1 q2 q3 z1 z2 z3
  go_enter Tryd.func15, Tryd.ntmps15
  go_wp2_with (at_builtin; refine wpList_append_own_at _ rfl _ _ 61 rfl wb.heap.size 24 i0 (.agg #[.int .i64 0, .int .i64 0, .int .i64 0, .slice none 0 0, .slice none 0 0]) 5 72 Tryd.underlying61 hi hz0 hz1 hz2 rfl (by decide) _ 1 (relC V.ma V.mi V.pa) rfl (own.out.alloc _) ⟨w2.heap.size, 0, none⟩ 1 1 (relC (V.ma) (V.mi + 1) (0)) rfl ?c1 ?c2 ?c3 ?c4 ?c5 ?c6 ?_)
  try (case c1 => rfl)
  try (case c2 => first | exact cell_newV _ _ _ _ _ | (intro j u hu; unfold relC at hu; simpa using hu))
  try (case c3 => exact relC_one _ _ _)
  try (case c4 => unfold maxLen; omega)
  try (case c5 => omega)
  try (case c6 => have := Q3.out.size; simp; omega)
  intro v' w3 hown3 hgrow _ hblk
  have b3 : Below wb.heap.size wb w3 := own_pushV own.out Q3.out hgrow
  obtain ⟨g, cap, rfl, hg1, hg2, hgc⟩ := own_cells hown3 (by decide)
  have B3 := Lib.hid (BW.out.trans (b3.mono BW.out.size))
  have T3 := Lib.hid (K1.out.below b3)
  have T4 := Lib.hid (K2.out.below b3)
  have e0 := hgc 0 (by simp [relC])
  have e1 := hgc 1 (by simp [relC])
  have e2 := hgc 2 (by simp [relC])
  have e3 := hgc 3 (by simp [relC])
  have e4 := hgc 4 (by simp [relC])
  have e5 := hgc 5 (by simp [relC])
  have e6 := hgc 6 (by simp [relC])
  have e7 := hgc 7 (by simp [relC])
  have e8 := hgc 8 (by simp [relC])
  have e9 := hgc 9 (by simp [relC])
  simp only [relC, List.cons_append, List.nil_append, List.getElem_cons_zero, List.getElem_cons_succ] at e0 e1 e2 e3 e4 e5 e6 e7 e8 e9
  clear hown3 hgrow hblk b3 hgc o0 o1 o2 o3 o4 x0 x1 x2 x3 x4 y0 y1 y2 y3 y4 hlt T1 T2 BB2 hw2 ha hb
  have hgl := hg2
  obtain ⟨y0, y1, y2, y3, y4⟩ := cell5 T3.out
  go_wp2_with fail
  clear y0 y1 y2 y3 y4
  have E0 := Lib.hid e0
  have E1 := Lib.hid e1
  have E2 := Lib.hid e2
  have E3 := Lib.hid e3
  have E4 := Lib.hid e4
  have E5 := Lib.hid e5
  have E6 := Lib.hid e6
  have E7 := Lib.hid e7
  have E8 := Lib.hid e8
  have E9 := Lib.hid e9
  have HGL := Lib.hid hgl
  clear e0 e1 e2 e3 e4 e5 e6 e7 e8 e9 hgl
  go_loopw [80] (fun i wr => (i = .int .i64 0 ∧ wr = w3) ∨ (i = .int .i64 1 ∧ False)) (fun i _ => 2 - (intOf i).toNat)
  case atStart => exact .inl ⟨rfl, by first | rfl | trivial⟩
  case round =>
    rcases hrel with ⟨rfl, rfl⟩ | ⟨rfl, Hb⟩
    · have BR := Lib.hid B3.out
      have U3 := T3
      have U4 := T4
      have BQ := Lib.hid (Below.refl wr.heap.size wr)
      have e0 := E0.out
      have e1 := E1.out
      have e2 := E2.out
      have e3 := E3.out
      have e4 := E4.out
      have hgl := HGL.out
      obtain ⟨y0, y1, y2, y3, y4⟩ := cell5 U3.out
      have hlt := U3.out.lt
      go_wp2_with fail
      have bq : Below wr.heap.size wr (wr.alloc (.cells #[.int .i64 (V.ma), .int .i64 (V.mi), .int .i64 (V.pa), .slice none 0 0, .slice none 0 0] 24)) := (Below.refl _ _).alloc (Nat.le_refl _) _
      have r1 := BR.out.trans (bq.mono BR.out.size)
      have r2 := BQ.out.trans (bq.mono BQ.out.size)
      have v3 := U3.out.below bq
      have v4 := U4.out.below bq
      have vn := BlockAt.new wr #[.int .i64 (V.ma), .int .i64 (V.mi), .int .i64 (V.pa), .slice none 0 0, .slice none 0 0] 24
      clear bq y0 y1 y2 y3 y4 hlt e0 e1 e2 e3 e4 hgl
      generalize wr.alloc (.cells #[.int .i64 (V.ma), .int .i64 (V.mi), .int .i64 (V.pa), .slice none 0 0, .slice none 0 0] 24) = w5 at *
      have R1 := Lib.hid r1
      have R2 := Lib.hid r2
      have V3 := Lib.hid v3
      have V4 := Lib.hid v4
      have VN := Lib.hid vn
      clear r1 r2 v3 v4 vn
      refine (S0.out w5 R1.out).mono ?_
      rintro e w6 ⟨rfl, bb⟩
      have R3 := Lib.hid (R1.out.trans (bb.mono R1.out.size))
      have R4 := Lib.hid (R2.out.trans (bb.mono R2.out.size))
      have V5 := Lib.hid (V4.out.below bb)
      have V6 := Lib.hid (VN.out.below bb)
      clear bb
      obtain ⟨n0, n1, n2, n3, n4⟩ := cell5 V6.out
      obtain ⟨g0, g1, g2, g3, g4, g5⟩ := cell6 V5.out
      have f0 := V5.out.free 0
      have f1 := V5.out.free 1
      have f2 := V5.out.free 2
      have f3 := V5.out.free 3
      have f4 := V5.out.free 4
      have f5 := V5.out.free 5
      go_wp2_with fail
      refine bodyPost_ret (v := .agg #[.int .i64 (V.ma), .int .i64 (V.mi), .int .i64 (V.pa), .slice none 0 0, .slice none 0 0, .int .i64 0]) (by simp [results, Tryd.results15, go_sem, g0, g1, g2, g3, g4, g5, f0, f1, f2, f3, f4, f5]) rfl ⟨rfl, ?_⟩
      have hlw := HZ.out.1
      exact (((((R3.out.setCell (by simp; omega) _).setCell (by simp; omega) _).setCell (by simp; omega) _).setCell (by simp; omega) _).setCell (by simp; omega) _).setCell (by simp; omega) _
    · exact Hb.elim
set_option maxHeartbeats 16000000 in
set_option maxRecDepth 100000 in
theorem refnext_zrf (V : Vr) (c : Int) (po bo : Option Addr) (pc bc : Nat) (w : World) (hV : VerC w po bo V) (hr : rightB V = true) (hc2 : 2 ≤ c) (hc3 : c ≤ 3) (hma : V.ma = 0) (hm : V.mi ≠ bigM) (hS0 : ∀ w', Below w.heap.size w w' → Calls Tryd.prog 34 #[verV ⟨V.ma, V.mi, V.pa, [], []⟩ none 0 none 0, verV V po pc bo bc, .int .i64 c] w' fun e w2 => e = .returned (.bool false) ∧ Below w'.heap.size w' w2) (hS1 : ∀ w', Below w.heap.size w w' → Calls Tryd.prog 34 #[verV ⟨V.ma, V.mi + 1, 0, [], []⟩ none 0 none 0, verV V po pc bo bc, .int .i64 c] w' fun e w2 => e = .returned (.bool true) ∧ Below w'.heap.size w' w2) :
    Calls Tryd.prog 15 #[verV V po pc bo bc, .int .i64 c] w fun e w' => e = .returned (refRes (some ⟨V.ma, V.mi + 1, 0, [], []⟩)) ∧ Below w.heap.size w w' := by
  have hN := hV.nums
  obtain ⟨i0, hi, hz0, hz1, hz2⟩ := info_parts info_ver
  have hm0 : V.mi ≠ 9223372036854775807 := hm
  have hm1 : V.mi < 9223372036854775807 := by omega
  have hm2 : decide (V.mi < 9223372036854775807) = true := decide_eq_true hm1
  clear hm hm0
  have k1 : (c == 1) = false := by rw [beq_eq_false_iff_ne]; omega
  have k0 : (c == 0) = false := by rw [beq_eq_false_iff_ne]; omega
  have k2 : decide (0 < c) = true := decide_eq_true (by omega)
  have k3 : decide (1 < c) = true := decide_eq_true (by omega)
  have k4 : 0 < c := by omega
  have k5 : 1 < c := by omega
  have m1 : (V.ma == 0) = true := by rw [beq_iff_eq]; exact hma
  have m2 : decide (0 < V.ma) = false := decide_eq_false (by omega)
  have m3 : ¬ 0 < V.ma := by omega
  clear hma
  have S0 := Lib.hid hS0
  have S1 := Lib.hid hS1
  obtain ⟨wa, ha⟩ : ∃ wa, w.alloc (.cells #[.int .i64 V.ma, .int .i64 V.mi, .int .i64 V.pa, .slice po V.pre.length pc, .slice bo V.build.length bc] 24) = wa := ⟨_, rfl⟩
  obtain ⟨wb, hb⟩ : ∃ wb, wa.alloc (.cells #[.int .i64 0, .int .i64 0, .int .i64 0, .slice none 0 0, .slice none 0 0, .int .i64 0] 29) = wb := ⟨_, rfl⟩
  obtain ⟨w2, hw2⟩ : ∃ w2, wb.alloc (.cells #[.int .i64 V.ma, .int .i64 V.mi, .int .i64 V.pa, .slice none 0 0, .slice none 0 0] 24) = w2 := ⟨_, rfl⟩
  obtain ⟨k1', q1, z1⟩ := box_new ha
  obtain ⟨k2', q2, z2⟩ := box_new hb
  obtain ⟨k3', q3, z3⟩ := box_new hw2
  have BW := Lib.hid (q1.trans (q2.mono q1.size))
  have HZ := Lib.hid (And.intro z1 z2)
  have K1 := Lib.hid (k1'.below q2)
  have K2 := Lib.hid k2'
  have own := Lib.hid (own_one hw2)
  have Q3 := Lib.hid q3
  have BB2 := Lib.hid (BW.out.trans (q3.mono BW.out.size))
  have T1 := Lib.hid (K1.out.below q3)
  have T2 := Lib.hid (K2.out.below q3)
  have o0 := k3'.cell 0
  have o1 := k3'.cell 1
  have o2 := k3'.cell 2
  have o3 := k3'.cell 3
  have o4 := k3'.cell 4
  simp at o0 o1 o2 o3 o4
  obtain ⟨x0, x1, x2, x3, x4⟩ := cell5 K1.out
  obtain ⟨y0, y1, y2, y3, y4⟩ := cell5 T1.out
  have hlt := T1.out.lt
  unfold verV at *
  simp only [List.length_nil] at *
  clear hS0 hS1 hV hr k1' k2' k3' q1 q2 q3 z1 z2 z3
  go_enter Tryd.func15, Tryd.ntmps15
  go_wp2_with (at_builtin; refine wpList_append_own_at _ rfl _ _ 61 rfl wb.heap.size 24 i0 (.agg #[.int .i64 0, .int .i64 0, .int .i64 0, .slice none 0 0, .slice none 0 0]) 5 72 Tryd.underlying61 hi hz0 hz1 hz2 rfl (by decide) _ 1 (relC V.ma V.mi V.pa) rfl (own.out.alloc _) ⟨w2.heap.size, 0, none⟩ 1 1 (relC (V.ma) (V.mi + 1) (0)) rfl ?c1 ?c2 ?c3 ?c4 ?c5 ?c6 ?_)
  try (case c1 => rfl)
  try (case c2 => first | exact cell_newV _ _ _ _ _ | (intro j u hu; unfold relC at hu; simpa using hu))
  try (case c3 => exact relC_one _ _ _)
  try (case c4 => unfold maxLen; omega)
  try (case c5 => omega)
  try (case c6 => have := Q3.out.size; simp; omega)
  intro v' w3 hown3 hgrow _ hblk
  have b3 : Below wb.heap.size wb w3 := own_pushV own.out Q3.out hgrow
  obtain ⟨g, cap, rfl, hg1, hg2, hgc⟩ := own_cells hown3 (by decide)
  have B3 := Lib.hid (BW.out.trans (b3.mono BW.out.size))
  have T3 := Lib.hid (K1.out.below b3)
  have T4 := Lib.hid (K2.out.below b3)
  have e0 := hgc 0 (by simp [relC])
  have e1 := hgc 1 (by simp [relC])
  have e2 := hgc 2 (by simp [relC])
  have e3 := hgc 3 (by simp [relC])
  have e4 := hgc 4 (by simp [relC])
  have e5 := hgc 5 (by simp [relC])
  have e6 := hgc 6 (by simp [relC])
  have e7 := hgc 7 (by simp [relC])
  have e8 := hgc 8 (by simp [relC])
  have e9 := hgc 9 (by simp [relC])
  simp only [relC, List.cons_append, List.nil_append, List.getElem_cons_zero, List.getElem_cons_succ] at e0 e1 e2 e3 e4 e5 e6 e7 e8 e9
  clear hown3 hgrow hblk b3 hgc o0 o1 o2 o3 o4 x0 x1 x2 x3 x4 y0 y1 y2 y3 y4 hlt T1 T2 BB2 hw2 ha hb
  have hgl := hg2
  obtain ⟨y0, y1, y2, y3, y4⟩ := cell5 T3.out
  go_wp2_with fail
  clear y0 y1 y2 y3 y4
  have E0 := Lib.hid e0
  have E1 := Lib.hid e1
  have E2 := Lib.hid e2
  have E3 := Lib.hid e3
  have E4 := Lib.hid e4
  have E5 := Lib.hid e5
  have E6 := Lib.hid e6
  have E7 := Lib.hid e7
  have E8 := Lib.hid e8
  have E9 := Lib.hid e9
  have HGL := Lib.hid hgl
  clear e0 e1 e2 e3 e4 e5 e6 e7 e8 e9 hgl
  go_loopw [80] (fun i wr => (i = .int .i64 0 ∧ wr = w3) ∨ (i = .int .i64 1 ∧ Hid (Below w3.heap.size w3 wr))) (fun i _ => 2 - (intOf i).toNat)
  case atStart => exact .inl ⟨rfl, by first | rfl | trivial⟩
  case round =>
    rcases hrel with ⟨rfl, rfl⟩ | ⟨rfl, Hb⟩
    · have BR := Lib.hid B3.out
      have U3 := T3
      have U4 := T4
      have BQ := Lib.hid (Below.refl wr.heap.size wr)
      have e0 := E0.out
      have e1 := E1.out
      have e2 := E2.out
      have e3 := E3.out
      have e4 := E4.out
      have hgl := HGL.out
      obtain ⟨y0, y1, y2, y3, y4⟩ := cell5 U3.out
      have hlt := U3.out.lt
      go_wp2_with fail
      have bq : Below wr.heap.size wr (wr.alloc (.cells #[.int .i64 (V.ma), .int .i64 (V.mi), .int .i64 (V.pa), .slice none 0 0, .slice none 0 0] 24)) := (Below.refl _ _).alloc (Nat.le_refl _) _
      have r1 := BR.out.trans (bq.mono BR.out.size)
      have r2 := BQ.out.trans (bq.mono BQ.out.size)
      have v3 := U3.out.below bq
      have v4 := U4.out.below bq
      have vn := BlockAt.new wr #[.int .i64 (V.ma), .int .i64 (V.mi), .int .i64 (V.pa), .slice none 0 0, .slice none 0 0] 24
      clear bq y0 y1 y2 y3 y4 hlt e0 e1 e2 e3 e4 hgl
      generalize wr.alloc (.cells #[.int .i64 (V.ma), .int .i64 (V.mi), .int .i64 (V.pa), .slice none 0 0, .slice none 0 0] 24) = w5 at *
      have R1 := Lib.hid r1
      have R2 := Lib.hid r2
      have V3 := Lib.hid v3
      have V4 := Lib.hid v4
      have VN := Lib.hid vn
      clear r1 r2 v3 v4 vn
      refine (S0.out w5 R1.out).mono ?_
      rintro e w6 ⟨rfl, bb⟩
      have R3 := Lib.hid (R1.out.trans (bb.mono R1.out.size))
      have R4 := Lib.hid (R2.out.trans (bb.mono R2.out.size))
      have V5 := Lib.hid (V4.out.below bb)
      have V6 := Lib.hid (VN.out.below bb)
      clear bb
      go_wp2_with fail
      go_roundw
      case rel => first | exact .inr ⟨by go_num, R4⟩ | ((repeat apply Exists.intro); exact ⟨.inr ⟨by go_num, R4⟩, rfl⟩)
      case measure => simp [intOf]
    · have BR := Lib.hid (B3.out.trans (Hb.out.mono B3.out.size))
      have U3 := Lib.hid (T3.out.below Hb.out)
      have U4 := Lib.hid (T4.out.below Hb.out)
      have BQ := Hb
      have e0 := (Hb.out.cell (p := ⟨g, 5, none⟩) HGL.out).trans E5.out
      have e1 := (Hb.out.cell (p := ⟨g, 6, none⟩) HGL.out).trans E6.out
      have e2 := (Hb.out.cell (p := ⟨g, 7, none⟩) HGL.out).trans E7.out
      have e3 := (Hb.out.cell (p := ⟨g, 8, none⟩) HGL.out).trans E8.out
      have e4 := (Hb.out.cell (p := ⟨g, 9, none⟩) HGL.out).trans E9.out
      have hgl : g < wr.heap.size := Nat.lt_of_lt_of_le HGL.out Hb.out.size
      obtain ⟨y0, y1, y2, y3, y4⟩ := cell5 U3.out
      have hlt := U3.out.lt
      go_wp2_with fail
      have bq : Below wr.heap.size wr (wr.alloc (.cells #[.int .i64 (V.ma), .int .i64 (V.mi + 1), .int .i64 (0), .slice none 0 0, .slice none 0 0] 24)) := (Below.refl _ _).alloc (Nat.le_refl _) _
      have r1 := BR.out.trans (bq.mono BR.out.size)
      have r2 := BQ.out.trans (bq.mono BQ.out.size)
      have v3 := U3.out.below bq
      have v4 := U4.out.below bq
      have vn := BlockAt.new wr #[.int .i64 (V.ma), .int .i64 (V.mi + 1), .int .i64 (0), .slice none 0 0, .slice none 0 0] 24
      clear bq y0 y1 y2 y3 y4 hlt e0 e1 e2 e3 e4 hgl
      generalize wr.alloc (.cells #[.int .i64 (V.ma), .int .i64 (V.mi + 1), .int .i64 (0), .slice none 0 0, .slice none 0 0] 24) = w5 at *
      have R1 := Lib.hid r1
      have R2 := Lib.hid r2
      have V3 := Lib.hid v3
      have V4 := Lib.hid v4
      have VN := Lib.hid vn
      clear r1 r2 v3 v4 vn
      refine (S1.out w5 R1.out).mono ?_
      rintro e w6 ⟨rfl, bb⟩
      have R3 := Lib.hid (R1.out.trans (bb.mono R1.out.size))
      have R4 := Lib.hid (R2.out.trans (bb.mono R2.out.size))
      have V5 := Lib.hid (V4.out.below bb)
      have V6 := Lib.hid (VN.out.below bb)
      clear bb
      obtain ⟨n0, n1, n2, n3, n4⟩ := cell5 V6.out
      obtain ⟨g0, g1, g2, g3, g4, g5⟩ := cell6 V5.out
      have f0 := V5.out.free 0
      have f1 := V5.out.free 1
      have f2 := V5.out.free 2
      have f3 := V5.out.free 3
      have f4 := V5.out.free 4
      have f5 := V5.out.free 5
      go_wp2_with fail
      refine bodyPost_ret (v := .agg #[.int .i64 (V.ma), .int .i64 (V.mi + 1), .int .i64 (0), .slice none 0 0, .slice none 0 0, .int .i64 0]) (by simp [results, Tryd.results15, go_sem, g0, g1, g2, g3, g4, g5, f0, f1, f2, f3, f4, f5]) rfl ⟨rfl, ?_⟩
      have hlw := HZ.out.1
      exact (((((R3.out.setCell (by simp; omega) _).setCell (by simp; omega) _).setCell (by simp; omega) _).setCell (by simp; omega) _).setCell (by simp; omega) _).setCell (by simp; omega) _
set_option maxHeartbeats 16000000 in
set_option maxRecDepth 100000 in
theorem refnext_zot (V : Vr) (c : Int) (po bo : Option Addr) (pc bc : Nat) (w : World) (hV : VerC w po bo V) (hr : rightB V = true) (hc2 : 2 ≤ c) (hc3 : c ≤ 3) (hma : V.ma = 0) (hm : V.mi = bigM) (hS0 : ∀ w', Below w.heap.size w w' → Calls Tryd.prog 34 #[verV ⟨V.ma, V.mi, V.pa, [], []⟩ none 0 none 0, verV V po pc bo bc, .int .i64 c] w' fun e w2 => e = .returned (.bool true) ∧ Below w'.heap.size w' w2)  :
    Calls Tryd.prog 15 #[verV V po pc bo bc, .int .i64 c] w fun e w' => e = .returned (refRes (some ⟨V.ma, V.mi, V.pa, [], []⟩)) ∧ Below w.heap.size w w' := by
  have hN := hV.nums
  obtain ⟨i0, hi, hz0, hz1, hz2⟩ := info_parts info_ver
  have hm0 : V.mi = 9223372036854775807 := hm
  have hm2 : decide (V.mi < 9223372036854775807) = false := decide_eq_false (by omega)
  have hm3 : ¬ V.mi < 9223372036854775807 := by omega
  have HM := Lib.hid hm0
  clear hm hm0
  have k1 : (c == 1) = false := by rw [beq_eq_false_iff_ne]; omega
  have k0 : (c == 0) = false := by rw [beq_eq_false_iff_ne]; omega
  have k2 : decide (0 < c) = true := decide_eq_true (by omega)
  have k3 : decide (1 < c) = true := decide_eq_true (by omega)
  have k4 : 0 < c := by omega
  have k5 : 1 < c := by omega
  have m1 : (V.ma == 0) = true := by rw [beq_iff_eq]; exact hma
  have m2 : decide (0 < V.ma) = false := decide_eq_false (by omega)
  have m3 : ¬ 0 < V.ma := by omega
  clear hma
  have S0 := Lib.hid hS0
  obtain ⟨wa, ha⟩ : ∃ wa, w.alloc (.cells #[.int .i64 V.ma, .int .i64 V.mi, .int .i64 V.pa, .slice po V.pre.length pc, .slice bo V.build.length bc] 24) = wa := ⟨_, rfl⟩
  obtain ⟨wb, hb⟩ : ∃ wb, wa.alloc (.cells #[.int .i64 0, .int .i64 0, .int .i64 0, .slice none 0 0, .slice none 0 0, .int .i64 0] 29) = wb := ⟨_, rfl⟩
  obtain ⟨w2, hw2⟩ : ∃ w2, wb.alloc (.cells #[.int .i64 V.ma, .int .i64 V.mi, .int .i64 V.pa, .slice none 0 0, .slice none 0 0] 24) = w2 := ⟨_, rfl⟩
  obtain ⟨k1', q1, z1⟩ := box_new ha
  obtain ⟨k2', q2, z2⟩ := box_new hb
  obtain ⟨k3', q3, z3⟩ := box_new hw2
  have BW := Lib.hid (q1.trans (q2.mono q1.size))
  have HZ := Lib.hid (And.intro z1 z2)
  have K1 := Lib.hid (k1'.below q2)
  have K2 := Lib.hid k2'
  have own := Lib.hid (own_one hw2)
  have Q3 := Lib.hid q3
  have BB2 := Lib.hid (BW.out.trans (q3.mono BW.out.size))
  have T1 := Lib.hid (K1.out.below q3)
  have T2 := Lib.hid (K2.out.below q3)
  have o0 := k3'.cell 0
  have o1 := k3'.cell 1
  have o2 := k3'.cell 2
  have o3 := k3'.cell 3
  have o4 := k3'.cell 4
  simp at o0 o1 o2 o3 o4
  obtain ⟨x0, x1, x2, x3, x4⟩ := cell5 K1.out
  obtain ⟨y0, y1, y2, y3, y4⟩ := cell5 T1.out
  have hlt := T1.out.lt
  unfold verV at *
  simp only [List.length_nil] at *
  clear hS0 hV hr k1' k2' k3' q1 q2 q3 z1 z2 z3
  go_enter Tryd.func15, Tryd.ntmps15
  go_wp2_with fail
  clear x0 x1 x2 x3 x4 ha hb hw2
  obtain ⟨g, hgd⟩ : ∃ g, wb.heap.size = g := ⟨_, rfl⟩
  have hgl : g < w2.heap.size := by have := Q3.out.size; have h := cell_lt0 o0; omega
  rw [hgd] at o0 o1 o2 o3 o4 ⊢
  have B3 := BB2
  have T3 := T1
  have T4 := T2
  have e0 := o0
  have e1 := o1
  have e2 := o2
  have e3 := o3
  have e4 := o4
  clear o0 o1 o2 o3 o4 hlt BB2 T1 T2 hgd
  clear y0 y1 y2 y3 y4
  have E0 := Lib.hid e0
  have E1 := Lib.hid e1
  have E2 := Lib.hid e2
  have E3 := Lib.hid e3
  have E4 := Lib.hid e4
  have HGL := Lib.hid hgl
  clear e0 e1 e2 e3 e4 hgl
  go_loopw [80] (fun i wr => (i = .int .i64 0 ∧ wr = w2) ∨ (i = .int .i64 1 ∧ False)) (fun i _ => 1 - (intOf i).toNat)
  case atStart => exact .inl ⟨rfl, by first | rfl | trivial⟩
  case round =>
    rcases hrel with ⟨rfl, rfl⟩ | ⟨rfl, Hb⟩
    · have BR := Lib.hid B3.out
      have U3 := T3
      have U4 := T4
      have BQ := Lib.hid (Below.refl wr.heap.size wr)
      have e0 := E0.out
      have e1 := E1.out
      have e2 := E2.out
      have e3 := E3.out
      have e4 := E4.out
      have hgl := HGL.out
      obtain ⟨y0, y1, y2, y3, y4⟩ := cell5 U3.out
      have hlt := U3.out.lt
      go_wp2_with fail
      have bq : Below wr.heap.size wr (wr.alloc (.cells #[.int .i64 (V.ma), .int .i64 (V.mi), .int .i64 (V.pa), .slice none 0 0, .slice none 0 0] 24)) := (Below.refl _ _).alloc (Nat.le_refl _) _
      have r1 := BR.out.trans (bq.mono BR.out.size)
      have r2 := BQ.out.trans (bq.mono BQ.out.size)
      have v3 := U3.out.below bq
      have v4 := U4.out.below bq
      have vn := BlockAt.new wr #[.int .i64 (V.ma), .int .i64 (V.mi), .int .i64 (V.pa), .slice none 0 0, .slice none 0 0] 24
      clear bq y0 y1 y2 y3 y4 hlt e0 e1 e2 e3 e4 hgl
      generalize wr.alloc (.cells #[.int .i64 (V.ma), .int .i64 (V.mi), .int .i64 (V.pa), .slice none 0 0, .slice none 0 0] 24) = w5 at *
      have R1 := Lib.hid r1
      have R2 := Lib.hid r2
      have V3 := Lib.hid v3
      have V4 := Lib.hid v4
      have VN := Lib.hid vn
      clear r1 r2 v3 v4 vn
      refine (S0.out w5 R1.out).mono ?_
      rintro e w6 ⟨rfl, bb⟩
      have R3 := Lib.hid (R1.out.trans (bb.mono R1.out.size))
      have R4 := Lib.hid (R2.out.trans (bb.mono R2.out.size))
      have V5 := Lib.hid (V4.out.below bb)
      have V6 := Lib.hid (VN.out.below bb)
      clear bb
      obtain ⟨n0, n1, n2, n3, n4⟩ := cell5 V6.out
      obtain ⟨g0, g1, g2, g3, g4, g5⟩ := cell6 V5.out
      have f0 := V5.out.free 0
      have f1 := V5.out.free 1
      have f2 := V5.out.free 2
      have f3 := V5.out.free 3
      have f4 := V5.out.free 4
      have f5 := V5.out.free 5
      go_wp2_with fail
      refine bodyPost_ret (v := .agg #[.int .i64 (V.ma), .int .i64 (V.mi), .int .i64 (V.pa), .slice none 0 0, .slice none 0 0, .int .i64 0]) (by simp [results, Tryd.results15, go_sem, g0, g1, g2, g3, g4, g5, f0, f1, f2, f3, f4, f5]) rfl ⟨rfl, ?_⟩
      have hlw := HZ.out.1
      exact (((((R3.out.setCell (by simp; omega) _).setCell (by simp; omega) _).setCell (by simp; omega) _).setCell (by simp; omega) _).setCell (by simp; omega) _).setCell (by simp; omega) _
    · exact Hb.elim
set_option maxHeartbeats 16000000 in
set_option maxRecDepth 100000 in
theorem refnext_zof (V : Vr) (c : Int) (po bo : Option Addr) (pc bc : Nat) (w : World) (hV : VerC w po bo V) (hr : rightB V = true) (hc2 : 2 ≤ c) (hc3 : c ≤ 3) (hma : V.ma = 0) (hm : V.mi = bigM) (hS0 : ∀ w', Below w.heap.size w w' → Calls Tryd.prog 34 #[verV ⟨V.ma, V.mi, V.pa, [], []⟩ none 0 none 0, verV V po pc bo bc, .int .i64 c] w' fun e w2 => e = .returned (.bool false) ∧ Below w'.heap.size w' w2)  :
    Calls Tryd.prog 15 #[verV V po pc bo bc, .int .i64 c] w fun e w' => e = .returned (refRes none) ∧ Below w.heap.size w w' := by
  have hN := hV.nums
  obtain ⟨i0, hi, hz0, hz1, hz2⟩ := info_parts info_ver
  have hm0 : V.mi = 9223372036854775807 := hm
  have hm2 : decide (V.mi < 9223372036854775807) = false := decide_eq_false (by omega)
  have hm3 : ¬ V.mi < 9223372036854775807 := by omega
  have HM := Lib.hid hm0
  clear hm hm0
  have k1 : (c == 1) = false := by rw [beq_eq_false_iff_ne]; omega
  have k0 : (c == 0) = false := by rw [beq_eq_false_iff_ne]; omega
  have k2 : decide (0 < c) = true := decide_eq_true (by omega)
  have k3 : decide (1 < c) = true := decide_eq_true (by omega)
  have k4 : 0 < c := by omega
  have k5 : 1 < c := by omega
  have m1 : (V.ma == 0) = true := by rw [beq_iff_eq]; exact hma
  have m2 : decide (0 < V.ma) = false := decide_eq_false (by omega)
  have m3 : ¬ 0 < V.ma := by omega
  clear hma
  have S0 := Lib.hid hS0
  obtain ⟨wa, ha⟩ : ∃ wa, w.alloc (.cells #[.int .i64 V.ma, .int .i64 V.mi, .int .i64 V.pa, .slice po V.pre.length pc, .slice bo V.build.length bc] 24) = wa := ⟨_, rfl⟩
  obtain ⟨wb, hb⟩ : ∃ wb, wa.alloc (.cells #[.int .i64 0, .int .i64 0, .int .i64 0, .slice none 0 0, .slice none 0 0, .int .i64 0] 29) = wb := ⟨_, rfl⟩
  obtain ⟨w2, hw2⟩ : ∃ w2, wb.alloc (.cells #[.int .i64 V.ma, .int .i64 V.mi, .int .i64 V.pa, .slice none 0 0, .slice none 0 0] 24) = w2 := ⟨_, rfl⟩
  obtain ⟨k1', q1, z1⟩ := box_new ha
  obtain ⟨k2', q2, z2⟩ := box_new hb
  obtain ⟨k3', q3, z3⟩ := box_new hw2
  have BW := Lib.hid (q1.trans (q2.mono q1.size))
  have HZ := Lib.hid (And.intro z1 z2)
  have K1 := Lib.hid (k1'.below q2)
  have K2 := Lib.hid k2'
  have own := Lib.hid (own_one hw2)
  have Q3 := Lib.hid q3
  have BB2 := Lib.hid (BW.out.trans (q3.mono BW.out.size))
  have T1 := Lib.hid (K1.out.below q3)
  have T2 := Lib.hid (K2.out.below q3)
  have o0 := k3'.cell 0
  have o1 := k3'.cell 1
  have o2 := k3'.cell 2
  have o3 := k3'.cell 3
  have o4 := k3'.cell 4
  simp at o0 o1 o2 o3 o4
  obtain ⟨x0, x1, x2, x3, x4⟩ := cell5 K1.out
  obtain ⟨y0, y1, y2, y3, y4⟩ := cell5 T1.out
  have hlt := T1.out.lt
  unfold verV at *
  simp only [List.length_nil] at *
  clear hS0 hV hr k1' k2' k3' q1 q2 q3 z1 z2 z3
  go_enter Tryd.func15, Tryd.ntmps15
  go_wp2_with fail
  clear x0 x1 x2 x3 x4 ha hb hw2
  obtain ⟨g, hgd⟩ : ∃ g, wb.heap.size = g := ⟨_, rfl⟩
  have hgl : g < w2.heap.size := by have := Q3.out.size; have h := cell_lt0 o0; omega
  rw [hgd] at o0 o1 o2 o3 o4 ⊢
  have B3 := BB2
  have T3 := T1
  have T4 := T2
  have e0 := o0
  have e1 := o1
  have e2 := o2
  have e3 := o3
  have e4 := o4
  clear o0 o1 o2 o3 o4 hlt BB2 T1 T2 hgd
  clear y0 y1 y2 y3 y4
  have E0 := Lib.hid e0
  have E1 := Lib.hid e1
  have E2 := Lib.hid e2
  have E3 := Lib.hid e3
  have E4 := Lib.hid e4
  have HGL := Lib.hid hgl
  clear e0 e1 e2 e3 e4 hgl
  go_loopw [80] (fun i wr => (i = .int .i64 0 ∧ wr = w2) ∨ (i = .int .i64 1 ∧ Hid (Below w2.heap.size w2 wr))) (fun i _ => 1 - (intOf i).toNat)
  case atStart => exact .inl ⟨rfl, by first | rfl | trivial⟩
  case round =>
    rcases hrel with ⟨rfl, rfl⟩ | ⟨rfl, Hb⟩
    · have BR := Lib.hid B3.out
      have U3 := T3
      have U4 := T4
      have BQ := Lib.hid (Below.refl wr.heap.size wr)
      have e0 := E0.out
      have e1 := E1.out
      have e2 := E2.out
      have e3 := E3.out
      have e4 := E4.out
      have hgl := HGL.out
      obtain ⟨y0, y1, y2, y3, y4⟩ := cell5 U3.out
      have hlt := U3.out.lt
      go_wp2_with fail
      have bq : Below wr.heap.size wr (wr.alloc (.cells #[.int .i64 (V.ma), .int .i64 (V.mi), .int .i64 (V.pa), .slice none 0 0, .slice none 0 0] 24)) := (Below.refl _ _).alloc (Nat.le_refl _) _
      have r1 := BR.out.trans (bq.mono BR.out.size)
      have r2 := BQ.out.trans (bq.mono BQ.out.size)
      have v3 := U3.out.below bq
      have v4 := U4.out.below bq
      have vn := BlockAt.new wr #[.int .i64 (V.ma), .int .i64 (V.mi), .int .i64 (V.pa), .slice none 0 0, .slice none 0 0] 24
      clear bq y0 y1 y2 y3 y4 hlt e0 e1 e2 e3 e4 hgl
      generalize wr.alloc (.cells #[.int .i64 (V.ma), .int .i64 (V.mi), .int .i64 (V.pa), .slice none 0 0, .slice none 0 0] 24) = w5 at *
      have R1 := Lib.hid r1
      have R2 := Lib.hid r2
      have V3 := Lib.hid v3
      have V4 := Lib.hid v4
      have VN := Lib.hid vn
      clear r1 r2 v3 v4 vn
      refine (S0.out w5 R1.out).mono ?_
      rintro e w6 ⟨rfl, bb⟩
      have R3 := Lib.hid (R1.out.trans (bb.mono R1.out.size))
      have R4 := Lib.hid (R2.out.trans (bb.mono R2.out.size))
      have V5 := Lib.hid (V4.out.below bb)
      have V6 := Lib.hid (VN.out.below bb)
      clear bb
      go_wp2_with fail
      go_roundw
      case rel => first | exact .inr ⟨by go_num, R4⟩ | ((repeat apply Exists.intro); exact ⟨.inr ⟨by go_num, R4⟩, rfl⟩)
      case measure => simp [intOf]
    · have BR := Lib.hid (B3.out.trans (Hb.out.mono B3.out.size))
      have U4 := Lib.hid (T4.out.below Hb.out)
      obtain ⟨g0, g1, g2, g3, g4, g5⟩ := cell6 U4.out
      have f0 := U4.out.free 0
      have f1 := U4.out.free 1
      have f2 := U4.out.free 2
      have f3 := U4.out.free 3
      have f4 := U4.out.free 4
      have f5 := U4.out.free 5
      go_wp2_with fail
      refine bodyPost_ret (v := .agg #[.int .i64 0, .int .i64 0, .int .i64 0, .slice none 0 0, .slice none 0 0, .int .i64 2]) (by simp [results, Tryd.results15, go_sem, g0, g1, g2, g3, g4, g5, f0, f1, f2, f3, f4, f5]) rfl ⟨rfl, ?_⟩
      have hlw := HZ.out.1
      exact (((((BR.out.setCell (by simp; omega) _).setCell (by simp; omega) _).setCell (by simp; omega) _).setCell (by simp; omega) _).setCell (by simp; omega) _).setCell (by simp; omega) _
set_option maxHeartbeats 16000000 in
set_option maxRecDepth 100000 in
theorem refnext_mrt (V : Vr) (c : Int) (po bo : Option Addr) (pc bc : Nat) (w : World) (hV : VerC w po bo V) (hr : rightB V = true) (hc2 : 2 ≤ c) (hc3 : c ≤ 3) (hma : V.ma ≠ 0) (hm : V.ma ≠ bigM) (hS0 : ∀ w', Below w.heap.size w w' → Calls Tryd.prog 34 #[verV ⟨V.ma, V.mi, V.pa, [], []⟩ none 0 none 0, verV V po pc bo bc, .int .i64 c] w' fun e w2 => e = .returned (.bool true) ∧ Below w'.heap.size w' w2)  :
    Calls Tryd.prog 15 #[verV V po pc bo bc, .int .i64 c] w fun e w' => e = .returned (refRes (some ⟨V.ma, V.mi, V.pa, [], []⟩)) ∧ Below w.heap.size w w' := by
  have hN := hV.nums
  obtain ⟨i0, hi, hz0, hz1, hz2⟩ := info_parts info_ver
  have hm0 : V.ma ≠ 9223372036854775807 := hm
  have hm1 : V.ma < 9223372036854775807 := by omega
  have hm2 : decide (V.ma < 9223372036854775807) = true := decide_eq_true hm1
  clear hm hm0
  have k1 : (c == 1) = false := by rw [beq_eq_false_iff_ne]; omega
  have k0 : (c == 0) = false := by rw [beq_eq_false_iff_ne]; omega
  have k2 : decide (0 < c) = true := decide_eq_true (by omega)
  have k3 : decide (1 < c) = true := decide_eq_true (by omega)
  have k4 : 0 < c := by omega
  have k5 : 1 < c := by omega
  have hpos := (nums_of hr (by have := hV.nums; unfold bigM; omega) (by have := hV.nums; unfold bigM; omega) (by have := hV.nums; unfold bigM; omega)).1
  have m1 : (V.ma == 0) = false := by rw [beq_eq_false_iff_ne]; exact hma
  have m3 : 0 < V.ma := by omega
  have m2 : decide (0 < V.ma) = true := decide_eq_true m3
  clear hma hpos
  have S0 := Lib.hid hS0
  obtain ⟨wa, ha⟩ : ∃ wa, w.alloc (.cells #[.int .i64 V.ma, .int .i64 V.mi, .int .i64 V.pa, .slice po V.pre.length pc, .slice bo V.build.length bc] 24) = wa := ⟨_, rfl⟩
  obtain ⟨wb, hb⟩ : ∃ wb, wa.alloc (.cells #[.int .i64 0, .int .i64 0, .int .i64 0, .slice none 0 0, .slice none 0 0, .int .i64 0] 29) = wb := ⟨_, rfl⟩
  obtain ⟨w2, hw2⟩ : ∃ w2, wb.alloc (.cells #[.int .i64 V.ma, .int .i64 V.mi, .int .i64 V.pa, .slice none 0 0, .slice none 0 0] 24) = w2 := ⟨_, rfl⟩
  obtain ⟨k1', q1, z1⟩ := box_new ha
  obtain ⟨k2', q2, z2⟩ := box_new hb
  obtain ⟨k3', q3, z3⟩ := box_new hw2
  have BW := Lib.hid (q1.trans (q2.mono q1.size))
  have HZ := Lib.hid (And.intro z1 z2)
  have K1 := Lib.hid (k1'.below q2)
  have K2 := Lib.hid k2'
  have own := Lib.hid (own_one hw2)
  have Q3 := Lib.hid q3
  have BB2 := Lib.hid (BW.out.trans (q3.mono BW.out.size))
  have T1 := Lib.hid (K1.out.below q3)
  have T2 := Lib.hid (K2.out.below q3)
  have o0 := k3'.cell 0
  have o1 := k3'.cell 1
  have o2 := k3'.cell 2
  have o3 := k3'.cell 3
  have o4 := k3'.cell 4
  simp at o0 o1 o2 o3 o4
  obtain ⟨x0, x1, x2, x3, x4⟩ := cell5 K1.out
  obtain ⟨y0, y1, y2, y3, y4⟩ := cell5 T1.out
  have hlt := T1.out.lt
  unfold verV at *
  simp only [List.length_nil] at *
  clear hS0 hV hr k1' k2' k3' q1 q2 q3 z1 z2 z3
  go_enter Tryd.func15, Tryd.ntmps15
  go_wp2_with (at_builtin; refine wpList_append_own_at _ rfl _ _ 61 rfl wb.heap.size 24 i0 (.agg #[.int .i64 0, .int .i64 0, .int .i64 0, .slice none 0 0, .slice none 0 0]) 5 72 Tryd.underlying61 hi hz0 hz1 hz2 rfl (by decide) _ 1 (relC V.ma V.mi V.pa) rfl (own.out.alloc _) ⟨w2.heap.size, 0, none⟩ 1 1 (relC (V.ma + 1) (0) (0)) rfl ?c1 ?c2 ?c3 ?c4 ?c5 ?c6 ?_)
  try (case c1 => rfl)
  try (case c2 => first | exact cell_newV _ _ _ _ _ | (intro j u hu; unfold relC at hu; simpa using hu))
  try (case c3 => exact relC_one _ _ _)
  try (case c4 => unfold maxLen; omega)
  try (case c5 => omega)
  try (case c6 => have := Q3.out.size; simp; omega)
  intro v' w3 hown3 hgrow _ hblk
  have b3 : Below wb.heap.size wb w3 := own_pushV own.out Q3.out hgrow
  obtain ⟨g, cap, rfl, hg1, hg2, hgc⟩ := own_cells hown3 (by decide)
  have B3 := Lib.hid (BW.out.trans (b3.mono BW.out.size))
  have T3 := Lib.hid (K1.out.below b3)
  have T4 := Lib.hid (K2.out.below b3)
  have e0 := hgc 0 (by simp [relC])
  have e1 := hgc 1 (by simp [relC])
  have e2 := hgc 2 (by simp [relC])
  have e3 := hgc 3 (by simp [relC])
  have e4 := hgc 4 (by simp [relC])
  have e5 := hgc 5 (by simp [relC])
  have e6 := hgc 6 (by simp [relC])
  have e7 := hgc 7 (by simp [relC])
  have e8 := hgc 8 (by simp [relC])
  have e9 := hgc 9 (by simp [relC])
  simp only [relC, List.cons_append, List.nil_append, List.getElem_cons_zero, List.getElem_cons_succ] at e0 e1 e2 e3 e4 e5 e6 e7 e8 e9
  clear hown3 hgrow hblk b3 hgc o0 o1 o2 o3 o4 x0 x1 x2 x3 x4 y0 y1 y2 y3 y4 hlt T1 T2 BB2 hw2 ha hb
  have hgl := hg2
  obtain ⟨y0, y1, y2, y3, y4⟩ := cell5 T3.out
  go_wp2_with fail
  clear y0 y1 y2 y3 y4
  have E0 := Lib.hid e0
  have E1 := Lib.hid e1
  have E2 := Lib.hid e2
  have E3 := Lib.hid e3
  have E4 := Lib.hid e4
  have E5 := Lib.hid e5
  have E6 := Lib.hid e6
  have E7 := Lib.hid e7
  have E8 := Lib.hid e8
  have E9 := Lib.hid e9
  have HGL := Lib.hid hgl
  clear e0 e1 e2 e3 e4 e5 e6 e7 e8 e9 hgl
  go_loopw [80] (fun i wr => (i = .int .i64 0 ∧ wr = w3) ∨ (i = .int .i64 1 ∧ False)) (fun i _ => 2 - (intOf i).toNat)
  case atStart => exact .inl ⟨rfl, by first | rfl | trivial⟩
  case round =>
    rcases hrel with ⟨rfl, rfl⟩ | ⟨rfl, Hb⟩
    · have BR := Lib.hid B3.out
      have U3 := T3
      have U4 := T4
      have BQ := Lib.hid (Below.refl wr.heap.size wr)
      have e0 := E0.out
      have e1 := E1.out
      have e2 := E2.out
      have e3 := E3.out
      have e4 := E4.out
      have hgl := HGL.out
      obtain ⟨y0, y1, y2, y3, y4⟩ := cell5 U3.out
      have hlt := U3.out.lt
      go_wp2_with fail
      have bq : Below wr.heap.size wr (wr.alloc (.cells #[.int .i64 (V.ma), .int .i64 (V.mi), .int .i64 (V.pa), .slice none 0 0, .slice none 0 0] 24)) := (Below.refl _ _).alloc (Nat.le_refl _) _
      have r1 := BR.out.trans (bq.mono BR.out.size)
      have r2 := BQ.out.trans (bq.mono BQ.out.size)
      have v3 := U3.out.below bq
      have v4 := U4.out.below bq
      have vn := BlockAt.new wr #[.int .i64 (V.ma), .int .i64 (V.mi), .int .i64 (V.pa), .slice none 0 0, .slice none 0 0] 24
      clear bq y0 y1 y2 y3 y4 hlt e0 e1 e2 e3 e4 hgl
      generalize wr.alloc (.cells #[.int .i64 (V.ma), .int .i64 (V.mi), .int .i64 (V.pa), .slice none 0 0, .slice none 0 0] 24) = w5 at *
      have R1 := Lib.hid r1
      have R2 := Lib.hid r2
      have V3 := Lib.hid v3
      have V4 := Lib.hid v4
      have VN := Lib.hid vn
      clear r1 r2 v3 v4 vn
      refine (S0.out w5 R1.out).mono ?_
      rintro e w6 ⟨rfl, bb⟩
      have R3 := Lib.hid (R1.out.trans (bb.mono R1.out.size))
      have R4 := Lib.hid (R2.out.trans (bb.mono R2.out.size))
      have V5 := Lib.hid (V4.out.below bb)
      have V6 := Lib.hid (VN.out.below bb)
      clear bb
      obtain ⟨n0, n1, n2, n3, n4⟩ := cell5 V6.out
      obtain ⟨g0, g1, g2, g3, g4, g5⟩ := cell6 V5.out
      have f0 := V5.out.free 0
      have f1 := V5.out.free 1
      have f2 := V5.out.free 2
      have f3 := V5.out.free 3
      have f4 := V5.out.free 4
      have f5 := V5.out.free 5
      go_wp2_with fail
      refine bodyPost_ret (v := .agg #[.int .i64 (V.ma), .int .i64 (V.mi), .int .i64 (V.pa), .slice none 0 0, .slice none 0 0, .int .i64 0]) (by simp [results, Tryd.results15, go_sem, g0, g1, g2, g3, g4, g5, f0, f1, f2, f3, f4, f5]) rfl ⟨rfl, ?_⟩
      have hlw := HZ.out.1
      exact (((((R3.out.setCell (by simp; omega) _).setCell (by simp; omega) _).setCell (by simp; omega) _).setCell (by simp; omega) _).setCell (by simp; omega) _).setCell (by simp; omega) _
    · exact Hb.elim
set_option maxHeartbeats 16000000 in
set_option maxRecDepth 100000 in
theorem refnext_mrf (V : Vr) (c : Int) (po bo : Option Addr) (pc bc : Nat) (w : World) (hV : VerC w po bo V) (hr : rightB V = true) (hc2 : 2 ≤ c) (hc3 : c ≤ 3) (hma : V.ma ≠ 0) (hm : V.ma ≠ bigM) (hS0 : ∀ w', Below w.heap.size w w' → Calls Tryd.prog 34 #[verV ⟨V.ma, V.mi, V.pa, [], []⟩ none 0 none 0, verV V po pc bo bc, .int .i64 c] w' fun e w2 => e = .returned (.bool false) ∧ Below w'.heap.size w' w2) (hS1 : ∀ w', Below w.heap.size w w' → Calls Tryd.prog 34 #[verV ⟨V.ma + 1, 0, 0, [], []⟩ none 0 none 0, verV V po pc bo bc, .int .i64 c] w' fun e w2 => e = .returned (.bool true) ∧ Below w'.heap.size w' w2) :
    Calls Tryd.prog 15 #[verV V po pc bo bc, .int .i64 c] w fun e w' => e = .returned (refRes (some ⟨V.ma + 1, 0, 0, [], []⟩)) ∧ Below w.heap.size w w' := by
  have hN := hV.nums
  obtain ⟨i0, hi, hz0, hz1, hz2⟩ := info_parts info_ver
  have hm0 : V.ma ≠ 9223372036854775807 := hm
  have hm1 : V.ma < 9223372036854775807 := by omega
  have hm2 : decide (V.ma < 9223372036854775807) = true := decide_eq_true hm1
  clear hm hm0
  have k1 : (c == 1) = false := by rw [beq_eq_false_iff_ne]; omega
  have k0 : (c == 0) = false := by rw [beq_eq_false_iff_ne]; omega
  have k2 : decide (0 < c) = true := decide_eq_true (by omega)
  have k3 : decide (1 < c) = true := decide_eq_true (by omega)
  have k4 : 0 < c := by omega
  have k5 : 1 < c := by omega
  have hpos := (nums_of hr (by have := hV.nums; unfold bigM; omega) (by have := hV.nums; unfold bigM; omega) (by have := hV.nums; unfold bigM; omega)).1
  have m1 : (V.ma == 0) = false := by rw [beq_eq_false_iff_ne]; exact hma
  have m3 : 0 < V.ma := by omega
  have m2 : decide (0 < V.ma) = true := decide_eq_true m3
  clear hma hpos
  have S0 := Lib.hid hS0
  have S1 := Lib.hid hS1
  obtain ⟨wa, ha⟩ : ∃ wa, w.alloc (.cells #[.int .i64 V.ma, .int .i64 V.mi, .int .i64 V.pa, .slice po V.pre.length pc, .slice bo V.build.length bc] 24) = wa := ⟨_, rfl⟩
  obtain ⟨wb, hb⟩ : ∃ wb, wa.alloc (.cells #[.int .i64 0, .int .i64 0, .int .i64 0, .slice none 0 0, .slice none 0 0, .int .i64 0] 29) = wb := ⟨_, rfl⟩
  obtain ⟨w2, hw2⟩ : ∃ w2, wb.alloc (.cells #[.int .i64 V.ma, .int .i64 V.mi, .int .i64 V.pa, .slice none 0 0, .slice none 0 0] 24) = w2 := ⟨_, rfl⟩
  obtain ⟨k1', q1, z1⟩ := box_new ha
  obtain ⟨k2', q2, z2⟩ := box_new hb
  obtain ⟨k3', q3, z3⟩ := box_new hw2
  have BW := Lib.hid (q1.trans (q2.mono q1.size))
  have HZ := Lib.hid (And.intro z1 z2)
  have K1 := Lib.hid (k1'.below q2)
  have K2 := Lib.hid k2'
  have own := Lib.hid (own_one hw2)
  have Q3 := Lib.hid q3
  have BB2 := Lib.hid (BW.out.trans (q3.mono BW.out.size))
  have T1 := Lib.hid (K1.out.below q3)
  have T2 := Lib.hid (K2.out.below q3)
  have o0 := k3'.cell 0
  have o1 := k3'.cell 1
  have o2 := k3'.cell 2
  have o3 := k3'.cell 3
  have o4 := k3'.cell 4
  simp at o0 o1 o2 o3 o4
  obtain ⟨x0, x1, x2, x3, x4⟩ := cell5 K1.out
  obtain ⟨y0, y1, y2, y3, y4⟩ := cell5 T1.out
  have hlt := T1.out.lt
  unfold verV at *
  simp only [List.length_nil] at *
  clear hS0 hS1 hV hr k1' k2' k3' q1 q2 q3 z1 z2 z3
  go_enter Tryd.func15, Tryd.ntmps15
  go_wp2_with (at_builtin; refine wpList_append_own_at _ rfl _ _ 61 rfl wb.heap.size 24 i0 (.agg #[.int .i64 0, .int .i64 0, .int .i64 0, .slice none 0 0, .slice none 0 0]) 5 72 Tryd.underlying61 hi hz0 hz1 hz2 rfl (by decide) _ 1 (relC V.ma V.mi V.pa) rfl (own.out.alloc _) ⟨w2.heap.size, 0, none⟩ 1 1 (relC (V.ma + 1) (0) (0)) rfl ?c1 ?c2 ?c3 ?c4 ?c5 ?c6 ?_)
  try (case c1 => rfl)
  try (case c2 => first | exact cell_newV _ _ _ _ _ | (intro j u hu; unfold relC at hu; simpa using hu))
  try (case c3 => exact relC_one _ _ _)
  try (case c4 => unfold maxLen; omega)
  try (case c5 => omega)
  try (case c6 => have := Q3.out.size; simp; omega)
  intro v' w3 hown3 hgrow _ hblk
  have b3 : Below wb.heap.size wb w3 := own_pushV own.out Q3.out hgrow
  obtain ⟨g, cap, rfl, hg1, hg2, hgc⟩ := own_cells hown3 (by decide)
  have B3 := Lib.hid (BW.out.trans (b3.mono BW.out.size))
  have T3 := Lib.hid (K1.out.below b3)
  have T4 := Lib.hid (K2.out.below b3)
  have e0 := hgc 0 (by simp [relC])
  have e1 := hgc 1 (by simp [relC])
  have e2 := hgc 2 (by simp [relC])
  have e3 := hgc 3 (by simp [relC])
  have e4 := hgc 4 (by simp [relC])
  have e5 := hgc 5 (by simp [relC])
  have e6 := hgc 6 (by simp [relC])
  have e7 := hgc 7 (by simp [relC])
  have e8 := hgc 8 (by simp [relC])
  have e9 := hgc 9 (by simp [relC])
  simp only [relC, List.cons_append, List.nil_append, List.getElem_cons_zero, List.getElem_cons_succ] at e0 e1 e2 e3 e4 e5 e6 e7 e8 e9
  clear hown3 hgrow hblk b3 hgc o0 o1 o2 o3 o4 x0 x1 x2 x3 x4 y0 y1 y2 y3 y4 hlt T1 T2 BB2 hw2 ha hb
  have hgl := hg2
  obtain ⟨y0, y1, y2, y3, y4⟩ := cell5 T3.out
  go_wp2_with fail
  clear y0 y1 y2 y3 y4
  have E0 := Lib.hid e0
  have E1 := Lib.hid e1
  have E2 := Lib.hid e2
  have E3 := Lib.hid e3
  have E4 := Lib.hid e4
  have E5 := Lib.hid e5
  have E6 := Lib.hid e6
  have E7 := Lib.hid e7
  have E8 := Lib.hid e8
  have E9 := Lib.hid e9
  have HGL := Lib.hid hgl
  clear e0 e1 e2 e3 e4 e5 e6 e7 e8 e9 hgl
  go_loopw [80] (fun i wr => (i = .int .i64 0 ∧ wr = w3) ∨ (i = .int .i64 1 ∧ Hid (Below w3.heap.size w3 wr))) (fun i _ => 2 - (intOf i).toNat)
  case atStart => exact .inl ⟨rfl, by first | rfl | trivial⟩
  case round =>
    rcases hrel with ⟨rfl, rfl⟩ | ⟨rfl, Hb⟩
    · have BR := Lib.hid B3.out
      have U3 := T3
      have U4 := T4
      have BQ := Lib.hid (Below.refl wr.heap.size wr)
      have e0 := E0.out
      have e1 := E1.out
      have e2 := E2.out
      have e3 := E3.out
      have e4 := E4.out
      have hgl := HGL.out
      obtain ⟨y0, y1, y2, y3, y4⟩ := cell5 U3.out
      have hlt := U3.out.lt
      go_wp2_with fail
      have bq : Below wr.heap.size wr (wr.alloc (.cells #[.int .i64 (V.ma), .int .i64 (V.mi), .int .i64 (V.pa), .slice none 0 0, .slice none 0 0] 24)) := (Below.refl _ _).alloc (Nat.le_refl _) _
      have r1 := BR.out.trans (bq.mono BR.out.size)
      have r2 := BQ.out.trans (bq.mono BQ.out.size)
      have v3 := U3.out.below bq
      have v4 := U4.out.below bq
      have vn := BlockAt.new wr #[.int .i64 (V.ma), .int .i64 (V.mi), .int .i64 (V.pa), .slice none 0 0, .slice none 0 0] 24
      clear bq y0 y1 y2 y3 y4 hlt e0 e1 e2 e3 e4 hgl
      generalize wr.alloc (.cells #[.int .i64 (V.ma), .int .i64 (V.mi), .int .i64 (V.pa), .slice none 0 0, .slice none 0 0] 24) = w5 at *
      have R1 := Lib.hid r1
      have R2 := Lib.hid r2
      have V3 := Lib.hid v3
      have V4 := Lib.hid v4
      have VN := Lib.hid vn
      clear r1 r2 v3 v4 vn
      refine (S0.out w5 R1.out).mono ?_
      rintro e w6 ⟨rfl, bb⟩
      have R3 := Lib.hid (R1.out.trans (bb.mono R1.out.size))
      have R4 := Lib.hid (R2.out.trans (bb.mono R2.out.size))
      have V5 := Lib.hid (V4.out.below bb)
      have V6 := Lib.hid (VN.out.below bb)
      clear bb
      go_wp2_with fail
      go_roundw
      case rel => first | exact .inr ⟨by go_num, R4⟩ | ((repeat apply Exists.intro); exact ⟨.inr ⟨by go_num, R4⟩, rfl⟩)
      case measure => simp [intOf]
    · have BR := Lib.hid (B3.out.trans (Hb.out.mono B3.out.size))
      have U3 := Lib.hid (T3.out.below Hb.out)
      have U4 := Lib.hid (T4.out.below Hb.out)
      have BQ := Hb
      have e0 := (Hb.out.cell (p := ⟨g, 5, none⟩) HGL.out).trans E5.out
      have e1 := (Hb.out.cell (p := ⟨g, 6, none⟩) HGL.out).trans E6.out
      have e2 := (Hb.out.cell (p := ⟨g, 7, none⟩) HGL.out).trans E7.out
      have e3 := (Hb.out.cell (p := ⟨g, 8, none⟩) HGL.out).trans E8.out
      have e4 := (Hb.out.cell (p := ⟨g, 9, none⟩) HGL.out).trans E9.out
      have hgl : g < wr.heap.size := Nat.lt_of_lt_of_le HGL.out Hb.out.size
      obtain ⟨y0, y1, y2, y3, y4⟩ := cell5 U3.out
      have hlt := U3.out.lt
      go_wp2_with fail
      have bq : Below wr.heap.size wr (wr.alloc (.cells #[.int .i64 (V.ma + 1), .int .i64 (0), .int .i64 (0), .slice none 0 0, .slice none 0 0] 24)) := (Below.refl _ _).alloc (Nat.le_refl _) _
      have r1 := BR.out.trans (bq.mono BR.out.size)
      have r2 := BQ.out.trans (bq.mono BQ.out.size)
      have v3 := U3.out.below bq
      have v4 := U4.out.below bq
      have vn := BlockAt.new wr #[.int .i64 (V.ma + 1), .int .i64 (0), .int .i64 (0), .slice none 0 0, .slice none 0 0] 24
      clear bq y0 y1 y2 y3 y4 hlt e0 e1 e2 e3 e4 hgl
      generalize wr.alloc (.cells #[.int .i64 (V.ma + 1), .int .i64 (0), .int .i64 (0), .slice none 0 0, .slice none 0 0] 24) = w5 at *
      have R1 := Lib.hid r1
      have R2 := Lib.hid r2
      have V3 := Lib.hid v3
      have V4 := Lib.hid v4
      have VN := Lib.hid vn
      clear r1 r2 v3 v4 vn
      refine (S1.out w5 R1.out).mono ?_
      rintro e w6 ⟨rfl, bb⟩
      have R3 := Lib.hid (R1.out.trans (bb.mono R1.out.size))
      have R4 := Lib.hid (R2.out.trans (bb.mono R2.out.size))
      have V5 := Lib.hid (V4.out.below bb)
      have V6 := Lib.hid (VN.out.below bb)
      clear bb
      obtain ⟨n0, n1, n2, n3, n4⟩ := cell5 V6.out
      obtain ⟨g0, g1, g2, g3, g4, g5⟩ := cell6 V5.out
      have f0 := V5.out.free 0
      have f1 := V5.out.free 1
      have f2 := V5.out.free 2
      have f3 := V5.out.free 3
      have f4 := V5.out.free 4
      have f5 := V5.out.free 5
      go_wp2_with fail
      refine bodyPost_ret (v := .agg #[.int .i64 (V.ma + 1), .int .i64 (0), .int .i64 (0), .slice none 0 0, .slice none 0 0, .int .i64 0]) (by simp [results, Tryd.results15, go_sem, g0, g1, g2, g3, g4, g5, f0, f1, f2, f3, f4, f5]) rfl ⟨rfl, ?_⟩
      have hlw := HZ.out.1
      exact (((((R3.out.setCell (by simp; omega) _).setCell (by simp; omega) _).setCell (by simp; omega) _).setCell (by simp; omega) _).setCell (by simp; omega) _).setCell (by simp; omega) _
set_option maxHeartbeats 16000000 in
set_option maxRecDepth 100000 in
theorem refnext_mot (V : Vr) (c : Int) (po bo : Option Addr) (pc bc : Nat) (w : World) (hV : VerC w po bo V) (hr : rightB V = true) (hc2 : 2 ≤ c) (hc3 : c ≤ 3) (hma : V.ma ≠ 0) (hm : V.ma = bigM) (hS0 : ∀ w', Below w.heap.size w w' → Calls Tryd.prog 34 #[verV ⟨V.ma, V.mi, V.pa, [], []⟩ none 0 none 0, verV V po pc bo bc, .int .i64 c] w' fun e w2 => e = .returned (.bool true) ∧ Below w'.heap.size w' w2)  :
    Calls Tryd.prog 15 #[verV V po pc bo bc, .int .i64 c] w fun e w' => e = .returned (refRes (some ⟨V.ma, V.mi, V.pa, [], []⟩)) ∧ Below w.heap.size w w' := by
  have hN := hV.nums
  obtain ⟨i0, hi, hz0, hz1, hz2⟩ := info_parts info_ver
  have hm0 : V.ma = 9223372036854775807 := hm
  have hm2 : decide (V.ma < 9223372036854775807) = false := decide_eq_false (by omega)
  have hm3 : ¬ V.ma < 9223372036854775807 := by omega
  have HM := Lib.hid hm0
  clear hm hm0
  have k1 : (c == 1) = false := by rw [beq_eq_false_iff_ne]; omega
  have k0 : (c == 0) = false := by rw [beq_eq_false_iff_ne]; omega
  have k2 : decide (0 < c) = true := decide_eq_true (by omega)
  have k3 : decide (1 < c) = true := decide_eq_true (by omega)
  have k4 : 0 < c := by omega
  have k5 : 1 < c := by omega
  have hpos := (nums_of hr (by have := hV.nums; unfold bigM; omega) (by have := hV.nums; unfold bigM; omega) (by have := hV.nums; unfold bigM; omega)).1
  have m1 : (V.ma == 0) = false := by rw [beq_eq_false_iff_ne]; exact hma
  have m3 : 0 < V.ma := by omega
  have m2 : decide (0 < V.ma) = true := decide_eq_true m3
  clear hma hpos
  have S0 := Lib.hid hS0
  obtain ⟨wa, ha⟩ : ∃ wa, w.alloc (.cells #[.int .i64 V.ma, .int .i64 V.mi, .int .i64 V.pa, .slice po V.pre.length pc, .slice bo V.build.length bc] 24) = wa := ⟨_, rfl⟩
  obtain ⟨wb, hb⟩ : ∃ wb, wa.alloc (.cells #[.int .i64 0, .int .i64 0, .int .i64 0, .slice none 0 0, .slice none 0 0, .int .i64 0] 29) = wb := ⟨_, rfl⟩
  obtain ⟨w2, hw2⟩ : ∃ w2, wb.alloc (.cells #[.int .i64 V.ma, .int .i64 V.mi, .int .i64 V.pa, .slice none 0 0, .slice none 0 0] 24) = w2 := ⟨_, rfl⟩
  obtain ⟨k1', q1, z1⟩ := box_new ha
  obtain ⟨k2', q2, z2⟩ := box_new hb
  obtain ⟨k3', q3, z3⟩ := box_new hw2
  have BW := Lib.hid (q1.trans (q2.mono q1.size))
  have HZ := Lib.hid (And.intro z1 z2)
  have K1 := Lib.hid (k1'.below q2)
  have K2 := Lib.hid k2'
  have own := Lib.hid (own_one hw2)
  have Q3 := Lib.hid q3
  have BB2 := Lib.hid (BW.out.trans (q3.mono BW.out.size))
  have T1 := Lib.hid (K1.out.below q3)
  have T2 := Lib.hid (K2.out.below q3)
  have o0 := k3'.cell 0
  have o1 := k3'.cell 1
  have o2 := k3'.cell 2
  have o3 := k3'.cell 3
  have o4 := k3'.cell 4
  simp at o0 o1 o2 o3 o4
  obtain ⟨x0, x1, x2, x3, x4⟩ := cell5 K1.out
  obtain ⟨y0, y1, y2, y3, y4⟩ := cell5 T1.out
  have hlt := T1.out.lt
  unfold verV at *
  simp only [List.length_nil] at *
  clear hS0 hV hr k1' k2' k3' q1 q2 q3 z1 z2 z3
  go_enter Tryd.func15, Tryd.ntmps15
  go_wp2_with fail
  clear x0 x1 x2 x3 x4 ha hb hw2
  obtain ⟨g, hgd⟩ : ∃ g, wb.heap.size = g := ⟨_, rfl⟩
  have hgl : g < w2.heap.size := by have := Q3.out.size; have h := cell_lt0 o0; omega
  rw [hgd] at o0 o1 o2 o3 o4 ⊢
  have B3 := BB2
  have T3 := T1
  have T4 := T2
  have e0 := o0
  have e1 := o1
  have e2 := o2
  have e3 := o3
  have e4 := o4
  clear o0 o1 o2 o3 o4 hlt BB2 T1 T2 hgd
  clear y0 y1 y2 y3 y4
  have E0 := Lib.hid e0
  have E1 := Lib.hid e1
  have E2 := Lib.hid e2
  have E3 := Lib.hid e3
  have E4 := Lib.hid e4
  have HGL := Lib.hid hgl
  clear e0 e1 e2 e3 e4 hgl
  go_loopw [80] (fun i wr => (i = .int .i64 0 ∧ wr = w2) ∨ (i = .int .i64 1 ∧ False)) (fun i _ => 1 - (intOf i).toNat)
  case atStart => exact .inl ⟨rfl, by first | rfl | trivial⟩
  case round =>
    rcases hrel with ⟨rfl, rfl⟩ | ⟨rfl, Hb⟩
    · have BR := Lib.hid B3.out
      have U3 := T3
      have U4 := T4
      have BQ := Lib.hid (Below.refl wr.heap.size wr)
      have e0 := E0.out
      have e1 := E1.out
      have e2 := E2.out
      have e3 := E3.out
      have e4 := E4.out
      have hgl := HGL.out
      obtain ⟨y0, y1, y2, y3, y4⟩ := cell5 U3.out
      have hlt := U3.out.lt
      go_wp2_with fail
      have bq : Below wr.heap.size wr (wr.alloc (.cells #[.int .i64 (V.ma), .int .i64 (V.mi), .int .i64 (V.pa), .slice none 0 0, .slice none 0 0] 24)) := (Below.refl _ _).alloc (Nat.le_refl _) _
      have r1 := BR.out.trans (bq.mono BR.out.size)
      have r2 := BQ.out.trans (bq.mono BQ.out.size)
      have v3 := U3.out.below bq
      have v4 := U4.out.below bq
      have vn := BlockAt.new wr #[.int .i64 (V.ma), .int .i64 (V.mi), .int .i64 (V.pa), .slice none 0 0, .slice none 0 0] 24
      clear bq y0 y1 y2 y3 y4 hlt e0 e1 e2 e3 e4 hgl
      generalize wr.alloc (.cells #[.int .i64 (V.ma), .int .i64 (V.mi), .int .i64 (V.pa), .slice none 0 0, .slice none 0 0] 24) = w5 at *
      have R1 := Lib.hid r1
      have R2 := Lib.hid r2
      have V3 := Lib.hid v3
      have V4 := Lib.hid v4
      have VN := Lib.hid vn
      clear r1 r2 v3 v4 vn
      refine (S0.out w5 R1.out).mono ?_
      rintro e w6 ⟨rfl, bb⟩
      have R3 := Lib.hid (R1.out.trans (bb.mono R1.out.size))
      have R4 := Lib.hid (R2.out.trans (bb.mono R2.out.size))
      have V5 := Lib.hid (V4.out.below bb)
      have V6 := Lib.hid (VN.out.below bb)
      clear bb
      obtain ⟨n0, n1, n2, n3, n4⟩ := cell5 V6.out
      obtain ⟨g0, g1, g2, g3, g4, g5⟩ := cell6 V5.out
      have f0 := V5.out.free 0
      have f1 := V5.out.free 1
      have f2 := V5.out.free 2
      have f3 := V5.out.free 3
      have f4 := V5.out.free 4
      have f5 := V5.out.free 5
      go_wp2_with fail
      refine bodyPost_ret (v := .agg #[.int .i64 (V.ma), .int .i64 (V.mi), .int .i64 (V.pa), .slice none 0 0, .slice none 0 0, .int .i64 0]) (by simp [results, Tryd.results15, go_sem, g0, g1, g2, g3, g4, g5, f0, f1, f2, f3, f4, f5]) rfl ⟨rfl, ?_⟩
      have hlw := HZ.out.1
      exact (((((R3.out.setCell (by simp; omega) _).setCell (by simp; omega) _).setCell (by simp; omega) _).setCell (by simp; omega) _).setCell (by simp; omega) _).setCell (by simp; omega) _
    · exact Hb.elim
set_option maxHeartbeats 16000000 in
set_option maxRecDepth 100000 in
theorem refnext_mof (V : Vr) (c : Int) (po bo : Option Addr) (pc bc : Nat) (w : World) (hV : VerC w po bo V) (hr : rightB V = true) (hc2 : 2 ≤ c) (hc3 : c ≤ 3) (hma : V.ma ≠ 0) (hm : V.ma = bigM) (hS0 : ∀ w', Below w.heap.size w w' → Calls Tryd.prog 34 #[verV ⟨V.ma, V.mi, V.pa, [], []⟩ none 0 none 0, verV V po pc bo bc, .int .i64 c] w' fun e w2 => e = .returned (.bool false) ∧ Below w'.heap.size w' w2)  :
    Calls Tryd.prog 15 #[verV V po pc bo bc, .int .i64 c] w fun e w' => e = .returned (refRes none) ∧ Below w.heap.size w w' := by
  have hN := hV.nums
  obtain ⟨i0, hi, hz0, hz1, hz2⟩ := info_parts info_ver
  have hm0 : V.ma = 9223372036854775807 := hm
  have hm2 : decide (V.ma < 9223372036854775807) = false := decide_eq_false (by omega)
  have hm3 : ¬ V.ma < 9223372036854775807 := by omega
  have HM := Lib.hid hm0
  clear hm hm0
  have k1 : (c == 1) = false := by rw [beq_eq_false_iff_ne]; omega
  have k0 : (c == 0) = false := by rw [beq_eq_false_iff_ne]; omega
  have k2 : decide (0 < c) = true := decide_eq_true (by omega)
  have k3 : decide (1 < c) = true := decide_eq_true (by omega)
  have k4 : 0 < c := by omega
  have k5 : 1 < c := by omega
  have hpos := (nums_of hr (by have := hV.nums; unfold bigM; omega) (by have := hV.nums; unfold bigM; omega) (by have := hV.nums; unfold bigM; omega)).1
  have m1 : (V.ma == 0) = false := by rw [beq_eq_false_iff_ne]; exact hma
  have m3 : 0 < V.ma := by omega
  have m2 : decide (0 < V.ma) = true := decide_eq_true m3
  clear hma hpos
  have S0 := Lib.hid hS0
  obtain ⟨wa, ha⟩ : ∃ wa, w.alloc (.cells #[.int .i64 V.ma, .int .i64 V.mi, .int .i64 V.pa, .slice po V.pre.length pc, .slice bo V.build.length bc] 24) = wa := ⟨_, rfl⟩
  obtain ⟨wb, hb⟩ : ∃ wb, wa.alloc (.cells #[.int .i64 0, .int .i64 0, .int .i64 0, .slice none 0 0, .slice none 0 0, .int .i64 0] 29) = wb := ⟨_, rfl⟩
  obtain ⟨w2, hw2⟩ : ∃ w2, wb.alloc (.cells #[.int .i64 V.ma, .int .i64 V.mi, .int .i64 V.pa, .slice none 0 0, .slice none 0 0] 24) = w2 := ⟨_, rfl⟩
  obtain ⟨k1', q1, z1⟩ := box_new ha
  obtain ⟨k2', q2, z2⟩ := box_new hb
  obtain ⟨k3', q3, z3⟩ := box_new hw2
  have BW := Lib.hid (q1.trans (q2.mono q1.size))
  have HZ := Lib.hid (And.intro z1 z2)
  have K1 := Lib.hid (k1'.below q2)
  have K2 := Lib.hid k2'
  have own := Lib.hid (own_one hw2)
  have Q3 := Lib.hid q3
  have BB2 := Lib.hid (BW.out.trans (q3.mono BW.out.size))
  have T1 := Lib.hid (K1.out.below q3)
  have T2 := Lib.hid (K2.out.below q3)
  have o0 := k3'.cell 0
  have o1 := k3'.cell 1
  have o2 := k3'.cell 2
  have o3 := k3'.cell 3
  have o4 := k3'.cell 4
  simp at o0 o1 o2 o3 o4
  obtain ⟨x0, x1, x2, x3, x4⟩ := cell5 K1.out
  obtain ⟨y0, y1, y2, y3, y4⟩ := cell5 T1.out
  have hlt := T1.out.lt
  unfold verV at *
  simp only [List.length_nil] at *
  clear hS0 hV hr k1' k2' k3' q1 q2 q3 z1 z2 z3
  go_enter Tryd.func15, Tryd.ntmps15
  go_wp2_with fail
  clear x0 x1 x2 x3 x4 ha hb hw2
  obtain ⟨g, hgd⟩ : ∃ g, wb.heap.size = g := ⟨_, rfl⟩
  have hgl : g < w2.heap.size := by have := Q3.out.size; have h := cell_lt0 o0; omega
  rw [hgd] at o0 o1 o2 o3 o4 ⊢
  have B3 := BB2
  have T3 := T1
  have T4 := T2
  have e0 := o0
  have e1 := o1
  have e2 := o2
  have e3 := o3
  have e4 := o4
  clear o0 o1 o2 o3 o4 hlt BB2 T1 T2 hgd
  clear y0 y1 y2 y3 y4
  have E0 := Lib.hid e0
  have E1 := Lib.hid e1
  have E2 := Lib.hid e2
  have E3 := Lib.hid e3
  have E4 := Lib.hid e4
  have HGL := Lib.hid hgl
  clear e0 e1 e2 e3 e4 hgl
  go_loopw [80] (fun i wr => (i = .int .i64 0 ∧ wr = w2) ∨ (i = .int .i64 1 ∧ Hid (Below w2.heap.size w2 wr))) (fun i _ => 1 - (intOf i).toNat)
  case atStart => exact .inl ⟨rfl, by first | rfl | trivial⟩
  case round =>
    rcases hrel with ⟨rfl, rfl⟩ | ⟨rfl, Hb⟩
    · have BR := Lib.hid B3.out
      have U3 := T3
      have U4 := T4
      have BQ := Lib.hid (Below.refl wr.heap.size wr)
      have e0 := E0.out
      have e1 := E1.out
      have e2 := E2.out
      have e3 := E3.out
      have e4 := E4.out
      have hgl := HGL.out
      obtain ⟨y0, y1, y2, y3, y4⟩ := cell5 U3.out
      have hlt := U3.out.lt
      go_wp2_with fail
      have bq : Below wr.heap.size wr (wr.alloc (.cells #[.int .i64 (V.ma), .int .i64 (V.mi), .int .i64 (V.pa), .slice none 0 0, .slice none 0 0] 24)) := (Below.refl _ _).alloc (Nat.le_refl _) _
      have r1 := BR.out.trans (bq.mono BR.out.size)
      have r2 := BQ.out.trans (bq.mono BQ.out.size)
      have v3 := U3.out.below bq
      have v4 := U4.out.below bq
      have vn := BlockAt.new wr #[.int .i64 (V.ma), .int .i64 (V.mi), .int .i64 (V.pa), .slice none 0 0, .slice none 0 0] 24
      clear bq y0 y1 y2 y3 y4 hlt e0 e1 e2 e3 e4 hgl
      generalize wr.alloc (.cells #[.int .i64 (V.ma), .int .i64 (V.mi), .int .i64 (V.pa), .slice none 0 0, .slice none 0 0] 24) = w5 at *
      have R1 := Lib.hid r1
      have R2 := Lib.hid r2
      have V3 := Lib.hid v3
      have V4 := Lib.hid v4
      have VN := Lib.hid vn
      clear r1 r2 v3 v4 vn
      refine (S0.out w5 R1.out).mono ?_
      rintro e w6 ⟨rfl, bb⟩
      have R3 := Lib.hid (R1.out.trans (bb.mono R1.out.size))
      have R4 := Lib.hid (R2.out.trans (bb.mono R2.out.size))
      have V5 := Lib.hid (V4.out.below bb)
      have V6 := Lib.hid (VN.out.below bb)
      clear bb
      go_wp2_with fail
      go_roundw
      case rel => first | exact .inr ⟨by go_num, R4⟩ | ((repeat apply Exists.intro); exact ⟨.inr ⟨by go_num, R4⟩, rfl⟩)
      case measure => simp [intOf]
    · have BR := Lib.hid (B3.out.trans (Hb.out.mono B3.out.size))
      have U4 := Lib.hid (T4.out.below Hb.out)
      obtain ⟨g0, g1, g2, g3, g4, g5⟩ := cell6 U4.out
      have f0 := U4.out.free 0
      have f1 := U4.out.free 1
      have f2 := U4.out.free 2
      have f3 := U4.out.free 3
      have f4 := U4.out.free 4
      have f5 := U4.out.free 5
      go_wp2_with fail
      refine bodyPost_ret (v := .agg #[.int .i64 0, .int .i64 0, .int .i64 0, .slice none 0 0, .slice none 0 0, .int .i64 2]) (by simp [results, Tryd.results15, go_sem, g0, g1, g2, g3, g4, g5, f0, f1, f2, f3, f4, f5]) rfl ⟨rfl, ?_⟩
      have hlw := HZ.out.1
      exact (((((BR.out.setCell (by simp; omega) _).setCell (by simp; omega) _).setCell (by simp; omega) _).setCell (by simp; omega) _).setCell (by simp; omega) _).setCell (by simp; omega) _
end Go.Proofs.YtbdhmelebedpiaaDoor
