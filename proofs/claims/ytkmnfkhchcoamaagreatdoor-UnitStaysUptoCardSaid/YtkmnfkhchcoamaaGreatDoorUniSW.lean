import Derived.Test.YtkmnfkhchcoamaaGreatDoorUnK
import Derived.Test.YtkmnfkhchcoamaaGreatDoorUnF
import Derived.Test.YtkmnfkhchcoamaaGreatDoorUnL
/- The law UnitStays: its walk. -/
namespace Go.Proofs.YtkmnfkhchcoamaaGreatDoor
open Go.RowKit
set_option linter.unusedSimpArgs false
set_option linter.unusedVariables false

theorem box5_set1 {w w1 : World} {b : Nat} {a0 a1 a2 a3 a4 v : Value} {T : TypeId} (h : BlockAt w b #[a0, a1, a2, a3, a4] T) (h1 : w.setCell ⟨b, 1, none⟩ v = w1) : BlockAt w1 b #[a0, v, a2, a3, a4] T := by
  subst h1
  have := h.set 1 v
  simpa using this
theorem box5_set3 {w w1 : World} {b : Nat} {a0 a1 a2 a3 a4 v : Value} {T : TypeId} (h : BlockAt w b #[a0, a1, a2, a3, a4] T) (h1 : w.setCell ⟨b, 3, none⟩ v = w1) : BlockAt w1 b #[a0, a1, a2, v, a4] T := by
  subst h1
  have := h.set 3 v
  simpa using this
theorem box5_set4 {w w1 : World} {b : Nat} {a0 a1 a2 a3 a4 v : Value} {T : TypeId} (h : BlockAt w b #[a0, a1, a2, a3, a4] T) (h1 : w.setCell ⟨b, 4, none⟩ v = w1) : BlockAt w1 b #[a0, a1, a2, a3, v] T := by
  subst h1
  have := h.set 4 v
  simpa using this
theorem own_urowS {Sb : Nat → Prop} {w : World} {base : Nat} {v : Value} {l : List Nz} (h : OwnN w base v l) (hc : ∀ b, base ≤ b → Sb b) (hz : ∀ z ∈ l, z.t.bounds.length ≤ z.bc ∧ z.t.methods.length ≤ z.mc ∧ NmS Sb w z.bo z.mo z.t) : ∃ ao cap, v = .slice ao (l.map (·.t)).length cap ∧ URowS Sb w ao (l.map (·.t)) ∧ (l.map (·.t)).length ≤ cap := by
  obtain ⟨h1, h2⟩ := h
  rcases h2 with ⟨rfl, h0⟩ | ⟨g, cap, cur, rfl, hg, hcur, hcap1, hcap2, hcs, htk⟩
  · exact ⟨none, 0, by rw [List.length_map, h0], .inl (by rw [List.map_eq_nil_iff]; exact List.eq_nil_of_length_eq_zero h0), by rw [List.length_map, h0]; exact Nat.le_refl _⟩
  · refine ⟨_, _, by rw [List.length_map], .inr ⟨g, 0, rfl, (Array.getElem?_eq_some_iff.1 hcur).1, hc _ hg, fun k hk => ?_⟩, by rw [List.length_map]; exact hcap1⟩
    rw [List.length_map] at hk
    obtain ⟨c0, c1, c2, c3⟩ := nzC_at l k hk
    have e : ∀ j, j < l.length * 4 → w.cell? ⟨g, j, none⟩ = (nzC l)[j]? := fun j hj => by
      simp only [World.cell?, hcur, Option.isSome_none, Bool.false_eq_true, if_false]
      rw [← htk, List.getElem?_take_of_lt hj]
      simp
    obtain ⟨i1, i2, i3⟩ := hz _ (List.getElem_mem hk)
    rw [List.getElem_map, Nat.zero_add]
    exact ⟨l[k].bo, l[k].bc, l[k].mo, l[k].mc, (e _ (by omega)).trans c0, (e _ (by omega)).trans c1, (e _ (by omega)).trans c2, (e _ (by omega)).trans c3, i1, i2, i3⟩
/-- A unit of few's, in memory: its rows lie in blocks that were there, or behind the base. -/
theorem few_unS {W0 w' : World} {base : Nat} {xo yo : Option Addr} {xc yc : Nat} {xs : List Tz} {ys : List Nz} (hx : OwnZ w' base (.slice xo xs.length xc) xs) (hy : OwnN w' base (.slice yo ys.length yc) ys) (ix : ∀ z ∈ xs, InZ W0 z) (iy : ∀ z ∈ ys, InN W0 z) (lx : xs.length ≤ 402) (ly : ys.length ≤ 62) (hb : Below W0.heap.size W0 w') :
    UnS (fun b => b < W0.heap.size ∨ base ≤ b) w' xo yo xc yc ⟨xs.map (·.t), ys.map (·.t)⟩ := by
  obtain ⟨a1, c1, e1, r1, g1⟩ := own_arowS (Sb := fun b => b < W0.heap.size ∨ base ≤ b) hx (fun b hb => .inr hb) (fun z hz => ⟨(ix z hz).1, (ix z hz).2.1, (TyCS.fresh (ix z hz).2.2 (fun b hb => .inl hb)).same (SameS.below hb)⟩)
  obtain ⟨a2, c2, e2, r2, g2⟩ := own_urowS (Sb := fun b => b < W0.heap.size ∨ base ≤ b) hy (fun b hb => .inr hb) (fun z hz => ⟨(iy z hz).1, (iy z hz).2.1, (NmS.fresh (iy z hz).2.2 (fun b hb => .inl hb)).same (SameS.below hb)⟩)
  rw [List.length_map] at e1 e2
  injection e1 with e1 _ e1'
  injection e2 with e2 _ e2'
  subst e1
  subst e1'
  subst e2
  subst e2'
  exact ⟨r1, r2, by show (xs.map (·.t)).length ≤ 1000; rw [List.length_map]; omega, by show (ys.map (·.t)).length ≤ 1000; rw [List.length_map]; omega, g1, g2⟩
theorem meth_less {ms : List Mt} (h : risesB (ms.map (·.name)) = true) {k : Nat} (hk : k < ms.length) (h0 : 0 < k) : lessB (ms[k - 1]'(by omega)).name ms[k].name = true := by
  have := rises_lt h k (k - 1) (by omega) (by rw [List.length_map]; exact hk)
  rw [namesM_get (show k - 1 < ms.length by omega), namesM_get hk] at this
  exact this
theorem take_of_ext {l M : List Ty} (h : Ext l M) : M.take l.length = l := h.1
set_option maxHeartbeats 64000000 in
set_option maxRecDepth 100000 in
theorem stays_walk (u : Un) (ao no : Option Addr) (ac nc : Nat) (t : Ty) (wo ko : Option Addr) (wc kc : Nat) (i : Int) (W : World) (hu : InUn W ao no ac nc u) (ht : TyIn W wo ko wc kc t) (hsm : TySm t) (hV : Env W) :
    Calls Tryz.prog 4 #[unV u ao ac no nc, tyV t wo wc ko kc, .int .i64 i] W fun e W' => e = .returned (.bool true) ∧ Below W.heap.size W W' := by
  obtain ⟨w1, h1⟩ : ∃ w1, W.alloc (.cells #[.slice ao u.types.length ac, .slice no u.named.length nc] 25) = w1 := ⟨_, rfl⟩
  obtain ⟨k1, q1, z1⟩ := box_new h1
  obtain ⟨w2, h2⟩ : ∃ w2, w1.alloc (.cells #[.int .i64 t.kind, .string t.name, .int .i64 t.n, .slice wo t.words.length wc, .slice ko t.kids.length kc] 38) = w2 := ⟨_, rfl⟩
  obtain ⟨k2, q2, z2⟩ := box_new h2
  have B2 := Lib.hid (q1.trans (q2.mono q1.size))
  have HF10 := fewU_any W u ao no ac nc w2 B2.out hu
  unfold unV at HF10
  unfold unV tyV
  obtain ⟨L, hL⟩ : ∃ L, u.types.length = L := ⟨_, rfl⟩
  obtain ⟨n, hn⟩ : ∃ n, u.named.length = n := ⟨_, rfl⟩
  rw [hL, hn] at h1 k1 HF10 ⊢
  have HF1 := Lib.hid HF10
  have HT := Lib.hid ht
  have HSM := Lib.hid hsm
  have HVW := Lib.hid hV
  have K30 := Lib.hid (k1.below q2)
  have K40 := Lib.hid k2
  have SZ := Lib.hid (show W.heap.size < w2.heap.size ∧ w1.heap.size < w2.heap.size ∧ W.heap.size ≠ w1.heap.size ∧ W.heap.size ≤ w1.heap.size by omega)
  have HAL := Lib.hid (fun w (hb : Below W.heap.size W w) => aliveU_any w (hV.below hb))
  obtain ⟨c0, c1⟩ := cell2 K30.out
  obtain ⟨d0, d1, d2, d3, d4⟩ := cell5 K40.out
  clear HF10 hL hn k1 k2 q1 q2 z1 z2 hu ht hsm hV
  go_enter Tryz.func4, Tryz.ntmps4
  go_wp2_with fail
  refine HF1.out.mono ?_
  rintro e w3 ⟨v1, v2, xs, ys, rfl, ox, oy, ix, iy, lx, ly, f3⟩
  obtain ⟨xo, xc, hxo⟩ := ox.slice
  subst hxo
  obtain ⟨yo, yc, hyo⟩ := oy.slice
  subst hyo
  have B3 := Lib.hid (B2.out.trans (f3.mono B2.out.size))
  have OX3 := Lib.hid ox
  have OY3 := Lib.hid oy
  have IX := Lib.hid ix
  have IY := Lib.hid iy
  have LXY := Lib.hid (And.intro lx ly)
  have K33 := Lib.hid (K30.out.below f3)
  have K43 := Lib.hid (K40.out.below f3)
  clear c0 c1 d0 d1 d2 d3 d4 h1 h2 ox oy ix iy lx ly f3 HF1 K30 K40
  obtain ⟨w4, h4⟩ : ∃ w4, w3.setCell ⟨W.heap.size, 0, none⟩ (.slice xo xs.length xc) = w4 := ⟨_, rfl⟩
  obtain ⟨w5, h5⟩ : ∃ w5, w4.setCell ⟨W.heap.size, 1, none⟩ (.slice yo ys.length yc) = w5 := ⟨_, rfl⟩
  have NE43 := Lib.hid (show w1.heap.size ≠ W.heap.size from fun g => SZ.out.2.2.1 g.symm)
  have K3 := Lib.hid (box2_set K33.out h4 h5)
  have K4 := Lib.hid (other_set (other_set K43.out NE43.out h4) NE43.out h5)
  have B5 := Lib.hid (set2_below B3.out (Nat.le_refl _) h4 h5)
  have OX5 := Lib.hid (show OwnZ w5 w2.heap.size (.slice xo xs.length xc) xs by rw [← h5, ← h4]; exact own_set (own_set OX3.out (own_not OX3.out (.inl SZ.out.1)) 0 _) (own_not OX3.out (.inl SZ.out.1)) 1 _)
  have OY5 := Lib.hid (show OwnN w5 w2.heap.size (.slice yo ys.length yc) ys by rw [← h5, ← h4]; exact ownN_set (ownN_set OY3.out (ownN_not OY3.out (.inl SZ.out.1)) 0 _) (ownN_not OY3.out (.inl SZ.out.1)) 1 _)
  have HX := Lib.hid (few_unS (W0 := W) OX5.out OY5.out IX.out IY.out LXY.out.1 LXY.out.2 B5.out)
  have HE := Lib.hid (HVW.out.below B5.out)
  have U1 : (⟨xs.map (·.t), ys.map (·.t)⟩ : Un).types.length = xs.length := List.length_map _
  have U2 : (⟨xs.map (·.t), ys.map (·.t)⟩ : Un).named.length = ys.length := List.length_map _
  obtain ⟨U, hU⟩ : ∃ U, (⟨xs.map (·.t), ys.map (·.t)⟩ : Un) = U := ⟨_, rfl⟩
  rw [hU] at HX U1 U2
  obtain ⟨L2, hL2⟩ : ∃ L, xs.length = L := ⟨_, rfl⟩
  obtain ⟨n2, hn2⟩ : ∃ n, ys.length = n := ⟨_, rfl⟩
  rw [hL2] at U1 K3 h4 ⊢
  rw [hn2] at U2 K3 h5 ⊢
  have HL := Lib.hid U1
  have HN := Lib.hid U2
  have HUR0 := right_uany U xo yo xc yc w5 HX.out.out HE.out HE.out.max
  unfold unV at HUR0
  rw [U1, U2] at HUR0
  have t0 := (cell2 K33.out).1
  have f0 := K33.out.free 0
  have t1 := (cell2 (box2_set0 K33.out h4)).2
  have f1 := (box2_set0 K33.out h4).free 1
  obtain ⟨c0, c1⟩ := cell2 K3.out
  obtain ⟨d0, d1, d2, d3, d4⟩ := cell5 K4.out
  have NS4 := Lib.hid (show ¬ (w1.heap.size < W.heap.size ∨ w2.heap.size ≤ w1.heap.size) by have := SZ.out; omega)
  clear hU hL2 hn2 U1 U2 OX3 OY3 OX5 OY5 IX IY K43 B3
  cases hr : rightU U <;> rw [hr] at HUR0 <;> have HRU := Lib.hid hr <;> have HUR := Lib.hid HUR0 <;> clear hr HUR0
  · go_wp2_with fail
    refine HUR.out.mono ?_
    rintro e w6 ⟨rfl, bq⟩
    have B7 := Lib.hid (B5.out.trans (bq.mono B5.out.size))
    clear bq h4 h5 t0 f0 t1 f1 c0 c1 d0 d1 d2 d3 d4
    go_wp2_with fail
    refine (HAL.out _ B7.out).mono ?_
    rintro e wz ⟨rfl, bz⟩
    have BZ := Lib.hid (B7.out.trans (bz.mono B7.out.size))
    clear bz
    go_wp2_with fail
    go_ret
    first | exact ⟨rfl, BZ.out⟩ | exact ⟨by simp, BZ.out⟩
  go_wp2_with fail
  refine HUR.out.mono ?_
  rintro e w6 ⟨rfl, bq⟩
  have B6 := Lib.hid (B5.out.trans (bq.mono B5.out.size))
  have K3 := Lib.hid (K3.out.below bq)
  have K4 := Lib.hid (K4.out.below bq)
  have HX := Lib.hid (HX.out.same (SameS.below bq))
  clear bq h4 h5 t0 f0 t1 f1 c0 c1 d0 d1 d2 d3 d4 HUR B5 HE K33
  obtain ⟨b3, hb3⟩ : ∃ b, W.heap.size = b := ⟨_, rfl⟩
  obtain ⟨b4, hb4⟩ : ∃ b, w1.heap.size = b := ⟨_, rfl⟩
  have WB := Lib.hid (show W.heap.size ≤ b3 ∧ W.heap.size ≤ b4 ∧ b3 ≠ b4 from by have := SZ.out; omega)
  have K3 := Lib.hid (show BlockAt w6 b3 _ _ by rw [← hb3]; exact K3.out)
  have K4 := Lib.hid (show BlockAt w6 b4 _ _ by rw [← hb4]; exact K4.out)
  have NS4 := Lib.hid (show ¬ (b4 < W.heap.size ∨ w2.heap.size ≤ b4) by rw [← hb4]; exact NS4.out)
  rw [hb3, hb4]
  clear hb3 hb4 SZ NE43
  obtain ⟨d0, d1, d2, d3, d4⟩ := cell5 K4.out
  obtain ⟨q0, hq0⟩ : ∃ q : Nat, min t.name.size 50 = q := ⟨_, rfl⟩
  obtain ⟨q1, hq1⟩ : ∃ q : Nat, min t.words.length 18 = q := ⟨_, rfl⟩
  obtain ⟨q2, hq2⟩ : ∃ q : Nat, min t.kids.length 18 = q := ⟨_, rfl⟩
  have p01 : q0 ≤ t.name.size := by omega
  have p02 : q0 ≤ 50 := by omega
  have p11 : q1 ≤ t.words.length := by omega
  have p12 : q1 ≤ 18 := by omega
  have p13 : q1 ≤ wc := Nat.le_trans p11 HT.out.wc1
  have p21 : q2 ≤ t.kids.length := by omega
  have p22 : q2 ≤ 18 := by omega
  have p23 : q2 ≤ kc := Nat.le_trans p21 HT.out.kc1
  have n1 := HT.out.nl
  have n3' := Nat.le_trans HT.out.wc1 HT.out.wc2
  have n3 := Nat.le_trans HT.out.kc1 HT.out.kc2
  have n4 := HT.out.wc2
  have n5 := HT.out.kc2
  have HCI := Lib.hid (cut_in HT.out p02 p01 p12 p11 p22 p21)
  have G0 : ∀ (ts : Array TypeId) (ty : TypeId) (W : World), (Builtin.min_ ts ty #[.int .i64 (t.name.size : Int), .int .i64 50]).run Tryz.prog W = .ok (.int .i64 (q0 : Int)) W := fun ts ty W => by rw [run_min_int2, show (if (50 : Int) < (t.name.size : Int) then (50 : Int) else (t.name.size : Int)) = (q0 : Int) by split <;> omega]
  have G1 : ∀ (ts : Array TypeId) (ty : TypeId) (W : World), (Builtin.min_ ts ty #[.int .i64 (t.words.length : Int), .int .i64 18]).run Tryz.prog W = .ok (.int .i64 (q1 : Int)) W := fun ts ty W => by rw [run_min_int2, show (if (18 : Int) < (t.words.length : Int) then (18 : Int) else (t.words.length : Int)) = (q1 : Int) by split <;> omega]
  have G2 : ∀ (ts : Array TypeId) (ty : TypeId) (W : World), (Builtin.min_ ts ty #[.int .i64 (t.kids.length : Int), .int .i64 18]).run Tryz.prog W = .ok (.int .i64 (q2 : Int)) W := fun ts ty W => by rw [run_min_int2, show (if (18 : Int) < (t.kids.length : Int) then (18 : Int) else (t.kids.length : Int)) = (q2 : Int) by split <;> omega]
  clear hq0 hq1 hq2
  go_upto_region 4 with fail
  refine GoG.start [(22, ⟨b4, 1, none⟩, .string t.name), (24, ⟨b4, 3, none⟩, .slice wo t.words.length wc), (26, ⟨b4, 4, none⟩, .slice ko t.kids.length kc)] (by kernel_rfl) ?_ ?_
  · exact Keeps.cons (by first | exact d1 | assumption) (Keeps.cons (by first | exact d3 | assumption) (Keeps.cons (by first | exact d4 | assumption) (Keeps.nil)))
  refine GoG.take (i := 0) (v := ?_) [] rfl (by kernel_rfl) (by kernel_rfl) (by kernel_rfl) (by kernel_rfl) (by kernel_rfl) (by kernel_rfl) (fun _ _ _ h => h) (yields_free (by rfl) (fun w => ?_)) ?_
  rotate_left
  · go_simp; try (with_reducible rfl)
  try simp only [Act.put, List.getElem_toArray, List.getElem_cons_succ, List.getElem_cons_zero, List.setIfInBounds_toArray, List.set_cons_zero, List.set_cons_succ]
  refine GoG.take (i := 1) (v := ?_) [22] rfl (by kernel_rfl) (by kernel_rfl) (by kernel_rfl) (by kernel_rfl) (by kernel_rfl) (by kernel_rfl) (fun _ _ _ h => h) (yields_load 22 ⟨b4, 1, none⟩ (.string t.name) (by simp) (by decide) (by rfl) (fun w hw => ?_)) ?_
  rotate_left
  · go_simp; try (with_reducible rfl)
  try simp only [Act.put, List.getElem_toArray, List.getElem_cons_succ, List.getElem_cons_zero, List.setIfInBounds_toArray, List.set_cons_zero, List.set_cons_succ]
  refine GoG.take (i := 2) (v := ?_) [] rfl (by kernel_rfl) (by kernel_rfl) (by kernel_rfl) (by kernel_rfl) (by kernel_rfl) (by kernel_rfl) (fun _ _ _ h => h) (yields_free (by rfl) (fun w => ?_)) ?_
  rotate_left
  · go_simp; try (with_reducible rfl)
  try simp only [Act.put, List.getElem_toArray, List.getElem_cons_succ, List.getElem_cons_zero, List.setIfInBounds_toArray, List.set_cons_zero, List.set_cons_succ]
  refine GoG.take (i := 3) (v := ?_) [22] rfl (by kernel_rfl) (by kernel_rfl) (by kernel_rfl) (by kernel_rfl) (by kernel_rfl) (by kernel_rfl) (fun _ _ _ h => h) (yields_load 22 ⟨b4, 1, none⟩ (.string t.name) (by simp) (by decide) (by rfl) (fun w hw => ?_)) ?_
  rotate_left
  · go_simp; try (with_reducible rfl)
  try simp only [Act.put, List.getElem_toArray, List.getElem_cons_succ, List.getElem_cons_zero, List.setIfInBounds_toArray, List.set_cons_zero, List.set_cons_succ]
  refine GoG.take (i := 4) (v := ?_) [] rfl (by kernel_rfl) (by kernel_rfl) (by kernel_rfl) (by kernel_rfl) (by kernel_rfl) (by kernel_rfl) (fun _ _ _ h => h) (yields_free (by rfl) (fun w => ?_)) ?_
  rotate_left
  · go_simp; try (with_reducible rfl)
  try simp only [Act.put, List.getElem_toArray, List.getElem_cons_succ, List.getElem_cons_zero, List.setIfInBounds_toArray, List.set_cons_zero, List.set_cons_succ]
  refine GoG.take (i := 5) (v := ?_) [] rfl (by kernel_rfl) (by kernel_rfl) (by kernel_rfl) (by kernel_rfl) (by kernel_rfl) (by kernel_rfl) (fun _ _ _ h => h) (yields_free (by rfl) (fun w => ?_)) ?_
  rotate_left
  · go_simp; try (with_reducible rfl)
  try simp only [Act.put, List.getElem_toArray, List.getElem_cons_succ, List.getElem_cons_zero, List.setIfInBounds_toArray, List.set_cons_zero, List.set_cons_succ]
  refine GoG.take (i := 6) (v := ?_) [] rfl (by kernel_rfl) (by kernel_rfl) (by kernel_rfl) (by kernel_rfl) (by kernel_rfl) (by kernel_rfl) (fun _ _ _ h => h) (yields_free (by rfl) (fun w => ?_)) ?_
  rotate_left
  · go_simp; try (with_reducible rfl)
  try simp only [Act.put, List.getElem_toArray, List.getElem_cons_succ, List.getElem_cons_zero, List.setIfInBounds_toArray, List.set_cons_zero, List.set_cons_succ]
  refine GoG.take (i := 7) (v := ?_) [] rfl (by kernel_rfl) (by kernel_rfl) (by kernel_rfl) (by kernel_rfl) (by kernel_rfl) (by kernel_rfl) (fun _ _ _ h => h) (yields_free (by rfl) (fun w => ?_)) ?_
  rotate_left
  · go_simp; try (with_reducible rfl)
  try simp only [Act.put, List.getElem_toArray, List.getElem_cons_succ, List.getElem_cons_zero, List.setIfInBounds_toArray, List.set_cons_zero, List.set_cons_succ]
  refine GoG.take (i := 8) (v := ?_) [24] rfl (by kernel_rfl) (by kernel_rfl) (by kernel_rfl) (by kernel_rfl) (by kernel_rfl) (by kernel_rfl) (fun _ _ _ h => h) (yields_load 24 ⟨b4, 3, none⟩ (.slice wo t.words.length wc) (by simp) (by decide) (by rfl) (fun w hw => ?_)) ?_
  rotate_left
  · go_simp; try (with_reducible rfl)
  try simp only [Act.put, List.getElem_toArray, List.getElem_cons_succ, List.getElem_cons_zero, List.setIfInBounds_toArray, List.set_cons_zero, List.set_cons_succ]
  refine GoG.take (i := 9) (v := ?_) [] rfl (by kernel_rfl) (by kernel_rfl) (by kernel_rfl) (by kernel_rfl) (by kernel_rfl) (by kernel_rfl) (fun _ _ _ h => h) (yields_free (by rfl) (fun w => ?_)) ?_
  rotate_left
  · go_simp; try (with_reducible rfl)
  try simp only [Act.put, List.getElem_toArray, List.getElem_cons_succ, List.getElem_cons_zero, List.setIfInBounds_toArray, List.set_cons_zero, List.set_cons_succ]
  refine GoG.take (i := 10) (v := ?_) [24] rfl (by kernel_rfl) (by kernel_rfl) (by kernel_rfl) (by kernel_rfl) (by kernel_rfl) (by kernel_rfl) (fun _ _ _ h => h) (yields_load 24 ⟨b4, 3, none⟩ (.slice wo t.words.length wc) (by simp) (by decide) (by rfl) (fun w hw => ?_)) ?_
  rotate_left
  · go_simp; try (with_reducible rfl)
  try simp only [Act.put, List.getElem_toArray, List.getElem_cons_succ, List.getElem_cons_zero, List.setIfInBounds_toArray, List.set_cons_zero, List.set_cons_succ]
  refine GoG.take (i := 11) (v := ?_) [] rfl (by kernel_rfl) (by kernel_rfl) (by kernel_rfl) (by kernel_rfl) (by kernel_rfl) (by kernel_rfl) (fun _ _ _ h => h) (yields_free (by rfl) (fun w => ?_)) ?_
  rotate_left
  · go_simp; try (with_reducible rfl)
  try simp only [Act.put, List.getElem_toArray, List.getElem_cons_succ, List.getElem_cons_zero, List.setIfInBounds_toArray, List.set_cons_zero, List.set_cons_succ]
  refine GoG.take (i := 12) (v := ?_) [] rfl (by kernel_rfl) (by kernel_rfl) (by kernel_rfl) (by kernel_rfl) (by kernel_rfl) (by kernel_rfl) (fun _ _ _ h => h) (yields_free (by rfl) (fun w => ?_)) ?_
  rotate_left
  · go_simp; try (with_reducible rfl)
  try simp only [Act.put, List.getElem_toArray, List.getElem_cons_succ, List.getElem_cons_zero, List.setIfInBounds_toArray, List.set_cons_zero, List.set_cons_succ]
  refine GoG.take (i := 13) (v := ?_) [] rfl (by kernel_rfl) (by kernel_rfl) (by kernel_rfl) (by kernel_rfl) (by kernel_rfl) (by kernel_rfl) (fun _ _ _ h => h) (yields_free (by rfl) (fun w => ?_)) ?_
  rotate_left
  · go_simp; try (with_reducible rfl)
  try simp only [Act.put, List.getElem_toArray, List.getElem_cons_succ, List.getElem_cons_zero, List.setIfInBounds_toArray, List.set_cons_zero, List.set_cons_succ]
  refine GoG.take (i := 14) (v := ?_) [] rfl (by kernel_rfl) (by kernel_rfl) (by kernel_rfl) (by kernel_rfl) (by kernel_rfl) (by kernel_rfl) (fun _ _ _ h => h) (yields_free (by rfl) (fun w => ?_)) ?_
  rotate_left
  · go_simp; try (with_reducible rfl)
  try simp only [Act.put, List.getElem_toArray, List.getElem_cons_succ, List.getElem_cons_zero, List.setIfInBounds_toArray, List.set_cons_zero, List.set_cons_succ]
  refine GoG.take (i := 15) (v := ?_) [26] rfl (by kernel_rfl) (by kernel_rfl) (by kernel_rfl) (by kernel_rfl) (by kernel_rfl) (by kernel_rfl) (fun _ _ _ h => h) (yields_load 26 ⟨b4, 4, none⟩ (.slice ko t.kids.length kc) (by simp) (by decide) (by rfl) (fun w hw => ?_)) ?_
  rotate_left
  · go_simp; try (with_reducible rfl)
  try simp only [Act.put, List.getElem_toArray, List.getElem_cons_succ, List.getElem_cons_zero, List.setIfInBounds_toArray, List.set_cons_zero, List.set_cons_succ]
  refine GoG.take (i := 16) (v := ?_) [] rfl (by kernel_rfl) (by kernel_rfl) (by kernel_rfl) (by kernel_rfl) (by kernel_rfl) (by kernel_rfl) (fun _ _ _ h => h) (yields_free (by rfl) (fun w => ?_)) ?_
  rotate_left
  · go_simp; try (with_reducible rfl)
  try simp only [Act.put, List.getElem_toArray, List.getElem_cons_succ, List.getElem_cons_zero, List.setIfInBounds_toArray, List.set_cons_zero, List.set_cons_succ]
  refine GoG.take (i := 17) (v := ?_) [26] rfl (by kernel_rfl) (by kernel_rfl) (by kernel_rfl) (by kernel_rfl) (by kernel_rfl) (by kernel_rfl) (fun _ _ _ h => h) (yields_load 26 ⟨b4, 4, none⟩ (.slice ko t.kids.length kc) (by simp) (by decide) (by rfl) (fun w hw => ?_)) ?_
  rotate_left
  · go_simp; try (with_reducible rfl)
  try simp only [Act.put, List.getElem_toArray, List.getElem_cons_succ, List.getElem_cons_zero, List.setIfInBounds_toArray, List.set_cons_zero, List.set_cons_succ]
  refine GoG.take (i := 18) (v := ?_) [] rfl (by kernel_rfl) (by kernel_rfl) (by kernel_rfl) (by kernel_rfl) (by kernel_rfl) (by kernel_rfl) (fun _ _ _ h => h) (yields_free (by rfl) (fun w => ?_)) ?_
  rotate_left
  · go_simp; try (with_reducible rfl)
  try simp only [Act.put, List.getElem_toArray, List.getElem_cons_succ, List.getElem_cons_zero, List.setIfInBounds_toArray, List.set_cons_zero, List.set_cons_succ]
  refine GoG.take (i := 19) (v := ?_) [] rfl (by kernel_rfl) (by kernel_rfl) (by kernel_rfl) (by kernel_rfl) (by kernel_rfl) (by kernel_rfl) (fun _ _ _ h => h) (yields_free (by rfl) (fun w => ?_)) ?_
  rotate_left
  · go_simp; try (with_reducible rfl)
  try simp only [Act.put, List.getElem_toArray, List.getElem_cons_succ, List.getElem_cons_zero, List.setIfInBounds_toArray, List.set_cons_zero, List.set_cons_succ]
  refine GoG.take (i := 20) (v := ?_) [] rfl (by kernel_rfl) (by kernel_rfl) (by kernel_rfl) (by kernel_rfl) (by kernel_rfl) (by kernel_rfl) (fun _ _ _ h => h) (yields_free (by rfl) (fun w => ?_)) ?_
  rotate_left
  · go_simp; try (with_reducible rfl)
  try simp only [Act.put, List.getElem_toArray, List.getElem_cons_succ, List.getElem_cons_zero, List.setIfInBounds_toArray, List.set_cons_zero, List.set_cons_succ]
  obtain ⟨w7, h7⟩ : ∃ w7, w6.drew.setCell ⟨b4, 1, none⟩ (.string (t.name.extract 0 q0)) = w7 := ⟨_, rfl⟩
  obtain ⟨w8, h8⟩ : ∃ w8, w7.setCell ⟨b4, 3, none⟩ (.slice wo q1 wc) = w8 := ⟨_, rfl⟩
  obtain ⟨w9, h9⟩ : ∃ w9, w8.setCell ⟨b4, 4, none⟩ (.slice ko q2 kc) = w9 := ⟨_, rfl⟩
  have K4d := Lib.hid (K4.out.below (Below.refl _ _).drew)
  have T7 := box5_set1 K4d.out h7
  have T8 := box5_set3 T7 h8
  have T9 := Lib.hid (box5_set4 T8 h9)
  have f1 := K4d.out.free 1
  have f3 := T7.free 3
  have f4 := T8.free 4
  have d3b := (cell5 T7).2.2.2.1
  have d4b := (cell5 T8).2.2.2.2
  have d4c := (cell5 T7).2.2.2.2
  refine GoG.take (i := 21) (v := ?_) [] rfl (by kernel_rfl) (by kernel_rfl) (by kernel_rfl) (by kernel_rfl) (by kernel_rfl) (by kernel_rfl) (fun _ _ _ h => h) (yields_free (by rfl) (fun w => ?_)) ?_
  rotate_left
  · go_simp; try (with_reducible rfl)
  try simp only [Act.put, List.getElem_toArray, List.getElem_cons_succ, List.getElem_cons_zero, List.setIfInBounds_toArray, List.set_cons_zero, List.set_cons_succ]
  refine GoG.one (i := 22) rfl (by kernel_rfl) (fun K hK => ?_)
  go_simp
  clear f1 d1
  refine hK.out _ _ (Keeps.up (by rfl) (Keeps.cons (by first | exact d3b | assumption) (Keeps.cons (by first | exact d4c | assumption) (Keeps.nil)))) ?_
  clear hK K
  try simp only [Act.put, List.getElem_toArray, List.getElem_cons_succ, List.getElem_cons_zero, List.setIfInBounds_toArray, List.set_cons_zero, List.set_cons_succ]
  refine GoG.take (i := 23) (v := ?_) [] rfl (by kernel_rfl) (by kernel_rfl) (by kernel_rfl) (by kernel_rfl) (by kernel_rfl) (by kernel_rfl) (fun _ _ _ h => h) (yields_free (by rfl) (fun w => ?_)) ?_
  rotate_left
  · go_simp; try (with_reducible rfl)
  try simp only [Act.put, List.getElem_toArray, List.getElem_cons_succ, List.getElem_cons_zero, List.setIfInBounds_toArray, List.set_cons_zero, List.set_cons_succ]
  refine GoG.one (i := 24) rfl (by kernel_rfl) (fun K hK => ?_)
  go_simp
  clear f3 d3 d3b d4c
  refine hK.out _ _ (Keeps.up (by rfl) (Keeps.up (by rfl) (Keeps.cons (by first | exact d4b | assumption) (Keeps.nil)))) ?_
  clear hK K
  try simp only [Act.put, List.getElem_toArray, List.getElem_cons_succ, List.getElem_cons_zero, List.setIfInBounds_toArray, List.set_cons_zero, List.set_cons_succ]
  refine GoG.take (i := 25) (v := ?_) [] rfl (by kernel_rfl) (by kernel_rfl) (by kernel_rfl) (by kernel_rfl) (by kernel_rfl) (by kernel_rfl) (fun _ _ _ h => h) (yields_free (by rfl) (fun w => ?_)) ?_
  rotate_left
  · go_simp; try (with_reducible rfl)
  try simp only [Act.put, List.getElem_toArray, List.getElem_cons_succ, List.getElem_cons_zero, List.setIfInBounds_toArray, List.set_cons_zero, List.set_cons_succ]
  refine GoG.one (i := 26) rfl (by kernel_rfl) (fun K hK => ?_)
  go_simp
  clear f4 d4 d4b
  refine hK.out _ _ (Keeps.up (by rfl) (Keeps.up (by rfl) (Keeps.up (by rfl) (Keeps.nil)))) ?_
  clear hK K T7 T8
  try simp only [Act.put, List.getElem_toArray, List.getElem_cons_succ, List.getElem_cons_zero, List.setIfInBounds_toArray, List.set_cons_zero, List.set_cons_succ]
  refine GoG.done (by kernel_rfl) ?_ _
  have B9 := Lib.hid (set1_below (set1_below (set1_below B6.out.drew WB.out.2.1 h7) WB.out.2.1 h8) WB.out.2.1 h9)
  have K3 := Lib.hid (other_set (other_set (other_set (K3.out.below (Below.refl _ _).drew) WB.out.2.2 h7) WB.out.2.2 h8) WB.out.2.2 h9)
  have K4 := T9
  have HX := Lib.hid ((((HX.out.same (SameS.below (Below.refl _ _).drew)).same (SameS.set NS4.out h7)).same (SameS.set NS4.out h8)).same (SameS.set NS4.out h9)).out
  have HX := Lib.hid (UnS.fresh (Sb := fun _ => True) HX.out (fun _ _ => trivial))
  have HE := Lib.hid (HVW.out.below B9.out)
  have HTC := Lib.hid (HCI.out.2.2.below B9.out)
  have HSC := Lib.hid (show TySm (cutT t q0 q1 q2) from fun s hs => HSM.out s (List.mem_of_mem_take hs))
  clear h7 h8 h9 T9 K4d G0 G1 G2 p01 p02 p11 p12 p13 p21 p22 p23 n1 n3 n3' n4 n5 B6
  have HP0 := put_uany (fun _ => True) U xo yo xc yc (cutT t q0 q1 q2) wo ko wc kc w9 (fun _ _ => trivial) HX.out HE.out HTC.out.2.2 HSC.out HTC.out.1 HTC.out.2.1
  obtain ⟨⟨V5, p5, e5⟩, hF5⟩ : ∃ R, putU U (cutT t q0 q1 q2) = R := ⟨_, rfl⟩
  rw [hF5] at HP0
  have HF5 := Lib.hid hF5
  unfold unV tyV at HP0
  rw [HL.out, HN.out, HCI.out.1, HCI.out.2.1] at HP0
  have HP := Lib.hid (show Calls _ _ #[_, .agg #[.int .i64 t.kind, .string (t.name.extract 0 q0), .int .i64 t.n, .slice wo q1 wc, .slice ko q2 kc]] _ _ from HP0)
  obtain ⟨c0, c1⟩ := cell2 K3.out
  obtain ⟨d0, d1, d2, d3, d4⟩ := cell5 K4.out
  clear HP0 hF5
  go_wp2_with fail
  refine HP.out.mono ?_
  rintro e w10 ⟨ao5, no5, ac5, nc5, rfl, hA, b10⟩
  have B10 := Lib.hid b10
  have HA10 := Lib.hid hA
  clear hA b10 c0 c1 d0 d1 d2 d3 d4 HP
  unfold unV
  obtain ⟨w11, h11⟩ : ∃ w11, w10.alloc (.cells #[.slice ao5 V5.types.length ac5, .slice no5 V5.named.length nc5] 25) = w11 := ⟨_, rfl⟩
  obtain ⟨k11, q11, z11⟩ := box_new h11
  have K7 := Lib.hid k11
  have B911 := Lib.hid (B10.out.trans (q11.mono B10.out.size))
  have HA := Lib.hid (HA10.out.same (SameS.below q11))
  clear k11 q11 z11
  by_cases he5 : e5 = 0
  case neg =>
    have hq5 : (e5 == 0) = false := by rw [beq_eq_false_iff_ne]; exact he5
    clear he5
    go_upto_region 6 with fail
    clear h11
    refine GoG.start [] (by kernel_rfl) ?_ ?_
    · exact Keeps.nil
    refine GoG.take (i := 0) (v := ?_) [] rfl (by kernel_rfl) (by kernel_rfl) (by kernel_rfl) (by kernel_rfl) (by kernel_rfl) (by kernel_rfl) (fun _ _ _ h => h) (yields_free (by rfl) (fun w => ?_)) ?_
    rotate_left
    · go_simp; try (with_reducible rfl)
    try simp only [Act.put, List.getElem_toArray, List.getElem_cons_succ, List.getElem_cons_zero, List.setIfInBounds_toArray, List.set_cons_zero, List.set_cons_succ]
    refine GoG.take (i := 1) (v := ?_) [] rfl (by kernel_rfl) (by kernel_rfl) (by kernel_rfl) (by kernel_rfl) (by kernel_rfl) (by kernel_rfl) (fun _ _ _ h => h) (yields_free (by rfl) (fun w => ?_)) ?_
    rotate_left
    · go_simp; try (with_reducible rfl)
    try simp only [Act.put, List.getElem_toArray, List.getElem_cons_succ, List.getElem_cons_zero, List.setIfInBounds_toArray, List.set_cons_zero, List.set_cons_succ]
    refine GoG.take (i := 2) (v := ?_) [] rfl (by kernel_rfl) (by kernel_rfl) (by kernel_rfl) (by kernel_rfl) (by kernel_rfl) (by kernel_rfl) (fun _ _ _ h => h) (yields_free (by rfl) (fun w => ?_)) ?_
    rotate_left
    · go_simp; try (with_reducible rfl)
    try simp only [Act.put, List.getElem_toArray, List.getElem_cons_succ, List.getElem_cons_zero, List.setIfInBounds_toArray, List.set_cons_zero, List.set_cons_succ]
    refine GoG.take (i := 3) (v := undef) [] rfl (by kernel_rfl) (by kernel_rfl) (by kernel_rfl) (by kernel_rfl) (by kernel_rfl) (by kernel_rfl) (fun _ _ _ h => h) (.inr ⟨by rfl, rfl⟩) ?_
    try simp only [Act.put, List.getElem_toArray, List.getElem_cons_succ, List.getElem_cons_zero, List.setIfInBounds_toArray, List.set_cons_zero, List.set_cons_succ]
    refine GoG.take (i := 4) (v := undef) [] rfl (by kernel_rfl) (by kernel_rfl) (by kernel_rfl) (by kernel_rfl) (by kernel_rfl) (by kernel_rfl) (fun _ _ _ h => h) (.inr ⟨by rfl, rfl⟩) ?_
    try simp only [Act.put, List.getElem_toArray, List.getElem_cons_succ, List.getElem_cons_zero, List.setIfInBounds_toArray, List.set_cons_zero, List.set_cons_succ]
    refine GoG.take (i := 5) (v := undef) [] rfl (by kernel_rfl) (by kernel_rfl) (by kernel_rfl) (by kernel_rfl) (by kernel_rfl) (by kernel_rfl) (fun _ _ _ h => h) (.inr ⟨by rfl, rfl⟩) ?_
    try simp only [Act.put, List.getElem_toArray, List.getElem_cons_succ, List.getElem_cons_zero, List.setIfInBounds_toArray, List.set_cons_zero, List.set_cons_succ]
    refine GoG.take (i := 6) (v := undef) [] rfl (by kernel_rfl) (by kernel_rfl) (by kernel_rfl) (by kernel_rfl) (by kernel_rfl) (by kernel_rfl) (fun _ _ _ h => h) (.inr ⟨by rfl, rfl⟩) ?_
    try simp only [Act.put, List.getElem_toArray, List.getElem_cons_succ, List.getElem_cons_zero, List.setIfInBounds_toArray, List.set_cons_zero, List.set_cons_succ]
    refine GoG.take (i := 7) (v := undef) [] rfl (by kernel_rfl) (by kernel_rfl) (by kernel_rfl) (by kernel_rfl) (by kernel_rfl) (by kernel_rfl) (fun _ _ _ h => h) (.inr ⟨by rfl, rfl⟩) ?_
    try simp only [Act.put, List.getElem_toArray, List.getElem_cons_succ, List.getElem_cons_zero, List.setIfInBounds_toArray, List.set_cons_zero, List.set_cons_succ]
    refine GoG.take (i := 8) (v := undef) [] rfl (by kernel_rfl) (by kernel_rfl) (by kernel_rfl) (by kernel_rfl) (by kernel_rfl) (by kernel_rfl) (fun _ _ _ h => h) (.inr ⟨by rfl, rfl⟩) ?_
    try simp only [Act.put, List.getElem_toArray, List.getElem_cons_succ, List.getElem_cons_zero, List.setIfInBounds_toArray, List.set_cons_zero, List.set_cons_succ]
    refine GoG.take (i := 9) (v := undef) [] rfl (by kernel_rfl) (by kernel_rfl) (by kernel_rfl) (by kernel_rfl) (by kernel_rfl) (by kernel_rfl) (fun _ _ _ h => h) (.inr ⟨by rfl, rfl⟩) ?_
    try simp only [Act.put, List.getElem_toArray, List.getElem_cons_succ, List.getElem_cons_zero, List.setIfInBounds_toArray, List.set_cons_zero, List.set_cons_succ]
    refine GoG.take (i := 10) (v := undef) [] rfl (by kernel_rfl) (by kernel_rfl) (by kernel_rfl) (by kernel_rfl) (by kernel_rfl) (by kernel_rfl) (fun _ _ _ h => h) (.inr ⟨by rfl, rfl⟩) ?_
    try simp only [Act.put, List.getElem_toArray, List.getElem_cons_succ, List.getElem_cons_zero, List.setIfInBounds_toArray, List.set_cons_zero, List.set_cons_succ]
    refine GoG.take (i := 11) (v := undef) [] rfl (by kernel_rfl) (by kernel_rfl) (by kernel_rfl) (by kernel_rfl) (by kernel_rfl) (by kernel_rfl) (fun _ _ _ h => h) (.inr ⟨by rfl, rfl⟩) ?_
    try simp only [Act.put, List.getElem_toArray, List.getElem_cons_succ, List.getElem_cons_zero, List.setIfInBounds_toArray, List.set_cons_zero, List.set_cons_succ]
    refine GoG.take (i := 12) (v := undef) [] rfl (by kernel_rfl) (by kernel_rfl) (by kernel_rfl) (by kernel_rfl) (by kernel_rfl) (by kernel_rfl) (fun _ _ _ h => h) (.inr ⟨by rfl, rfl⟩) ?_
    try simp only [Act.put, List.getElem_toArray, List.getElem_cons_succ, List.getElem_cons_zero, List.setIfInBounds_toArray, List.set_cons_zero, List.set_cons_succ]
    refine GoG.take (i := 13) (v := undef) [] rfl (by kernel_rfl) (by kernel_rfl) (by kernel_rfl) (by kernel_rfl) (by kernel_rfl) (by kernel_rfl) (fun _ _ _ h => h) (.inr ⟨by rfl, rfl⟩) ?_
    try simp only [Act.put, List.getElem_toArray, List.getElem_cons_succ, List.getElem_cons_zero, List.setIfInBounds_toArray, List.set_cons_zero, List.set_cons_succ]
    refine GoG.take (i := 14) (v := undef) [] rfl (by kernel_rfl) (by kernel_rfl) (by kernel_rfl) (by kernel_rfl) (by kernel_rfl) (by kernel_rfl) (fun _ _ _ h => h) (.inr ⟨by rfl, rfl⟩) ?_
    try simp only [Act.put, List.getElem_toArray, List.getElem_cons_succ, List.getElem_cons_zero, List.setIfInBounds_toArray, List.set_cons_zero, List.set_cons_succ]
    refine GoG.take (i := 15) (v := undef) [] rfl (by kernel_rfl) (by kernel_rfl) (by kernel_rfl) (by kernel_rfl) (by kernel_rfl) (by kernel_rfl) (fun _ _ _ h => h) (.inr ⟨by rfl, rfl⟩) ?_
    try simp only [Act.put, List.getElem_toArray, List.getElem_cons_succ, List.getElem_cons_zero, List.setIfInBounds_toArray, List.set_cons_zero, List.set_cons_succ]
    refine GoG.take (i := 16) (v := undef) [] rfl (by kernel_rfl) (by kernel_rfl) (by kernel_rfl) (by kernel_rfl) (by kernel_rfl) (by kernel_rfl) (fun _ _ _ h => h) (.inr ⟨by rfl, rfl⟩) ?_
    try simp only [Act.put, List.getElem_toArray, List.getElem_cons_succ, List.getElem_cons_zero, List.setIfInBounds_toArray, List.set_cons_zero, List.set_cons_succ]
    refine GoG.take (i := 17) (v := undef) [] rfl (by kernel_rfl) (by kernel_rfl) (by kernel_rfl) (by kernel_rfl) (by kernel_rfl) (by kernel_rfl) (fun _ _ _ h => h) (.inr ⟨by rfl, rfl⟩) ?_
    try simp only [Act.put, List.getElem_toArray, List.getElem_cons_succ, List.getElem_cons_zero, List.setIfInBounds_toArray, List.set_cons_zero, List.set_cons_succ]
    refine GoG.take (i := 18) (v := undef) [] rfl (by kernel_rfl) (by kernel_rfl) (by kernel_rfl) (by kernel_rfl) (by kernel_rfl) (by kernel_rfl) (fun _ _ _ h => h) (.inr ⟨by rfl, rfl⟩) ?_
    try simp only [Act.put, List.getElem_toArray, List.getElem_cons_succ, List.getElem_cons_zero, List.setIfInBounds_toArray, List.set_cons_zero, List.set_cons_succ]
    refine GoG.take (i := 19) (v := undef) [] rfl (by kernel_rfl) (by kernel_rfl) (by kernel_rfl) (by kernel_rfl) (by kernel_rfl) (by kernel_rfl) (fun _ _ _ h => h) (.inr ⟨by rfl, rfl⟩) ?_
    try simp only [Act.put, List.getElem_toArray, List.getElem_cons_succ, List.getElem_cons_zero, List.setIfInBounds_toArray, List.set_cons_zero, List.set_cons_succ]
    refine GoG.take (i := 20) (v := undef) [] rfl (by kernel_rfl) (by kernel_rfl) (by kernel_rfl) (by kernel_rfl) (by kernel_rfl) (by kernel_rfl) (fun _ _ _ h => h) (.inr ⟨by rfl, rfl⟩) ?_
    try simp only [Act.put, List.getElem_toArray, List.getElem_cons_succ, List.getElem_cons_zero, List.setIfInBounds_toArray, List.set_cons_zero, List.set_cons_succ]
    refine GoG.take (i := 21) (v := undef) [] rfl (by kernel_rfl) (by kernel_rfl) (by kernel_rfl) (by kernel_rfl) (by kernel_rfl) (by kernel_rfl) (fun _ _ _ h => h) (.inr ⟨by rfl, rfl⟩) ?_
    try simp only [Act.put, List.getElem_toArray, List.getElem_cons_succ, List.getElem_cons_zero, List.setIfInBounds_toArray, List.set_cons_zero, List.set_cons_succ]
    refine GoG.take (i := 22) (v := undef) [] rfl (by kernel_rfl) (by kernel_rfl) (by kernel_rfl) (by kernel_rfl) (by kernel_rfl) (by kernel_rfl) (fun _ _ _ h => h) (.inr ⟨by rfl, rfl⟩) ?_
    try simp only [Act.put, List.getElem_toArray, List.getElem_cons_succ, List.getElem_cons_zero, List.setIfInBounds_toArray, List.set_cons_zero, List.set_cons_succ]
    refine GoG.take (i := 23) (v := undef) [] rfl (by kernel_rfl) (by kernel_rfl) (by kernel_rfl) (by kernel_rfl) (by kernel_rfl) (by kernel_rfl) (fun _ _ _ h => h) (.inr ⟨by rfl, rfl⟩) ?_
    try simp only [Act.put, List.getElem_toArray, List.getElem_cons_succ, List.getElem_cons_zero, List.setIfInBounds_toArray, List.set_cons_zero, List.set_cons_succ]
    refine GoG.take (i := 24) (v := undef) [] rfl (by kernel_rfl) (by kernel_rfl) (by kernel_rfl) (by kernel_rfl) (by kernel_rfl) (by kernel_rfl) (fun _ _ _ h => h) (.inr ⟨by rfl, rfl⟩) ?_
    try simp only [Act.put, List.getElem_toArray, List.getElem_cons_succ, List.getElem_cons_zero, List.setIfInBounds_toArray, List.set_cons_zero, List.set_cons_succ]
    refine GoG.take (i := 25) (v := undef) [] rfl (by kernel_rfl) (by kernel_rfl) (by kernel_rfl) (by kernel_rfl) (by kernel_rfl) (by kernel_rfl) (fun _ _ _ h => h) (.inr ⟨by rfl, rfl⟩) ?_
    try simp only [Act.put, List.getElem_toArray, List.getElem_cons_succ, List.getElem_cons_zero, List.setIfInBounds_toArray, List.set_cons_zero, List.set_cons_succ]
    refine GoG.take (i := 26) (v := undef) [] rfl (by kernel_rfl) (by kernel_rfl) (by kernel_rfl) (by kernel_rfl) (by kernel_rfl) (by kernel_rfl) (fun _ _ _ h => h) (.inr ⟨by rfl, rfl⟩) ?_
    try simp only [Act.put, List.getElem_toArray, List.getElem_cons_succ, List.getElem_cons_zero, List.setIfInBounds_toArray, List.set_cons_zero, List.set_cons_succ]
    refine GoG.take (i := 27) (v := undef) [] rfl (by kernel_rfl) (by kernel_rfl) (by kernel_rfl) (by kernel_rfl) (by kernel_rfl) (by kernel_rfl) (fun _ _ _ h => h) (.inr ⟨by rfl, rfl⟩) ?_
    try simp only [Act.put, List.getElem_toArray, List.getElem_cons_succ, List.getElem_cons_zero, List.setIfInBounds_toArray, List.set_cons_zero, List.set_cons_succ]
    refine GoG.take (i := 28) (v := ?_) [] rfl (by kernel_rfl) (by kernel_rfl) (by kernel_rfl) (by kernel_rfl) (by kernel_rfl) (by kernel_rfl) (fun _ _ _ h => h) (yields_free (by rfl) (fun w => ?_)) ?_
    rotate_left
    · go_simp; try (with_reducible rfl)
    try simp only [Act.put, List.getElem_toArray, List.getElem_cons_succ, List.getElem_cons_zero, List.setIfInBounds_toArray, List.set_cons_zero, List.set_cons_succ]
    refine GoG.done (by kernel_rfl) ?_ _
    have BT := Lib.hid (show Below w9.heap.size w9 w11.drew from B911.out.drew)
    obtain ⟨wt, hwt⟩ : ∃ wt, w11.drew = wt := ⟨_, rfl⟩
    rw [hwt] at BT ⊢
    clear hwt
    have BWT := Lib.hid (B9.out.trans (BT.out.mono B9.out.size))
    have K3t := Lib.hid (K3.out.below BT.out)
    have HXt := Lib.hid (HX.out.same (SameS.below BT.out))
    have HEt := Lib.hid (HVW.out.below BWT.out)
    have HU80 := under_any (fun _ => True) U xo yo xc yc i wt (fun _ _ => trivial) HXt.out HEt.out
    obtain ⟨⟨V8, n8, e8⟩, hF8⟩ : ∃ R, underU U i = R := ⟨_, rfl⟩
    have HR8 := Lib.hid (under_right HRU.out i)
    rw [hF8] at HU80 HR8
    unfold unV at HU80
    rw [HL.out, HN.out] at HU80
    have HU8 := Lib.hid HU80
    obtain ⟨c0, c1⟩ := cell2 K3t.out
    clear HU80 hF8
    go_wp2_with fail
    refine HU8.out.mono ?_
    rintro e w12 ⟨ao8, no8, ac8, nc8, rfl, hA, b12⟩
    have HA12 := Lib.hid hA
    have B12 := Lib.hid b12
    clear hA b12 c0 c1 HU8
    unfold unV
    obtain ⟨w13, h13⟩ : ∃ w13, w12.alloc (.cells #[.slice ao8 V8.types.length ac8, .slice no8 V8.named.length nc8] 25) = w13 := ⟨_, rfl⟩
    obtain ⟨k13, q13, z13⟩ := box_new h13
    have K10 := Lib.hid k13
    have Bt13 := Lib.hid (B12.out.trans (q13.mono B12.out.size))
    have HA8 := Lib.hid (HA12.out.same (SameS.below q13))
    have BW13 := Lib.hid (BWT.out.trans (Bt13.out.mono BWT.out.size))
    clear k13 q13 z13
    by_cases he8 : e8 = 0
    case neg =>
      have hq8 : (e8 != 0) = true := by rw [bne_iff_ne]; exact he8
      have hq81 : (e8 != 1) = true := by rw [bne_iff_ne]; exact HR8.out.1
      clear he8
      go_wp2_with fail
      refine (HAL.out _ BW13.out).mono ?_
      rintro e wz ⟨rfl, bz⟩
      have BZ := Lib.hid (BW13.out.trans (bz.mono BW13.out.size))
      clear bz
      go_wp2_with fail
      go_ret
      first | exact ⟨rfl, BZ.out⟩ | exact ⟨by simp, BZ.out⟩
    subst he8
    obtain ⟨hr8, hx8, hi8, hk8⟩ := HR8.out.2 rfl
    have hx8 : Ext U.types V8.types := hx8
    obtain ⟨m, rfl⟩ : ∃ m : Nat, n8 = (m : Int) := ⟨n8.toNat, by unfold inL at hi8; have := of_decide_eq_true hi8; omega⟩
    have hml : m < V8.types.length := by unfold inL at hi8; have := of_decide_eq_true hi8; omega
    have HU90 := under_any (fun _ => True) V8 ao8 no8 ac8 nc8 (m : Int) w13 (fun _ _ => trivial) HA8.out (HVW.out.below BW13.out)
    rw [under_again hr8 hi8 hk8] at HU90
    unfold unV at HU90
    have HU9 := Lib.hid HU90
    have H8 := Lib.hid (And.intro hr8 (And.intro hx8 hk8))
    obtain ⟨a0, a1⟩ := cell2 K10.out
    have hml' := Lib.hid hml
    clear HU90 hr8 hx8 hi8 hk8 hml
    go_wp2_with fail
    refine HU9.out.mono ?_
    rintro e w14 ⟨ao9, no9, ac9, nc9, rfl, hA, b14⟩
    have HA14 := Lib.hid hA
    have B14 := Lib.hid b14
    clear hA b14 a0 a1 HU9 h13
    unfold unV
    obtain ⟨w15, h15⟩ : ∃ w15, w14.alloc (.cells #[.slice ao9 V8.types.length ac9, .slice no9 V8.named.length nc9] 25) = w15 := ⟨_, rfl⟩
    obtain ⟨k15, q15, z15⟩ := box_new h15
    have K13 := Lib.hid k15
    have B1315 := Lib.hid (B14.out.trans (q15.mono B14.out.size))
    have HA9 := Lib.hid (HA14.out.same (SameS.below q15))
    have Bt15 := Lib.hid (Bt13.out.trans (B1315.out.mono Bt13.out.size))
    have BW15 := Lib.hid (BWT.out.trans (Bt15.out.mono BWT.out.size))
    have HA8 := Lib.hid (HA8.out.same (SameS.below B1315.out))
    have K10 := Lib.hid (K10.out.below B1315.out)
    clear k15 q15 z15
    have hlx : L2 ≤ V8.types.length := by rw [← HL.out]; exact H8.out.2.1.2
    have hlc : L2 ≤ ac8 := Nat.le_trans hlx HA8.out.tc
    have htk : V8.types.take L2 = U.types := by rw [← HL.out]; exact H8.out.2.1.1
    have hlen : (V8.types.take L2).length = L2 := by rw [List.length_take]; omega
    have hml := hml'.out
    obtain ⟨xb, xof, rfl, hxb, hxc⟩ := HA8.out.out.types.cells (show 0 < V8.types.length by omega)
    obtain ⟨_, _, _, _, x0, -, -, -, -, -, -, -⟩ := hxc m hml
    obtain ⟨kd, hkd⟩ : ∃ k, V8.types[m].kind = k := ⟨_, rfl⟩
    rw [hkd] at x0
    have hk8 : (kd == 8) = false := by
      rw [beq_eq_false_iff_ne, ← hkd]
      have := H8.out.2.2
      rw [kindAt_eq hml] at this
      exact this
    have HUR80 := fun w (hb : Below w15.heap.size w15 w) => right_uany V8 (some ⟨xb, xof, none⟩) no8 ac8 nc8 w (HA8.out.out.below hb) (HVW.out.below (BW15.out.trans (hb.mono BW15.out.size))) (HVW.out.below (BW15.out.trans (hb.mono BW15.out.size))).max
    have HLK80 := fun w (hb : Below w15.heap.size w15 w) => reflike_uany V8 V8 (some ⟨xb, xof, none⟩) no8 ao9 no9 ac8 nc8 ac9 nc9 w (HA8.out.out.below hb) (HA9.out.out.below hb)
    rw [decide_eq_true (show V8 = V8 from rfl)] at HLK80
    rw [H8.out.1] at HUR80
    have HXu := Lib.hid (HXt.out.same (SameS.below Bt15.out))
    have HAR80 := fun w (hb : Below w15.heap.size w15 w) => arenas_any (V8.types.take L2) U.types (some ⟨xb, xof, none⟩) xo ac8 xc w ((HA8.out.out.types.take L2).below hb) (HXu.out.out.types.below hb) (by rw [hlen]; have := HX.out.tl; rw [HL.out] at this; exact this) HX.out.tl
    rw [hlen, htk, HL.out, decide_eq_true (show U.types = U.types from rfl)] at HAR80
    unfold unV at HUR80 HLK80
    have HUR8 := Lib.hid HUR80
    have HLK8 := Lib.hid HLK80
    have HAR8 := Lib.hid HAR80
    obtain ⟨b10, hb10⟩ : ∃ b, w12.heap.size = b := ⟨_, rfl⟩
    obtain ⟨b13, hb13⟩ : ∃ b, w14.heap.size = b := ⟨_, rfl⟩
    have K10 := Lib.hid (show BlockAt w15 b10 _ _ by rw [← hb10]; exact K10.out)
    have K13 := Lib.hid (show BlockAt w15 b13 _ _ by rw [← hb13]; exact K13.out)
    have K3u := Lib.hid (K3t.out.below Bt15.out)
    obtain ⟨a0, a1⟩ := cell2 K10.out
    obtain ⟨g0, g1⟩ := cell2 K13.out
    obtain ⟨c0, c1⟩ := cell2 K3u.out
    have hmI : (m : Int) < (V8.types.length : Int) := by omega
    have hLi : (L2 : Int) ≤ (ac8 : Int) := by omega
    clear HUR80 HLK80 HAR80 hlx htk hlen hxb hxc hkd
    go_upto_region 12 with fail
    try rw [hb10]
    try rw [hb13]
    clear h15 hb10 hb13
    have Bu0 := Lib.hid (Below.refl w15.heap.size w15).drew
    refine GoG.start [(39, ⟨b10, 0, none⟩, .slice (some ⟨xb, xof, none⟩) V8.types.length ac8), (39, ⟨b10, 1, none⟩, .slice no8 V8.named.length nc8), (39, ⟨b13, 0, none⟩, .slice ao9 V8.types.length ac9), (39, ⟨b13, 1, none⟩, .slice no9 V8.named.length nc9), (39, ⟨b3, 0, none⟩, .slice xo L2 xc), (39, ⟨b3, 1, none⟩, .slice yo n2 yc), (39, ⟨xb, xof + m * 5, none⟩, .int .i64 kd)] (by kernel_rfl) ?_ ?_
    · exact Keeps.cons (by first | exact a0 | assumption) (Keeps.cons (by first | exact a1 | assumption) (Keeps.cons (by first | exact g0 | assumption) (Keeps.cons (by first | exact g1 | assumption) (Keeps.cons (by first | exact c0 | assumption) (Keeps.cons (by first | exact c1 | assumption) (Keeps.cons (by first | exact x0 | assumption) (Keeps.nil)))))))
    refine GoG.take (i := 0) (v := ?_) [39] rfl (by kernel_rfl) (by kernel_rfl) (by kernel_rfl) (by kernel_rfl) (by kernel_rfl) (by kernel_rfl) (fun _ _ _ h => h) (.inl ⟨by rfl, fun WW hS => ?_⟩) ?_
    rotate_left
    · have g0 : WW.cell? ⟨b10, 0, none⟩ = some (.slice (some ⟨xb, xof, none⟩) V8.types.length ac8) := hS (39, ⟨b10, 0, none⟩, .slice (some ⟨xb, xof, none⟩) V8.types.length ac8) (by simp) (by simp)
      have g1 : WW.cell? ⟨b10, 1, none⟩ = some (.slice no8 V8.named.length nc8) := hS (39, ⟨b10, 1, none⟩, .slice no8 V8.named.length nc8) (by simp) (by simp)
      clear hS
      go_simp; try (with_reducible rfl)
    try simp only [Act.put, List.getElem_toArray, List.getElem_cons_succ, List.getElem_cons_zero, List.setIfInBounds_toArray, List.set_cons_zero, List.set_cons_succ]
    refine GoG.one (i := 1) rfl (by kernel_rfl) (fun K hK => ?_)
    go_simp
    refine (HUR8.out _ Bu0.out).mono ?_
    rintro e u1 ⟨rfl, bq⟩
    have Bu1 := Lib.hid (Bu0.out.trans (bq.mono Bu0.out.size))
    have a0n := (bq.cell (p := ⟨b10, 0, none⟩) (cell_ltB a0)).trans a0
    have a1n := (bq.cell (p := ⟨b10, 1, none⟩) (cell_ltB a1)).trans a1
    have g0n := (bq.cell (p := ⟨b13, 0, none⟩) (cell_ltB g0)).trans g0
    have g1n := (bq.cell (p := ⟨b13, 1, none⟩) (cell_ltB g1)).trans g1
    have c0n := (bq.cell (p := ⟨b3, 0, none⟩) (cell_ltB c0)).trans c0
    have c1n := (bq.cell (p := ⟨b3, 1, none⟩) (cell_ltB c1)).trans c1
    have x0n := (bq.cell (p := ⟨xb, xof + m * 5, none⟩) (cell_ltB x0)).trans x0
    clear a0 a1 g0 g1 c0 c1 x0
    have a0 := a0n
    have a1 := a1n
    have g0 := g0n
    have g1 := g1n
    have c0 := c0n
    have c1 := c1n
    have x0 := x0n
    clear bq a0n a1n g0n g1n c0n c1n x0n
    refine hK.out _ _ (Keeps.cons (by first | exact a0 | assumption) (Keeps.cons (by first | exact a1 | assumption) (Keeps.cons (by first | exact g0 | assumption) (Keeps.cons (by first | exact g1 | assumption) (Keeps.cons (by first | exact c0 | assumption) (Keeps.cons (by first | exact c1 | assumption) (Keeps.cons (by first | exact x0 | assumption) (Keeps.nil)))))))) ?_
    clear hK K
    try simp only [Act.put, List.getElem_toArray, List.getElem_cons_succ, List.getElem_cons_zero, List.setIfInBounds_toArray, List.set_cons_zero, List.set_cons_succ]
    refine GoG.take (i := 2) (v := ?_) [] rfl (by kernel_rfl) (by kernel_rfl) (by kernel_rfl) (by kernel_rfl) (by kernel_rfl) (by kernel_rfl) (fun _ _ _ h => h) (yields_free (by rfl) (fun w => ?_)) ?_
    rotate_left
    · go_simp; try (with_reducible rfl)
    try simp only [Act.put, List.getElem_toArray, List.getElem_cons_succ, List.getElem_cons_zero, List.setIfInBounds_toArray, List.set_cons_zero, List.set_cons_succ]
    refine GoG.take (i := 3) (v := ?_) [] rfl (by kernel_rfl) (by kernel_rfl) (by kernel_rfl) (by kernel_rfl) (by kernel_rfl) (by kernel_rfl) (fun _ _ _ h => h) (yields_free (by rfl) (fun w => ?_)) ?_
    rotate_left
    · go_simp; try (with_reducible rfl)
    try simp only [Act.put, List.getElem_toArray, List.getElem_cons_succ, List.getElem_cons_zero, List.setIfInBounds_toArray, List.set_cons_zero, List.set_cons_succ]
    refine GoG.take (i := 4) (v := ?_) [] rfl (by kernel_rfl) (by kernel_rfl) (by kernel_rfl) (by kernel_rfl) (by kernel_rfl) (by kernel_rfl) (fun _ _ _ h => h) (yields_free (by rfl) (fun w => ?_)) ?_
    rotate_left
    · go_simp; try (with_reducible rfl)
    try simp only [Act.put, List.getElem_toArray, List.getElem_cons_succ, List.getElem_cons_zero, List.setIfInBounds_toArray, List.set_cons_zero, List.set_cons_succ]
    refine GoG.take (i := 5) (v := ?_) [] rfl (by kernel_rfl) (by kernel_rfl) (by kernel_rfl) (by kernel_rfl) (by kernel_rfl) (by kernel_rfl) (fun _ _ _ h => h) (yields_free (by rfl) (fun w => ?_)) ?_
    rotate_left
    · go_simp; try (with_reducible rfl)
    try simp only [Act.put, List.getElem_toArray, List.getElem_cons_succ, List.getElem_cons_zero, List.setIfInBounds_toArray, List.set_cons_zero, List.set_cons_succ]
    refine GoG.take (i := 6) (v := ?_) [] rfl (by kernel_rfl) (by kernel_rfl) (by kernel_rfl) (by kernel_rfl) (by kernel_rfl) (by kernel_rfl) (fun _ _ _ h => h) (yields_free (by rfl) (fun w => ?_)) ?_
    rotate_left
    · go_simp; try (with_reducible rfl)
    try simp only [Act.put, List.getElem_toArray, List.getElem_cons_succ, List.getElem_cons_zero, List.setIfInBounds_toArray, List.set_cons_zero, List.set_cons_succ]
    refine GoG.take (i := 7) (v := ?_) [] rfl (by kernel_rfl) (by kernel_rfl) (by kernel_rfl) (by kernel_rfl) (by kernel_rfl) (by kernel_rfl) (fun _ _ _ h => h) (yields_free (by rfl) (fun w => ?_)) ?_
    rotate_left
    · go_simp; try (with_reducible rfl)
    try simp only [Act.put, List.getElem_toArray, List.getElem_cons_succ, List.getElem_cons_zero, List.setIfInBounds_toArray, List.set_cons_zero, List.set_cons_succ]
    refine GoG.take (i := 8) (v := ?_) [] rfl (by kernel_rfl) (by kernel_rfl) (by kernel_rfl) (by kernel_rfl) (by kernel_rfl) (by kernel_rfl) (fun _ _ _ h => h) (yields_free (by rfl) (fun w => ?_)) ?_
    rotate_left
    · go_simp; try (with_reducible rfl)
    try simp only [Act.put, List.getElem_toArray, List.getElem_cons_succ, List.getElem_cons_zero, List.setIfInBounds_toArray, List.set_cons_zero, List.set_cons_succ]
    refine GoG.take (i := 9) (v := ?_) [] rfl (by kernel_rfl) (by kernel_rfl) (by kernel_rfl) (by kernel_rfl) (by kernel_rfl) (by kernel_rfl) (fun _ _ _ h => h) (yields_free (by rfl) (fun w => ?_)) ?_
    rotate_left
    · go_simp; try (with_reducible rfl)
    try simp only [Act.put, List.getElem_toArray, List.getElem_cons_succ, List.getElem_cons_zero, List.setIfInBounds_toArray, List.set_cons_zero, List.set_cons_succ]
    refine GoG.take (i := 10) (v := ?_) [] rfl (by kernel_rfl) (by kernel_rfl) (by kernel_rfl) (by kernel_rfl) (by kernel_rfl) (by kernel_rfl) (fun _ _ _ h => h) (yields_free (by rfl) (fun w => ?_)) ?_
    rotate_left
    · go_simp; try (with_reducible rfl)
    try simp only [Act.put, List.getElem_toArray, List.getElem_cons_succ, List.getElem_cons_zero, List.setIfInBounds_toArray, List.set_cons_zero, List.set_cons_succ]
    refine GoG.take (i := 11) (v := ?_) [] rfl (by kernel_rfl) (by kernel_rfl) (by kernel_rfl) (by kernel_rfl) (by kernel_rfl) (by kernel_rfl) (fun _ _ _ h => h) (yields_free (by rfl) (fun w => ?_)) ?_
    rotate_left
    · go_simp; try (with_reducible rfl)
    try simp only [Act.put, List.getElem_toArray, List.getElem_cons_succ, List.getElem_cons_zero, List.setIfInBounds_toArray, List.set_cons_zero, List.set_cons_succ]
    refine GoG.take (i := 12) (v := ?_) [] rfl (by kernel_rfl) (by kernel_rfl) (by kernel_rfl) (by kernel_rfl) (by kernel_rfl) (by kernel_rfl) (fun _ _ _ h => h) (yields_free (by rfl) (fun w => ?_)) ?_
    rotate_left
    · go_simp; try (with_reducible rfl)
    try simp only [Act.put, List.getElem_toArray, List.getElem_cons_succ, List.getElem_cons_zero, List.setIfInBounds_toArray, List.set_cons_zero, List.set_cons_succ]
    refine GoG.take (i := 13) (v := ?_) [39] rfl (by kernel_rfl) (by kernel_rfl) (by kernel_rfl) (by kernel_rfl) (by kernel_rfl) (by kernel_rfl) (fun _ _ _ h => h) (.inl ⟨by rfl, fun WW hS => ?_⟩) ?_
    rotate_left
    · have g0 : WW.cell? ⟨b10, 0, none⟩ = some (.slice (some ⟨xb, xof, none⟩) V8.types.length ac8) := hS (39, ⟨b10, 0, none⟩, .slice (some ⟨xb, xof, none⟩) V8.types.length ac8) (by simp) (by simp)
      have g1 : WW.cell? ⟨b10, 1, none⟩ = some (.slice no8 V8.named.length nc8) := hS (39, ⟨b10, 1, none⟩, .slice no8 V8.named.length nc8) (by simp) (by simp)
      clear hS
      go_simp; try (with_reducible rfl)
    try simp only [Act.put, List.getElem_toArray, List.getElem_cons_succ, List.getElem_cons_zero, List.setIfInBounds_toArray, List.set_cons_zero, List.set_cons_succ]
    refine GoG.take (i := 14) (v := ?_) [39] rfl (by kernel_rfl) (by kernel_rfl) (by kernel_rfl) (by kernel_rfl) (by kernel_rfl) (by kernel_rfl) (fun _ _ _ h => h) (.inl ⟨by rfl, fun WW hS => ?_⟩) ?_
    rotate_left
    · have g0 : WW.cell? ⟨b13, 0, none⟩ = some (.slice ao9 V8.types.length ac9) := hS (39, ⟨b13, 0, none⟩, .slice ao9 V8.types.length ac9) (by simp) (by simp)
      have g1 : WW.cell? ⟨b13, 1, none⟩ = some (.slice no9 V8.named.length nc9) := hS (39, ⟨b13, 1, none⟩, .slice no9 V8.named.length nc9) (by simp) (by simp)
      clear hS
      go_simp; try (with_reducible rfl)
    try simp only [Act.put, List.getElem_toArray, List.getElem_cons_succ, List.getElem_cons_zero, List.setIfInBounds_toArray, List.set_cons_zero, List.set_cons_succ]
    refine GoG.one (i := 15) rfl (by kernel_rfl) (fun K hK => ?_)
    go_simp
    refine (HLK8.out _ Bu1.out).mono ?_
    rintro e u2 ⟨rfl, bq⟩
    have Bu2 := Lib.hid (Bu1.out.trans (bq.mono Bu1.out.size))
    have a0n := (bq.cell (p := ⟨b10, 0, none⟩) (cell_ltB a0)).trans a0
    have a1n := (bq.cell (p := ⟨b10, 1, none⟩) (cell_ltB a1)).trans a1
    have g0n := (bq.cell (p := ⟨b13, 0, none⟩) (cell_ltB g0)).trans g0
    have g1n := (bq.cell (p := ⟨b13, 1, none⟩) (cell_ltB g1)).trans g1
    have c0n := (bq.cell (p := ⟨b3, 0, none⟩) (cell_ltB c0)).trans c0
    have c1n := (bq.cell (p := ⟨b3, 1, none⟩) (cell_ltB c1)).trans c1
    have x0n := (bq.cell (p := ⟨xb, xof + m * 5, none⟩) (cell_ltB x0)).trans x0
    clear a0 a1 g0 g1 c0 c1 x0
    have a0 := a0n
    have a1 := a1n
    have g0 := g0n
    have g1 := g1n
    have c0 := c0n
    have c1 := c1n
    have x0 := x0n
    clear bq a0n a1n g0n g1n c0n c1n x0n
    refine hK.out _ _ (Keeps.cons (by first | exact a0 | assumption) (Keeps.cons (by first | exact a1 | assumption) (Keeps.cons (by first | exact g0 | assumption) (Keeps.cons (by first | exact g1 | assumption) (Keeps.cons (by first | exact c0 | assumption) (Keeps.cons (by first | exact c1 | assumption) (Keeps.cons (by first | exact x0 | assumption) (Keeps.nil)))))))) ?_
    clear hK K
    try simp only [Act.put, List.getElem_toArray, List.getElem_cons_succ, List.getElem_cons_zero, List.setIfInBounds_toArray, List.set_cons_zero, List.set_cons_succ]
    refine GoG.take (i := 16) (v := ?_) [] rfl (by kernel_rfl) (by kernel_rfl) (by kernel_rfl) (by kernel_rfl) (by kernel_rfl) (by kernel_rfl) (fun _ _ _ h => h) (yields_free (by rfl) (fun w => ?_)) ?_
    rotate_left
    · go_simp; try (with_reducible rfl)
    try simp only [Act.put, List.getElem_toArray, List.getElem_cons_succ, List.getElem_cons_zero, List.setIfInBounds_toArray, List.set_cons_zero, List.set_cons_succ]
    refine GoG.take (i := 17) (v := ?_) [] rfl (by kernel_rfl) (by kernel_rfl) (by kernel_rfl) (by kernel_rfl) (by kernel_rfl) (by kernel_rfl) (fun _ _ _ h => h) (yields_free (by rfl) (fun w => ?_)) ?_
    rotate_left
    · go_simp; try (with_reducible rfl)
    try simp only [Act.put, List.getElem_toArray, List.getElem_cons_succ, List.getElem_cons_zero, List.setIfInBounds_toArray, List.set_cons_zero, List.set_cons_succ]
    refine GoG.take (i := 18) (v := ?_) [] rfl (by kernel_rfl) (by kernel_rfl) (by kernel_rfl) (by kernel_rfl) (by kernel_rfl) (by kernel_rfl) (fun _ _ _ h => h) (yields_free (by rfl) (fun w => ?_)) ?_
    rotate_left
    · go_simp; try (with_reducible rfl)
    try simp only [Act.put, List.getElem_toArray, List.getElem_cons_succ, List.getElem_cons_zero, List.setIfInBounds_toArray, List.set_cons_zero, List.set_cons_succ]
    refine GoG.take (i := 19) (v := ?_) [] rfl (by kernel_rfl) (by kernel_rfl) (by kernel_rfl) (by kernel_rfl) (by kernel_rfl) (by kernel_rfl) (fun _ _ _ h => h) (yields_free (by rfl) (fun w => ?_)) ?_
    rotate_left
    · go_simp; try (with_reducible rfl)
    try simp only [Act.put, List.getElem_toArray, List.getElem_cons_succ, List.getElem_cons_zero, List.setIfInBounds_toArray, List.set_cons_zero, List.set_cons_succ]
    refine GoG.take (i := 20) (v := ?_) [39] rfl (by kernel_rfl) (by kernel_rfl) (by kernel_rfl) (by kernel_rfl) (by kernel_rfl) (by kernel_rfl) (fun _ _ _ h => h) (yields_load 39 ⟨b10, 0, none⟩ (.slice (some ⟨xb, xof, none⟩) V8.types.length ac8) (by simp) (by decide) (by rfl) (fun w hw => ?_)) ?_
    rotate_left
    · go_simp; try (with_reducible rfl)
    try simp only [Act.put, List.getElem_toArray, List.getElem_cons_succ, List.getElem_cons_zero, List.setIfInBounds_toArray, List.set_cons_zero, List.set_cons_succ]
    refine GoG.take (i := 21) (v := ?_) [] rfl (by kernel_rfl) (by kernel_rfl) (by kernel_rfl) (by kernel_rfl) (by kernel_rfl) (by kernel_rfl) (fun _ _ _ h => h) (yields_free (by rfl) (fun w => ?_)) ?_
    rotate_left
    · go_simp; try (with_reducible rfl)
    try simp only [Act.put, List.getElem_toArray, List.getElem_cons_succ, List.getElem_cons_zero, List.setIfInBounds_toArray, List.set_cons_zero, List.set_cons_succ]
    refine GoG.take (i := 22) (v := ?_) [] rfl (by kernel_rfl) (by kernel_rfl) (by kernel_rfl) (by kernel_rfl) (by kernel_rfl) (by kernel_rfl) (fun _ _ _ h => h) (yields_free (by rfl) (fun w => ?_)) ?_
    rotate_left
    · go_simp; try (with_reducible rfl)
    try simp only [Act.put, List.getElem_toArray, List.getElem_cons_succ, List.getElem_cons_zero, List.setIfInBounds_toArray, List.set_cons_zero, List.set_cons_succ]
    refine GoG.take (i := 23) (v := ?_) [] rfl (by kernel_rfl) (by kernel_rfl) (by kernel_rfl) (by kernel_rfl) (by kernel_rfl) (by kernel_rfl) (fun _ _ _ h => h) (yields_free (by rfl) (fun w => ?_)) ?_
    rotate_left
    · go_simp; try (with_reducible rfl)
    try simp only [Act.put, List.getElem_toArray, List.getElem_cons_succ, List.getElem_cons_zero, List.setIfInBounds_toArray, List.set_cons_zero, List.set_cons_succ]
    refine GoG.take (i := 24) (v := ?_) [39] rfl (by kernel_rfl) (by kernel_rfl) (by kernel_rfl) (by kernel_rfl) (by kernel_rfl) (by kernel_rfl) (fun _ _ _ h => h) (yields_load 39 ⟨xb, xof + m * 5, none⟩ (.int .i64 kd) (by simp) (by decide) (by rfl) (fun w hw => ?_)) ?_
    rotate_left
    · go_simp; try (with_reducible rfl)
    try simp only [Act.put, List.getElem_toArray, List.getElem_cons_succ, List.getElem_cons_zero, List.setIfInBounds_toArray, List.set_cons_zero, List.set_cons_succ]
    refine GoG.take (i := 25) (v := ?_) [] rfl (by kernel_rfl) (by kernel_rfl) (by kernel_rfl) (by kernel_rfl) (by kernel_rfl) (by kernel_rfl) (fun _ _ _ h => h) (yields_free (by rfl) (fun w => ?_)) ?_
    rotate_left
    · go_simp; try (with_reducible rfl)
    try simp only [Act.put, List.getElem_toArray, List.getElem_cons_succ, List.getElem_cons_zero, List.setIfInBounds_toArray, List.set_cons_zero, List.set_cons_succ]
    refine GoG.take (i := 26) (v := ?_) [] rfl (by kernel_rfl) (by kernel_rfl) (by kernel_rfl) (by kernel_rfl) (by kernel_rfl) (by kernel_rfl) (fun _ _ _ h => h) (yields_free (by rfl) (fun w => ?_)) ?_
    rotate_left
    · go_simp; try (with_reducible rfl)
    try simp only [Act.put, List.getElem_toArray, List.getElem_cons_succ, List.getElem_cons_zero, List.setIfInBounds_toArray, List.set_cons_zero, List.set_cons_succ]
    refine GoG.take (i := 27) (v := ?_) [] rfl (by kernel_rfl) (by kernel_rfl) (by kernel_rfl) (by kernel_rfl) (by kernel_rfl) (by kernel_rfl) (fun _ _ _ h => h) (yields_free (by rfl) (fun w => ?_)) ?_
    rotate_left
    · go_simp; try (with_reducible rfl)
    try simp only [Act.put, List.getElem_toArray, List.getElem_cons_succ, List.getElem_cons_zero, List.setIfInBounds_toArray, List.set_cons_zero, List.set_cons_succ]
    refine GoG.take (i := 28) (v := ?_) [] rfl (by kernel_rfl) (by kernel_rfl) (by kernel_rfl) (by kernel_rfl) (by kernel_rfl) (by kernel_rfl) (fun _ _ _ h => h) (yields_free (by rfl) (fun w => ?_)) ?_
    rotate_left
    · go_simp; try (with_reducible rfl)
    try simp only [Act.put, List.getElem_toArray, List.getElem_cons_succ, List.getElem_cons_zero, List.setIfInBounds_toArray, List.set_cons_zero, List.set_cons_succ]
    refine GoG.take (i := 29) (v := ?_) [39] rfl (by kernel_rfl) (by kernel_rfl) (by kernel_rfl) (by kernel_rfl) (by kernel_rfl) (by kernel_rfl) (fun _ _ _ h => h) (yields_load 39 ⟨b10, 0, none⟩ (.slice (some ⟨xb, xof, none⟩) V8.types.length ac8) (by simp) (by decide) (by rfl) (fun w hw => ?_)) ?_
    rotate_left
    · go_simp; try (with_reducible rfl)
    try simp only [Act.put, List.getElem_toArray, List.getElem_cons_succ, List.getElem_cons_zero, List.setIfInBounds_toArray, List.set_cons_zero, List.set_cons_succ]
    refine GoG.take (i := 30) (v := ?_) [] rfl (by kernel_rfl) (by kernel_rfl) (by kernel_rfl) (by kernel_rfl) (by kernel_rfl) (by kernel_rfl) (fun _ _ _ h => h) (yields_free (by rfl) (fun w => ?_)) ?_
    rotate_left
    · go_simp; try (with_reducible rfl)
    try simp only [Act.put, List.getElem_toArray, List.getElem_cons_succ, List.getElem_cons_zero, List.setIfInBounds_toArray, List.set_cons_zero, List.set_cons_succ]
    refine GoG.take (i := 31) (v := ?_) [39] rfl (by kernel_rfl) (by kernel_rfl) (by kernel_rfl) (by kernel_rfl) (by kernel_rfl) (by kernel_rfl) (fun _ _ _ h => h) (yields_load 39 ⟨b3, 0, none⟩ (.slice xo L2 xc) (by simp) (by decide) (by rfl) (fun w hw => ?_)) ?_
    rotate_left
    · go_simp; try (with_reducible rfl)
    try simp only [Act.put, List.getElem_toArray, List.getElem_cons_succ, List.getElem_cons_zero, List.setIfInBounds_toArray, List.set_cons_zero, List.set_cons_succ]
    refine GoG.take (i := 32) (v := ?_) [] rfl (by kernel_rfl) (by kernel_rfl) (by kernel_rfl) (by kernel_rfl) (by kernel_rfl) (by kernel_rfl) (fun _ _ _ h => h) (yields_free (by rfl) (fun w => ?_)) ?_
    rotate_left
    · go_simp; try (with_reducible rfl)
    try simp only [Act.put, List.getElem_toArray, List.getElem_cons_succ, List.getElem_cons_zero, List.setIfInBounds_toArray, List.set_cons_zero, List.set_cons_succ]
    refine GoG.take (i := 33) (v := ?_) [] rfl (by kernel_rfl) (by kernel_rfl) (by kernel_rfl) (by kernel_rfl) (by kernel_rfl) (by kernel_rfl) (fun _ _ _ h => h) (yields_free (by rfl) (fun w => ?_)) ?_
    rotate_left
    · go_simp; try (with_reducible rfl)
    try simp only [Act.put, List.getElem_toArray, List.getElem_cons_succ, List.getElem_cons_zero, List.setIfInBounds_toArray, List.set_cons_zero, List.set_cons_succ]
    refine GoG.take (i := 34) (v := ?_) [] rfl (by kernel_rfl) (by kernel_rfl) (by kernel_rfl) (by kernel_rfl) (by kernel_rfl) (by kernel_rfl) (fun _ _ _ h => h) (yields_free (by rfl) (fun w => ?_)) ?_
    rotate_left
    · go_simp; try (with_reducible rfl)
    try simp only [Act.put, List.getElem_toArray, List.getElem_cons_succ, List.getElem_cons_zero, List.setIfInBounds_toArray, List.set_cons_zero, List.set_cons_succ]
    refine GoG.take (i := 35) (v := ?_) [39] rfl (by kernel_rfl) (by kernel_rfl) (by kernel_rfl) (by kernel_rfl) (by kernel_rfl) (by kernel_rfl) (fun _ _ _ h => h) (yields_load 39 ⟨b3, 0, none⟩ (.slice xo L2 xc) (by simp) (by decide) (by rfl) (fun w hw => ?_)) ?_
    rotate_left
    · go_simp; try (with_reducible rfl)
    try simp only [Act.put, List.getElem_toArray, List.getElem_cons_succ, List.getElem_cons_zero, List.setIfInBounds_toArray, List.set_cons_zero, List.set_cons_succ]
    refine GoG.one (i := 36) rfl (by kernel_rfl) (fun K hK => ?_)
    go_simp
    refine (HAR8.out _ Bu2.out).mono ?_
    rintro e u3 ⟨rfl, bq⟩
    have Bu3 := Lib.hid (Bu2.out.trans (bq.mono Bu2.out.size))
    have a0n := (bq.cell (p := ⟨b10, 0, none⟩) (cell_ltB a0)).trans a0
    have a1n := (bq.cell (p := ⟨b10, 1, none⟩) (cell_ltB a1)).trans a1
    have g0n := (bq.cell (p := ⟨b13, 0, none⟩) (cell_ltB g0)).trans g0
    have g1n := (bq.cell (p := ⟨b13, 1, none⟩) (cell_ltB g1)).trans g1
    have c0n := (bq.cell (p := ⟨b3, 0, none⟩) (cell_ltB c0)).trans c0
    have c1n := (bq.cell (p := ⟨b3, 1, none⟩) (cell_ltB c1)).trans c1
    have x0n := (bq.cell (p := ⟨xb, xof + m * 5, none⟩) (cell_ltB x0)).trans x0
    clear a0 a1 g0 g1 c0 c1 x0
    have a0 := a0n
    have a1 := a1n
    have g0 := g0n
    have g1 := g1n
    have c0 := c0n
    have c1 := c1n
    have x0 := x0n
    clear bq a0n a1n g0n g1n c0n c1n x0n
    refine hK.out _ _ (Keeps.cons (by first | exact a0 | assumption) (Keeps.cons (by first | exact a1 | assumption) (Keeps.cons (by first | exact g0 | assumption) (Keeps.cons (by first | exact g1 | assumption) (Keeps.cons (by first | exact c0 | assumption) (Keeps.cons (by first | exact c1 | assumption) (Keeps.cons (by first | exact x0 | assumption) (Keeps.nil)))))))) ?_
    clear hK K
    try simp only [Act.put, List.getElem_toArray, List.getElem_cons_succ, List.getElem_cons_zero, List.setIfInBounds_toArray, List.set_cons_zero, List.set_cons_succ]
    refine GoG.take (i := 37) (v := ?_) [] rfl (by kernel_rfl) (by kernel_rfl) (by kernel_rfl) (by kernel_rfl) (by kernel_rfl) (by kernel_rfl) (fun _ _ _ h => h) (yields_free (by rfl) (fun w => ?_)) ?_
    rotate_left
    · go_simp; try (with_reducible rfl)
    try simp only [Act.put, List.getElem_toArray, List.getElem_cons_succ, List.getElem_cons_zero, List.setIfInBounds_toArray, List.set_cons_zero, List.set_cons_succ]
    refine GoG.take (i := 38) (v := ?_) [] rfl (by kernel_rfl) (by kernel_rfl) (by kernel_rfl) (by kernel_rfl) (by kernel_rfl) (by kernel_rfl) (fun _ _ _ h => h) (yields_free (by rfl) (fun w => ?_)) ?_
    rotate_left
    · go_simp; try (with_reducible rfl)
    try simp only [Act.put, List.getElem_toArray, List.getElem_cons_succ, List.getElem_cons_zero, List.setIfInBounds_toArray, List.set_cons_zero, List.set_cons_succ]
    refine GoG.done (by kernel_rfl) ?_ _
    have BW3 := Lib.hid (BW15.out.trans (Bu3.out.mono BW15.out.size))
    have Bt3 := Lib.hid (Bt15.out.trans (Bu3.out.mono Bt15.out.size))
    clear a0 a1 g0 g1 c0 c1 x0
    have K3t := Lib.hid (K3t.out.below Bt3.out)
    have HXt := Lib.hid (HXt.out.same (SameS.below Bt3.out))
    have HM0 := methods_any (fun _ => True) U xo yo xc yc i u3 (fun _ _ => trivial) HXt.out (HVW.out.below BW3.out)
    obtain ⟨⟨V14, ms, e14⟩, hF14⟩ : ∃ R, methU U i = R := ⟨_, rfl⟩
    have HR14 := Lib.hid (meth_right HRU.out i)
    rw [hF14] at HM0 HR14
    unfold unV at HM0
    rw [HL.out, HN.out] at HM0
    have HM := Lib.hid HM0
    obtain ⟨c0, c1⟩ := cell2 K3t.out
    clear HM0 hF14
    go_wp2_with fail
    refine HM.out.mono ?_
    rintro e w16 ⟨ao14, no14, ac14, nc14, lo, lc, rfl, hA, hR, hlc14, b16⟩
    have HA16 := Lib.hid hA
    have HR16 := Lib.hid hR.out
    have B16 := Lib.hid b16
    have HLC := Lib.hid hlc14
    clear hA hR b16 c0 c1 HM hlc14
    unfold unV
    obtain ⟨ml, hml2⟩ : ∃ ml, ms.length = ml := ⟨_, rfl⟩
    have HML := Lib.hid hml2
    have hlc2 : ml ≤ lc := by rw [← hml2]; exact HLC.out
    rw [hml2]
    obtain ⟨w17, h17⟩ : ∃ w17, w16.alloc (.cells #[.slice ao14 V14.types.length ac14, .slice no14 V14.named.length nc14] 25) = w17 := ⟨_, rfl⟩
    obtain ⟨k17, q17, z17⟩ := box_new h17
    have K16 := Lib.hid k17
    have HA17 := Lib.hid (HA16.out.same (SameS.below q17))
    have HR17 := Lib.hid (HR16.out.below q17)
    have B317 := Lib.hid (B16.out.trans (q17.mono B16.out.size))
    have BW17 := Lib.hid (BW3.out.trans (B317.out.mono BW3.out.size))
    clear k17 q17 z17 hml2
    by_cases he14 : e14 = 0
    case neg =>
      have hq14 : (e14 != 0) = true := by rw [bne_iff_ne]; exact he14
      have hq141 : (e14 != 1) = true := by rw [bne_iff_ne]; exact HR14.out.1
      clear he14
      go_wp2_with fail
      refine (HAL.out _ BW17.out).mono ?_
      rintro e wz ⟨rfl, bz⟩
      have BZ := Lib.hid (BW17.out.trans (bz.mono BW17.out.size))
      clear bz
      go_wp2_with fail
      go_ret
      first | exact ⟨rfl, BZ.out⟩ | exact ⟨by simp, BZ.out⟩
    subst he14
    obtain ⟨hr14, hn14, hs14, hl14⟩ := HR14.out.2 rfl
    have LEN18 := Lib.hid (show ms.length ≤ 16 from hl14)
    have H14 := Lib.hid hr14
    have N14 := Lib.hid hn14
    have S14 := Lib.hid hs14
    obtain ⟨b16, hb16⟩ : ∃ b, w16.heap.size = b := ⟨_, rfl⟩
    have K16 := Lib.hid (show BlockAt w17 b16 _ _ by rw [← hb16]; exact K16.out)
    clear hr14 hn14 hs14 hl14
    go_wp2_with fail
    try rw [hb16]
    clear h17 hb16
    go_loopw [163] (fun v wr => ∃ k : Nat, k ≤ ml ∧ v = .int .i64 k ∧ Hid (Below w17.heap.size w17 wr)) (fun v _ => ml - (intOf v).toNat)
    case atStart => exact ⟨0, Nat.zero_le _, rfl, Lib.hid (Below.refl _ _)⟩
    case round =>
      obtain ⟨k, hk, rfl, HB⟩ := hrel
      by_cases hkm : k < ml
      · have hkl : k < ms.length := by rw [HML.out]; exact hkm
        obtain ⟨mb, mof, rfl, hmb, hmc⟩ := (HR17.out.below HB.out).cells (by omega)
        obtain ⟨y0, y1, y2⟩ := hmc k hkl
        obtain ⟨y, hy⟩ : ∃ y, ms[k] = y := ⟨_, rfl⟩
        rw [hy] at y0 y1 y2
        have hsg := S14.out y (by rw [← hy]; exact List.getElem_mem hkl)
        unfold isB inL at hsg
        rw [Bool.and_eq_true] at hsg
        have hsi := of_decide_eq_true hsg.1
        have hs5 := of_decide_eq_true hsg.2
        obtain ⟨sg, hsn⟩ : ∃ s : Nat, y.sig = (s : Int) := ⟨y.sig.toNat, by omega⟩
        have hsl : sg < V14.types.length := by omega
        rw [hsn, kindAt_eq hsl] at hs5
        rw [hsn] at y2
        obtain ⟨ab, aof, rfl, hab, hac⟩ := (HA17.out.out.types.below HB.out).cells (by omega)
        obtain ⟨_, _, _, _, z0, -, -, -, -, -, -, -⟩ := hac sg hsl
        rw [hs5] at z0
        have HPV := Lib.hid (fun (h0 : 0 < k) => And.intro ((hmc (k - 1) (by omega)).1) (meth_less N14.out hkl h0))
        have KB := Lib.hid (K16.out.below HB.out)
        have hsI : (sg : Int) < (V14.types.length : Int) := by omega
        have hkI : (k : Int) < (ml : Int) := by omega
        have hm16 : ml ≤ 16 := by rw [← HML.out]; exact LEN18.out
        have HYN := Lib.hid hy
        have hatc := HA17.out.tc
        obtain ⟨w18, h18⟩ : ∃ w18, wr.alloc (.cells #[.string y.name, .bool y.ptr, .int .i64 sg] 48) = w18 := ⟨_, rfl⟩
        obtain ⟨k18, q18, z18⟩ := box_new h18
        obtain ⟨s0, s1, s2⟩ := cell3m k18
        have z0 := (q18.cell hab).trans z0
        obtain ⟨r0, r1⟩ := cell2 (KB.out.below q18)
        have B18 := Lib.hid (HB.out.trans (q18.mono HB.out.size))
        have hk5 : ((5 : Int) != 5) = false := by decide
        clear hmc hac hsg hsi hs5 hy hsn hab
        by_cases h0 : k = 0
        · subst h0
          rw [Nat.zero_mul, Nat.add_zero] at y0 y1 y2
          go_wp2_with fail
          go_quiet (fail)
          go_wp2_with fail
          go_roundw
          case rel => exact ⟨0 + 1, by omega, by go_num, Lib.hid (below_drewN B18.out _)⟩
          case measure => first | (simp [intOf]; done) | (simp [intOf]; omega)
        · obtain ⟨p, hp⟩ : ∃ p, k = p + 1 := ⟨k - 1, by omega⟩
          have hpn : p < ml := by omega
          have hpI : (p : Int) < (ml : Int) := by omega
          have hpk : k - 1 = p := by omega
          obtain ⟨cp, hls⟩ := HPV.out (by omega)
          obtain ⟨v, hv⟩ : ∃ v, (ms[k - 1]'(by omega)).name = v := ⟨_, rfl⟩
          rw [hv] at cp hls
          rw [hpk] at cp
          rw [HYN.out] at hls
          have hnl := hls
          rw [less_not, Bool.not_eq_true', Bool.or_eq_false_iff] at hnl
          obtain ⟨hgt, hne⟩ := hnl
          have hls : Op.bytesLess v.toList y.name.toList = true := hls
          have hsub : (k : Int) - 1 = (p : Int) := by omega
          have hpos : (0 : Int) < (k : Int) := by omega
          have hposd : decide ((0 : Int) < (k : Int)) = true := decide_eq_true hpos
          have hposn : 0 < k := by omega
          have hsubw : IntKind.i64.wrap ((k : Int) - 1) = (p : Int) := by rw [hsub]; exact IntWalk.i64_in _ (by have := HML.out; have := LEN18.out; omega)
          have hpw : IntKind.i64.wrap (p : Int) = (p : Int) := IntWalk.i64_in _ (by have := HML.out; have := LEN18.out; omega)
          have cp := (q18.cell (cell_ltB cp)).trans cp
          have HPK := Lib.hid hp
          clear hpk hv hp h0
          go_wp2_with fail
          go_quiet (fail)
          go_wp2_with fail
          go_roundw
          case rel => exact ⟨k + 1, by omega, by go_num, Lib.hid (below_drewN B18.out _)⟩
          case measure => first | (simp [intOf]; done) | (simp [intOf]; omega)
      · obtain rfl : k = ml := by omega
        have BWR := Lib.hid (BW17.out.trans (HB.out.mono BW17.out.size))
        have HRF0 := fun w (hb : Below wr.heap.size wr w) => right_uany V14 ao14 no14 ac14 nc14 w ((HA17.out.out.below HB.out).below hb) (HVW.out.below (BWR.out.trans (hb.mono BWR.out.size))) (HVW.out.below (BWR.out.trans (hb.mono BWR.out.size))).max
        rw [H14.out] at HRF0
        unfold unV at HRF0
        have HRF := Lib.hid HRF0
        have KB := Lib.hid (K16.out.below HB.out)
        clear HRF0
        go_wp2_with fail
        refine (HAL.out _ BWR.out).mono ?_
        rintro e wz ⟨rfl, bz⟩
        have BZ := Lib.hid (BWR.out.trans (bz.mono BWR.out.size))
        have HRFz := Lib.hid (HRF.out _ bz)
        obtain ⟨r0, r1⟩ := cell2 (KB.out.below bz)
        clear bz
        go_wp2_with fail
        refine HRFz.out.mono ?_
        rintro e wy ⟨rfl, by_⟩
        have BY := Lib.hid (BZ.out.trans (by_.mono BZ.out.size))
        clear by_ r0 r1
        go_wp2_with fail
        go_ret
        exact ⟨by first | rfl | (simp; done), BY.out⟩
  case pos =>
    subst he5
    obtain ⟨hr5, hx5, hn5, hi5, ht5⟩ := put_right (u := U) HRU.out (t := cutT t q0 q1 q2) (by rw [HF5.out])
    rw [HF5.out] at hr5 hx5 hn5 hi5 ht5
    have hx5 : Ext U.types V5.types := hx5
    have hr5 : rightU V5 = true := hr5
    have hi5 : inL V5.types p5 = true := hi5
    have ht5 : funT V5.types p5.toNat = cutT t q0 q1 q2 := ht5
    obtain ⟨p, rfl⟩ : ∃ p : Nat, p5 = (p : Int) := ⟨p5.toNat, by unfold inL at hi5; have := of_decide_eq_true hi5; omega⟩
    have hpl : p < V5.types.length := by unfold inL at hi5; have := of_decide_eq_true hi5; omega
    have hpt : V5.types[p] = cutT t q0 q1 q2 := by
      have := ht5
      rw [Int.toNat_natCast] at this
      unfold funT at this
      rw [getD_of hpl] at this
      exact this
    have hlx : L2 ≤ V5.types.length := by rw [← HL.out]; exact hx5.2
    have hlc : L2 ≤ ac5 := Nat.le_trans hlx HA.out.tc
    have htk : V5.types.take L2 = U.types := by rw [← HL.out]; exact hx5.1
    have hlen : (V5.types.take L2).length = L2 := by rw [List.length_take]; omega
    obtain ⟨xb, xof, rfl, hxb, hxc⟩ := HA.out.out.types.cells (show 0 < V5.types.length by omega)
    obtain ⟨xw, xwc, xk, xkc, x0, x1, x2, x3, x4, -, -, hxt⟩ := hxc p hpl
    rw [hpt] at x0 x1 x2 x3 x4 hxt
    obtain ⟨x, hx⟩ : ∃ x, cutT t q0 q1 q2 = x := ⟨_, rfl⟩
    have HUR50 := fun w (hb : Below w11.heap.size w11 w) => right_uany V5 (some ⟨xb, xof, none⟩) no5 ac5 nc5 w (HA.out.out.below hb) (HE.out.below (B911.out.trans (hb.mono B911.out.size))) (HE.out.below (B911.out.trans (hb.mono B911.out.size))).max
    have HAR50 := fun w (hb : Below w11.heap.size w11 w) => arenas_any (V5.types.take L2) U.types (some ⟨xb, xof, none⟩) xo ac5 xc w ((HA.out.out.types.take L2).below hb) (HX.out.out.types.below (B911.out.trans (hb.mono B911.out.size))) (by rw [hlen]; have := HX.out.tl; rw [HL.out] at this; exact this) HX.out.tl
    rw [hlen, htk, HL.out, decide_eq_true (show U.types = U.types from rfl)] at HAR50
    have HLK50 := fun w (hb : Below w11.heap.size w11 w) => like_any (cutT t q0 q1 q2) (cutT t q0 q1 q2) xw xk wo ko xwc xkc wc kc w (hxt.below hb) (HTC.out.2.2.below (B911.out.trans (hb.mono B911.out.size)))
    rw [decide_eq_true (show cutT t q0 q1 q2 = cutT t q0 q1 q2 from rfl)] at HLK50
    unfold unV at HUR50
    unfold tyV at HLK50
    rw [hr5] at HUR50
    have e1 := HCI.out.1
    have e2 := HCI.out.2.1
    have HLK51 := fun w hb => (show Calls _ _ #[.agg #[.int .i64 x.kind, .string x.name, .int .i64 x.n, .slice xw x.words.length xwc, .slice xk x.kids.length xkc], .agg #[.int .i64 t.kind, .string (t.name.extract 0 q0), .int .i64 t.n, .slice wo q1 wc, .slice ko q2 kc]] _ _ from by
      have h := HLK50 w hb
      rw [← hx]
      rw [e1, e2] at h ⊢
      exact h)
    rw [hx] at x0 x1 x2 x3 x4
    have HUR5 := Lib.hid HUR50
    have HAR5 := Lib.hid HAR50
    have HLK5 := Lib.hid HLK51
    obtain ⟨b7, hb7⟩ : ∃ b, w10.heap.size = b := ⟨_, rfl⟩
    rw [hb7] at K7
    obtain ⟨a0, a1⟩ := cell2 K7.out
    obtain ⟨c0, c1⟩ := cell2 (K3.out.below B911.out)
    obtain ⟨d0, d1, d2, d3, d4⟩ := cell5 (K4.out.below B911.out)
    have hpI : (p : Int) < (V5.types.length : Int) := by omega
    have hLi : (L2 : Int) ≤ (ac5 : Int) := by omega
    clear hr5 hx5 hn5 hi5 ht5 hpt hlx htk hlen hxb hxc hxt hx HUR50 HAR50 HLK50 HLK51 e1 e2
    go_upto_region 6 with fail
    try rw [hb7]
    clear h11 hb7
    have Bv0 := Lib.hid (Below.refl w11.heap.size w11).drew
    refine GoG.start [(29, ⟨b7, 0, none⟩, .slice (some ⟨xb, xof, none⟩) V5.types.length ac5), (29, ⟨b7, 1, none⟩, .slice no5 V5.named.length nc5), (29, ⟨b3, 0, none⟩, .slice xo L2 xc), (29, ⟨b3, 1, none⟩, .slice yo n2 yc), (29, ⟨b4, 0, none⟩, .int .i64 t.kind), (29, ⟨b4, 1, none⟩, .string (t.name.extract 0 q0)), (29, ⟨b4, 2, none⟩, .int .i64 t.n), (29, ⟨b4, 3, none⟩, .slice wo q1 wc), (29, ⟨b4, 4, none⟩, .slice ko q2 kc), (29, ⟨xb, xof + p * 5, none⟩, .int .i64 x.kind), (29, ⟨xb, xof + p * 5 + 1, none⟩, .string x.name), (29, ⟨xb, xof + p * 5 + 2, none⟩, .int .i64 x.n), (29, ⟨xb, xof + p * 5 + 3, none⟩, .slice xw x.words.length xwc), (29, ⟨xb, xof + p * 5 + 4, none⟩, .slice xk x.kids.length xkc)] (by kernel_rfl) ?_ ?_
    · exact Keeps.cons (by first | exact a0 | assumption) (Keeps.cons (by first | exact a1 | assumption) (Keeps.cons (by first | exact c0 | assumption) (Keeps.cons (by first | exact c1 | assumption) (Keeps.cons (by first | exact d0 | assumption) (Keeps.cons (by first | exact d1 | assumption) (Keeps.cons (by first | exact d2 | assumption) (Keeps.cons (by first | exact d3 | assumption) (Keeps.cons (by first | exact d4 | assumption) (Keeps.cons (by first | exact x0 | assumption) (Keeps.cons (by first | exact x1 | assumption) (Keeps.cons (by first | exact x2 | assumption) (Keeps.cons (by first | exact x3 | assumption) (Keeps.cons (by first | exact x4 | assumption) (Keeps.nil))))))))))))))
    refine GoG.take (i := 0) (v := ?_) [] rfl (by kernel_rfl) (by kernel_rfl) (by kernel_rfl) (by kernel_rfl) (by kernel_rfl) (by kernel_rfl) (fun _ _ _ h => h) (yields_free (by rfl) (fun w => ?_)) ?_
    rotate_left
    · go_simp; try (with_reducible rfl)
    try simp only [Act.put, List.getElem_toArray, List.getElem_cons_succ, List.getElem_cons_zero, List.setIfInBounds_toArray, List.set_cons_zero, List.set_cons_succ]
    refine GoG.take (i := 1) (v := ?_) [] rfl (by kernel_rfl) (by kernel_rfl) (by kernel_rfl) (by kernel_rfl) (by kernel_rfl) (by kernel_rfl) (fun _ _ _ h => h) (yields_free (by rfl) (fun w => ?_)) ?_
    rotate_left
    · go_simp; try (with_reducible rfl)
    try simp only [Act.put, List.getElem_toArray, List.getElem_cons_succ, List.getElem_cons_zero, List.setIfInBounds_toArray, List.set_cons_zero, List.set_cons_succ]
    refine GoG.take (i := 2) (v := ?_) [] rfl (by kernel_rfl) (by kernel_rfl) (by kernel_rfl) (by kernel_rfl) (by kernel_rfl) (by kernel_rfl) (fun _ _ _ h => h) (yields_free (by rfl) (fun w => ?_)) ?_
    rotate_left
    · go_simp; try (with_reducible rfl)
    try simp only [Act.put, List.getElem_toArray, List.getElem_cons_succ, List.getElem_cons_zero, List.setIfInBounds_toArray, List.set_cons_zero, List.set_cons_succ]
    refine GoG.take (i := 3) (v := ?_) [29] rfl (by kernel_rfl) (by kernel_rfl) (by kernel_rfl) (by kernel_rfl) (by kernel_rfl) (by kernel_rfl) (fun _ _ _ h => h) (.inl ⟨by rfl, fun WW hS => ?_⟩) ?_
    rotate_left
    · have g0 : WW.cell? ⟨b7, 0, none⟩ = some (.slice (some ⟨xb, xof, none⟩) V5.types.length ac5) := hS (29, ⟨b7, 0, none⟩, .slice (some ⟨xb, xof, none⟩) V5.types.length ac5) (by simp) (by simp)
      have g1 : WW.cell? ⟨b7, 1, none⟩ = some (.slice no5 V5.named.length nc5) := hS (29, ⟨b7, 1, none⟩, .slice no5 V5.named.length nc5) (by simp) (by simp)
      clear hS
      go_simp; try (with_reducible rfl)
    try simp only [Act.put, List.getElem_toArray, List.getElem_cons_succ, List.getElem_cons_zero, List.setIfInBounds_toArray, List.set_cons_zero, List.set_cons_succ]
    refine GoG.one (i := 4) rfl (by kernel_rfl) (fun K hK => ?_)
    go_simp
    refine (HUR5.out _ Bv0.out).mono ?_
    rintro e v1 ⟨rfl, bq⟩
    have Bv1 := Lib.hid (Bv0.out.trans (bq.mono Bv0.out.size))
    have a0n := (bq.cell (p := ⟨b7, 0, none⟩) (cell_ltB a0)).trans a0
    have a1n := (bq.cell (p := ⟨b7, 1, none⟩) (cell_ltB a1)).trans a1
    have c0n := (bq.cell (p := ⟨b3, 0, none⟩) (cell_ltB c0)).trans c0
    have c1n := (bq.cell (p := ⟨b3, 1, none⟩) (cell_ltB c1)).trans c1
    have d0n := (bq.cell (p := ⟨b4, 0, none⟩) (cell_ltB d0)).trans d0
    have d1n := (bq.cell (p := ⟨b4, 1, none⟩) (cell_ltB d1)).trans d1
    have d2n := (bq.cell (p := ⟨b4, 2, none⟩) (cell_ltB d2)).trans d2
    have d3n := (bq.cell (p := ⟨b4, 3, none⟩) (cell_ltB d3)).trans d3
    have d4n := (bq.cell (p := ⟨b4, 4, none⟩) (cell_ltB d4)).trans d4
    have x0n := (bq.cell (p := ⟨xb, xof + p * 5, none⟩) (cell_ltB x0)).trans x0
    have x1n := (bq.cell (p := ⟨xb, xof + p * 5 + 1, none⟩) (cell_ltB x1)).trans x1
    have x2n := (bq.cell (p := ⟨xb, xof + p * 5 + 2, none⟩) (cell_ltB x2)).trans x2
    have x3n := (bq.cell (p := ⟨xb, xof + p * 5 + 3, none⟩) (cell_ltB x3)).trans x3
    have x4n := (bq.cell (p := ⟨xb, xof + p * 5 + 4, none⟩) (cell_ltB x4)).trans x4
    clear a0 a1 c0 c1 d0 d1 d2 d3 d4 x0 x1 x2 x3 x4
    have a0 := a0n
    have a1 := a1n
    have c0 := c0n
    have c1 := c1n
    have d0 := d0n
    have d1 := d1n
    have d2 := d2n
    have d3 := d3n
    have d4 := d4n
    have x0 := x0n
    have x1 := x1n
    have x2 := x2n
    have x3 := x3n
    have x4 := x4n
    clear bq a0n a1n c0n c1n d0n d1n d2n d3n d4n x0n x1n x2n x3n x4n
    refine hK.out _ _ (Keeps.cons (by first | exact a0 | assumption) (Keeps.cons (by first | exact a1 | assumption) (Keeps.cons (by first | exact c0 | assumption) (Keeps.cons (by first | exact c1 | assumption) (Keeps.cons (by first | exact d0 | assumption) (Keeps.cons (by first | exact d1 | assumption) (Keeps.cons (by first | exact d2 | assumption) (Keeps.cons (by first | exact d3 | assumption) (Keeps.cons (by first | exact d4 | assumption) (Keeps.cons (by first | exact x0 | assumption) (Keeps.cons (by first | exact x1 | assumption) (Keeps.cons (by first | exact x2 | assumption) (Keeps.cons (by first | exact x3 | assumption) (Keeps.cons (by first | exact x4 | assumption) (Keeps.nil))))))))))))))) ?_
    clear hK K
    try simp only [Act.put, List.getElem_toArray, List.getElem_cons_succ, List.getElem_cons_zero, List.setIfInBounds_toArray, List.set_cons_zero, List.set_cons_succ]
    refine GoG.take (i := 5) (v := ?_) [] rfl (by kernel_rfl) (by kernel_rfl) (by kernel_rfl) (by kernel_rfl) (by kernel_rfl) (by kernel_rfl) (fun _ _ _ h => h) (yields_free (by rfl) (fun w => ?_)) ?_
    rotate_left
    · go_simp; try (with_reducible rfl)
    try simp only [Act.put, List.getElem_toArray, List.getElem_cons_succ, List.getElem_cons_zero, List.setIfInBounds_toArray, List.set_cons_zero, List.set_cons_succ]
    refine GoG.take (i := 6) (v := ?_) [] rfl (by kernel_rfl) (by kernel_rfl) (by kernel_rfl) (by kernel_rfl) (by kernel_rfl) (by kernel_rfl) (fun _ _ _ h => h) (yields_free (by rfl) (fun w => ?_)) ?_
    rotate_left
    · go_simp; try (with_reducible rfl)
    try simp only [Act.put, List.getElem_toArray, List.getElem_cons_succ, List.getElem_cons_zero, List.setIfInBounds_toArray, List.set_cons_zero, List.set_cons_succ]
    refine GoG.take (i := 7) (v := ?_) [] rfl (by kernel_rfl) (by kernel_rfl) (by kernel_rfl) (by kernel_rfl) (by kernel_rfl) (by kernel_rfl) (fun _ _ _ h => h) (yields_free (by rfl) (fun w => ?_)) ?_
    rotate_left
    · go_simp; try (with_reducible rfl)
    try simp only [Act.put, List.getElem_toArray, List.getElem_cons_succ, List.getElem_cons_zero, List.setIfInBounds_toArray, List.set_cons_zero, List.set_cons_succ]
    refine GoG.take (i := 8) (v := ?_) [29] rfl (by kernel_rfl) (by kernel_rfl) (by kernel_rfl) (by kernel_rfl) (by kernel_rfl) (by kernel_rfl) (fun _ _ _ h => h) (yields_load 29 ⟨b7, 0, none⟩ (.slice (some ⟨xb, xof, none⟩) V5.types.length ac5) (by simp) (by decide) (by rfl) (fun w hw => ?_)) ?_
    rotate_left
    · go_simp; try (with_reducible rfl)
    try simp only [Act.put, List.getElem_toArray, List.getElem_cons_succ, List.getElem_cons_zero, List.setIfInBounds_toArray, List.set_cons_zero, List.set_cons_succ]
    refine GoG.take (i := 9) (v := ?_) [] rfl (by kernel_rfl) (by kernel_rfl) (by kernel_rfl) (by kernel_rfl) (by kernel_rfl) (by kernel_rfl) (fun _ _ _ h => h) (yields_free (by rfl) (fun w => ?_)) ?_
    rotate_left
    · go_simp; try (with_reducible rfl)
    try simp only [Act.put, List.getElem_toArray, List.getElem_cons_succ, List.getElem_cons_zero, List.setIfInBounds_toArray, List.set_cons_zero, List.set_cons_succ]
    refine GoG.take (i := 10) (v := ?_) [29] rfl (by kernel_rfl) (by kernel_rfl) (by kernel_rfl) (by kernel_rfl) (by kernel_rfl) (by kernel_rfl) (fun _ _ _ h => h) (yields_load 29 ⟨b3, 0, none⟩ (.slice xo L2 xc) (by simp) (by decide) (by rfl) (fun w hw => ?_)) ?_
    rotate_left
    · go_simp; try (with_reducible rfl)
    try simp only [Act.put, List.getElem_toArray, List.getElem_cons_succ, List.getElem_cons_zero, List.setIfInBounds_toArray, List.set_cons_zero, List.set_cons_succ]
    refine GoG.take (i := 11) (v := ?_) [] rfl (by kernel_rfl) (by kernel_rfl) (by kernel_rfl) (by kernel_rfl) (by kernel_rfl) (by kernel_rfl) (fun _ _ _ h => h) (yields_free (by rfl) (fun w => ?_)) ?_
    rotate_left
    · go_simp; try (with_reducible rfl)
    try simp only [Act.put, List.getElem_toArray, List.getElem_cons_succ, List.getElem_cons_zero, List.setIfInBounds_toArray, List.set_cons_zero, List.set_cons_succ]
    refine GoG.take (i := 12) (v := ?_) [] rfl (by kernel_rfl) (by kernel_rfl) (by kernel_rfl) (by kernel_rfl) (by kernel_rfl) (by kernel_rfl) (fun _ _ _ h => h) (yields_free (by rfl) (fun w => ?_)) ?_
    rotate_left
    · go_simp; try (with_reducible rfl)
    try simp only [Act.put, List.getElem_toArray, List.getElem_cons_succ, List.getElem_cons_zero, List.setIfInBounds_toArray, List.set_cons_zero, List.set_cons_succ]
    refine GoG.take (i := 13) (v := ?_) [] rfl (by kernel_rfl) (by kernel_rfl) (by kernel_rfl) (by kernel_rfl) (by kernel_rfl) (by kernel_rfl) (fun _ _ _ h => h) (yields_free (by rfl) (fun w => ?_)) ?_
    rotate_left
    · go_simp; try (with_reducible rfl)
    try simp only [Act.put, List.getElem_toArray, List.getElem_cons_succ, List.getElem_cons_zero, List.setIfInBounds_toArray, List.set_cons_zero, List.set_cons_succ]
    refine GoG.take (i := 14) (v := ?_) [29] rfl (by kernel_rfl) (by kernel_rfl) (by kernel_rfl) (by kernel_rfl) (by kernel_rfl) (by kernel_rfl) (fun _ _ _ h => h) (yields_load 29 ⟨b3, 0, none⟩ (.slice xo L2 xc) (by simp) (by decide) (by rfl) (fun w hw => ?_)) ?_
    rotate_left
    · go_simp; try (with_reducible rfl)
    try simp only [Act.put, List.getElem_toArray, List.getElem_cons_succ, List.getElem_cons_zero, List.setIfInBounds_toArray, List.set_cons_zero, List.set_cons_succ]
    refine GoG.one (i := 15) rfl (by kernel_rfl) (fun K hK => ?_)
    go_simp
    refine (HAR5.out _ Bv1.out).mono ?_
    rintro e v2 ⟨rfl, bq⟩
    have Bv2 := Lib.hid (Bv1.out.trans (bq.mono Bv1.out.size))
    have a0n := (bq.cell (p := ⟨b7, 0, none⟩) (cell_ltB a0)).trans a0
    have a1n := (bq.cell (p := ⟨b7, 1, none⟩) (cell_ltB a1)).trans a1
    have c0n := (bq.cell (p := ⟨b3, 0, none⟩) (cell_ltB c0)).trans c0
    have c1n := (bq.cell (p := ⟨b3, 1, none⟩) (cell_ltB c1)).trans c1
    have d0n := (bq.cell (p := ⟨b4, 0, none⟩) (cell_ltB d0)).trans d0
    have d1n := (bq.cell (p := ⟨b4, 1, none⟩) (cell_ltB d1)).trans d1
    have d2n := (bq.cell (p := ⟨b4, 2, none⟩) (cell_ltB d2)).trans d2
    have d3n := (bq.cell (p := ⟨b4, 3, none⟩) (cell_ltB d3)).trans d3
    have d4n := (bq.cell (p := ⟨b4, 4, none⟩) (cell_ltB d4)).trans d4
    have x0n := (bq.cell (p := ⟨xb, xof + p * 5, none⟩) (cell_ltB x0)).trans x0
    have x1n := (bq.cell (p := ⟨xb, xof + p * 5 + 1, none⟩) (cell_ltB x1)).trans x1
    have x2n := (bq.cell (p := ⟨xb, xof + p * 5 + 2, none⟩) (cell_ltB x2)).trans x2
    have x3n := (bq.cell (p := ⟨xb, xof + p * 5 + 3, none⟩) (cell_ltB x3)).trans x3
    have x4n := (bq.cell (p := ⟨xb, xof + p * 5 + 4, none⟩) (cell_ltB x4)).trans x4
    clear a0 a1 c0 c1 d0 d1 d2 d3 d4 x0 x1 x2 x3 x4
    have a0 := a0n
    have a1 := a1n
    have c0 := c0n
    have c1 := c1n
    have d0 := d0n
    have d1 := d1n
    have d2 := d2n
    have d3 := d3n
    have d4 := d4n
    have x0 := x0n
    have x1 := x1n
    have x2 := x2n
    have x3 := x3n
    have x4 := x4n
    clear bq a0n a1n c0n c1n d0n d1n d2n d3n d4n x0n x1n x2n x3n x4n
    refine hK.out _ _ (Keeps.cons (by first | exact a0 | assumption) (Keeps.cons (by first | exact a1 | assumption) (Keeps.cons (by first | exact c0 | assumption) (Keeps.cons (by first | exact c1 | assumption) (Keeps.cons (by first | exact d0 | assumption) (Keeps.cons (by first | exact d1 | assumption) (Keeps.cons (by first | exact d2 | assumption) (Keeps.cons (by first | exact d3 | assumption) (Keeps.cons (by first | exact d4 | assumption) (Keeps.cons (by first | exact x0 | assumption) (Keeps.cons (by first | exact x1 | assumption) (Keeps.cons (by first | exact x2 | assumption) (Keeps.cons (by first | exact x3 | assumption) (Keeps.cons (by first | exact x4 | assumption) (Keeps.nil))))))))))))))) ?_
    clear hK K
    try simp only [Act.put, List.getElem_toArray, List.getElem_cons_succ, List.getElem_cons_zero, List.setIfInBounds_toArray, List.set_cons_zero, List.set_cons_succ]
    refine GoG.take (i := 16) (v := ?_) [] rfl (by kernel_rfl) (by kernel_rfl) (by kernel_rfl) (by kernel_rfl) (by kernel_rfl) (by kernel_rfl) (fun _ _ _ h => h) (yields_free (by rfl) (fun w => ?_)) ?_
    rotate_left
    · go_simp; try (with_reducible rfl)
    try simp only [Act.put, List.getElem_toArray, List.getElem_cons_succ, List.getElem_cons_zero, List.setIfInBounds_toArray, List.set_cons_zero, List.set_cons_succ]
    refine GoG.take (i := 17) (v := ?_) [] rfl (by kernel_rfl) (by kernel_rfl) (by kernel_rfl) (by kernel_rfl) (by kernel_rfl) (by kernel_rfl) (fun _ _ _ h => h) (yields_free (by rfl) (fun w => ?_)) ?_
    rotate_left
    · go_simp; try (with_reducible rfl)
    try simp only [Act.put, List.getElem_toArray, List.getElem_cons_succ, List.getElem_cons_zero, List.setIfInBounds_toArray, List.set_cons_zero, List.set_cons_succ]
    refine GoG.take (i := 18) (v := ?_) [] rfl (by kernel_rfl) (by kernel_rfl) (by kernel_rfl) (by kernel_rfl) (by kernel_rfl) (by kernel_rfl) (fun _ _ _ h => h) (yields_free (by rfl) (fun w => ?_)) ?_
    rotate_left
    · go_simp; try (with_reducible rfl)
    try simp only [Act.put, List.getElem_toArray, List.getElem_cons_succ, List.getElem_cons_zero, List.setIfInBounds_toArray, List.set_cons_zero, List.set_cons_succ]
    refine GoG.take (i := 19) (v := ?_) [] rfl (by kernel_rfl) (by kernel_rfl) (by kernel_rfl) (by kernel_rfl) (by kernel_rfl) (by kernel_rfl) (fun _ _ _ h => h) (yields_free (by rfl) (fun w => ?_)) ?_
    rotate_left
    · go_simp; try (with_reducible rfl)
    try simp only [Act.put, List.getElem_toArray, List.getElem_cons_succ, List.getElem_cons_zero, List.setIfInBounds_toArray, List.set_cons_zero, List.set_cons_succ]
    refine GoG.take (i := 20) (v := ?_) [29] rfl (by kernel_rfl) (by kernel_rfl) (by kernel_rfl) (by kernel_rfl) (by kernel_rfl) (by kernel_rfl) (fun _ _ _ h => h) (yields_load 29 ⟨b7, 0, none⟩ (.slice (some ⟨xb, xof, none⟩) V5.types.length ac5) (by simp) (by decide) (by rfl) (fun w hw => ?_)) ?_
    rotate_left
    · go_simp; try (with_reducible rfl)
    try simp only [Act.put, List.getElem_toArray, List.getElem_cons_succ, List.getElem_cons_zero, List.setIfInBounds_toArray, List.set_cons_zero, List.set_cons_succ]
    refine GoG.take (i := 21) (v := ?_) [] rfl (by kernel_rfl) (by kernel_rfl) (by kernel_rfl) (by kernel_rfl) (by kernel_rfl) (by kernel_rfl) (fun _ _ _ h => h) (yields_free (by rfl) (fun w => ?_)) ?_
    rotate_left
    · go_simp; try (with_reducible rfl)
    try simp only [Act.put, List.getElem_toArray, List.getElem_cons_succ, List.getElem_cons_zero, List.setIfInBounds_toArray, List.set_cons_zero, List.set_cons_succ]
    refine GoG.take (i := 22) (v := ?_) [] rfl (by kernel_rfl) (by kernel_rfl) (by kernel_rfl) (by kernel_rfl) (by kernel_rfl) (by kernel_rfl) (fun _ _ _ h => h) (yields_free (by rfl) (fun w => ?_)) ?_
    rotate_left
    · go_simp; try (with_reducible rfl)
    try simp only [Act.put, List.getElem_toArray, List.getElem_cons_succ, List.getElem_cons_zero, List.setIfInBounds_toArray, List.set_cons_zero, List.set_cons_succ]
    refine GoG.take (i := 23) (v := ?_) [29] rfl (by kernel_rfl) (by kernel_rfl) (by kernel_rfl) (by kernel_rfl) (by kernel_rfl) (by kernel_rfl) (fun _ _ _ h => h) (.inl ⟨by rfl, fun WW hS => ?_⟩) ?_
    rotate_left
    · have g0 : WW.cell? ⟨xb, xof + p * 5, none⟩ = some (.int .i64 x.kind) := hS (29, ⟨xb, xof + p * 5, none⟩, .int .i64 x.kind) (by simp) (by simp)
      have g1 : WW.cell? ⟨xb, xof + p * 5 + 1, none⟩ = some (.string x.name) := hS (29, ⟨xb, xof + p * 5 + 1, none⟩, .string x.name) (by simp) (by simp)
      have g2 : WW.cell? ⟨xb, xof + p * 5 + 2, none⟩ = some (.int .i64 x.n) := hS (29, ⟨xb, xof + p * 5 + 2, none⟩, .int .i64 x.n) (by simp) (by simp)
      have g3 : WW.cell? ⟨xb, xof + p * 5 + 3, none⟩ = some (.slice xw x.words.length xwc) := hS (29, ⟨xb, xof + p * 5 + 3, none⟩, .slice xw x.words.length xwc) (by simp) (by simp)
      have g4 : WW.cell? ⟨xb, xof + p * 5 + 4, none⟩ = some (.slice xk x.kids.length xkc) := hS (29, ⟨xb, xof + p * 5 + 4, none⟩, .slice xk x.kids.length xkc) (by simp) (by simp)
      clear hS
      go_simp; try (with_reducible rfl)
    try simp only [Act.put, List.getElem_toArray, List.getElem_cons_succ, List.getElem_cons_zero, List.setIfInBounds_toArray, List.set_cons_zero, List.set_cons_succ]
    refine GoG.take (i := 24) (v := ?_) [29] rfl (by kernel_rfl) (by kernel_rfl) (by kernel_rfl) (by kernel_rfl) (by kernel_rfl) (by kernel_rfl) (fun _ _ _ h => h) (.inl ⟨by rfl, fun WW hS => ?_⟩) ?_
    rotate_left
    · have g0 : WW.cell? ⟨b4, 0, none⟩ = some (.int .i64 t.kind) := hS (29, ⟨b4, 0, none⟩, .int .i64 t.kind) (by simp) (by simp)
      have g1 : WW.cell? ⟨b4, 1, none⟩ = some (.string (t.name.extract 0 q0)) := hS (29, ⟨b4, 1, none⟩, .string (t.name.extract 0 q0)) (by simp) (by simp)
      have g2 : WW.cell? ⟨b4, 2, none⟩ = some (.int .i64 t.n) := hS (29, ⟨b4, 2, none⟩, .int .i64 t.n) (by simp) (by simp)
      have g3 : WW.cell? ⟨b4, 3, none⟩ = some (.slice wo q1 wc) := hS (29, ⟨b4, 3, none⟩, .slice wo q1 wc) (by simp) (by simp)
      have g4 : WW.cell? ⟨b4, 4, none⟩ = some (.slice ko q2 kc) := hS (29, ⟨b4, 4, none⟩, .slice ko q2 kc) (by simp) (by simp)
      clear hS
      go_simp; try (with_reducible rfl)
    try simp only [Act.put, List.getElem_toArray, List.getElem_cons_succ, List.getElem_cons_zero, List.setIfInBounds_toArray, List.set_cons_zero, List.set_cons_succ]
    refine GoG.one (i := 25) rfl (by kernel_rfl) (fun K hK => ?_)
    go_simp
    refine (HLK5.out _ Bv2.out).mono ?_
    rintro e v3 ⟨rfl, bq⟩
    have Bv3 := Lib.hid (Bv2.out.trans (bq.mono Bv2.out.size))
    have a0n := (bq.cell (p := ⟨b7, 0, none⟩) (cell_ltB a0)).trans a0
    have a1n := (bq.cell (p := ⟨b7, 1, none⟩) (cell_ltB a1)).trans a1
    have c0n := (bq.cell (p := ⟨b3, 0, none⟩) (cell_ltB c0)).trans c0
    have c1n := (bq.cell (p := ⟨b3, 1, none⟩) (cell_ltB c1)).trans c1
    have d0n := (bq.cell (p := ⟨b4, 0, none⟩) (cell_ltB d0)).trans d0
    have d1n := (bq.cell (p := ⟨b4, 1, none⟩) (cell_ltB d1)).trans d1
    have d2n := (bq.cell (p := ⟨b4, 2, none⟩) (cell_ltB d2)).trans d2
    have d3n := (bq.cell (p := ⟨b4, 3, none⟩) (cell_ltB d3)).trans d3
    have d4n := (bq.cell (p := ⟨b4, 4, none⟩) (cell_ltB d4)).trans d4
    have x0n := (bq.cell (p := ⟨xb, xof + p * 5, none⟩) (cell_ltB x0)).trans x0
    have x1n := (bq.cell (p := ⟨xb, xof + p * 5 + 1, none⟩) (cell_ltB x1)).trans x1
    have x2n := (bq.cell (p := ⟨xb, xof + p * 5 + 2, none⟩) (cell_ltB x2)).trans x2
    have x3n := (bq.cell (p := ⟨xb, xof + p * 5 + 3, none⟩) (cell_ltB x3)).trans x3
    have x4n := (bq.cell (p := ⟨xb, xof + p * 5 + 4, none⟩) (cell_ltB x4)).trans x4
    clear a0 a1 c0 c1 d0 d1 d2 d3 d4 x0 x1 x2 x3 x4
    have a0 := a0n
    have a1 := a1n
    have c0 := c0n
    have c1 := c1n
    have d0 := d0n
    have d1 := d1n
    have d2 := d2n
    have d3 := d3n
    have d4 := d4n
    have x0 := x0n
    have x1 := x1n
    have x2 := x2n
    have x3 := x3n
    have x4 := x4n
    clear bq a0n a1n c0n c1n d0n d1n d2n d3n d4n x0n x1n x2n x3n x4n
    refine hK.out _ _ (Keeps.cons (by first | exact a0 | assumption) (Keeps.cons (by first | exact a1 | assumption) (Keeps.cons (by first | exact c0 | assumption) (Keeps.cons (by first | exact c1 | assumption) (Keeps.cons (by first | exact d0 | assumption) (Keeps.cons (by first | exact d1 | assumption) (Keeps.cons (by first | exact d2 | assumption) (Keeps.cons (by first | exact d3 | assumption) (Keeps.cons (by first | exact d4 | assumption) (Keeps.cons (by first | exact x0 | assumption) (Keeps.cons (by first | exact x1 | assumption) (Keeps.cons (by first | exact x2 | assumption) (Keeps.cons (by first | exact x3 | assumption) (Keeps.cons (by first | exact x4 | assumption) (Keeps.nil))))))))))))))) ?_
    clear hK K
    try simp only [Act.put, List.getElem_toArray, List.getElem_cons_succ, List.getElem_cons_zero, List.setIfInBounds_toArray, List.set_cons_zero, List.set_cons_succ]
    refine GoG.take (i := 26) (v := ?_) [] rfl (by kernel_rfl) (by kernel_rfl) (by kernel_rfl) (by kernel_rfl) (by kernel_rfl) (by kernel_rfl) (fun _ _ _ h => h) (yields_free (by rfl) (fun w => ?_)) ?_
    rotate_left
    · go_simp; try (with_reducible rfl)
    try simp only [Act.put, List.getElem_toArray, List.getElem_cons_succ, List.getElem_cons_zero, List.setIfInBounds_toArray, List.set_cons_zero, List.set_cons_succ]
    refine GoG.take (i := 27) (v := ?_) [] rfl (by kernel_rfl) (by kernel_rfl) (by kernel_rfl) (by kernel_rfl) (by kernel_rfl) (by kernel_rfl) (fun _ _ _ h => h) (yields_free (by rfl) (fun w => ?_)) ?_
    rotate_left
    · go_simp; try (with_reducible rfl)
    try simp only [Act.put, List.getElem_toArray, List.getElem_cons_succ, List.getElem_cons_zero, List.setIfInBounds_toArray, List.set_cons_zero, List.set_cons_succ]
    refine GoG.take (i := 28) (v := ?_) [] rfl (by kernel_rfl) (by kernel_rfl) (by kernel_rfl) (by kernel_rfl) (by kernel_rfl) (by kernel_rfl) (fun _ _ _ h => h) (yields_free (by rfl) (fun w => ?_)) ?_
    rotate_left
    · go_simp; try (with_reducible rfl)
    try simp only [Act.put, List.getElem_toArray, List.getElem_cons_succ, List.getElem_cons_zero, List.setIfInBounds_toArray, List.set_cons_zero, List.set_cons_succ]
    refine GoG.done (by kernel_rfl) ?_ _
    have BT := Lib.hid (show Below w9.heap.size w9 v3 from B911.out.trans (Bv3.out.mono B911.out.size))
    clear a0 a1 c0 c1 d0 d1 d2 d3 d4 x0 x1 x2 x3 x4
    obtain ⟨wt, hwt⟩ : ∃ wt, v3 = wt := ⟨_, rfl⟩
    rw [hwt] at BT ⊢
    clear hwt
    have BWT := Lib.hid (B9.out.trans (BT.out.mono B9.out.size))
    have K3t := Lib.hid (K3.out.below BT.out)
    have HXt := Lib.hid (HX.out.same (SameS.below BT.out))
    have HEt := Lib.hid (HVW.out.below BWT.out)
    have HU80 := under_any (fun _ => True) U xo yo xc yc i wt (fun _ _ => trivial) HXt.out HEt.out
    obtain ⟨⟨V8, n8, e8⟩, hF8⟩ : ∃ R, underU U i = R := ⟨_, rfl⟩
    have HR8 := Lib.hid (under_right HRU.out i)
    rw [hF8] at HU80 HR8
    unfold unV at HU80
    rw [HL.out, HN.out] at HU80
    have HU8 := Lib.hid HU80
    obtain ⟨c0, c1⟩ := cell2 K3t.out
    clear HU80 hF8
    go_wp2_with fail
    refine HU8.out.mono ?_
    rintro e w12 ⟨ao8, no8, ac8, nc8, rfl, hA, b12⟩
    have HA12 := Lib.hid hA
    have B12 := Lib.hid b12
    clear hA b12 c0 c1 HU8
    unfold unV
    obtain ⟨w13, h13⟩ : ∃ w13, w12.alloc (.cells #[.slice ao8 V8.types.length ac8, .slice no8 V8.named.length nc8] 25) = w13 := ⟨_, rfl⟩
    obtain ⟨k13, q13, z13⟩ := box_new h13
    have K10 := Lib.hid k13
    have Bt13 := Lib.hid (B12.out.trans (q13.mono B12.out.size))
    have HA8 := Lib.hid (HA12.out.same (SameS.below q13))
    have BW13 := Lib.hid (BWT.out.trans (Bt13.out.mono BWT.out.size))
    clear k13 q13 z13
    by_cases he8 : e8 = 0
    case neg =>
      have hq8 : (e8 != 0) = true := by rw [bne_iff_ne]; exact he8
      have hq81 : (e8 != 1) = true := by rw [bne_iff_ne]; exact HR8.out.1
      clear he8
      go_wp2_with fail
      refine (HAL.out _ BW13.out).mono ?_
      rintro e wz ⟨rfl, bz⟩
      have BZ := Lib.hid (BW13.out.trans (bz.mono BW13.out.size))
      clear bz
      go_wp2_with fail
      go_ret
      first | exact ⟨rfl, BZ.out⟩ | exact ⟨by simp, BZ.out⟩
    subst he8
    obtain ⟨hr8, hx8, hi8, hk8⟩ := HR8.out.2 rfl
    have hx8 : Ext U.types V8.types := hx8
    obtain ⟨m, rfl⟩ : ∃ m : Nat, n8 = (m : Int) := ⟨n8.toNat, by unfold inL at hi8; have := of_decide_eq_true hi8; omega⟩
    have hml : m < V8.types.length := by unfold inL at hi8; have := of_decide_eq_true hi8; omega
    have HU90 := under_any (fun _ => True) V8 ao8 no8 ac8 nc8 (m : Int) w13 (fun _ _ => trivial) HA8.out (HVW.out.below BW13.out)
    rw [under_again hr8 hi8 hk8] at HU90
    unfold unV at HU90
    have HU9 := Lib.hid HU90
    have H8 := Lib.hid (And.intro hr8 (And.intro hx8 hk8))
    obtain ⟨a0, a1⟩ := cell2 K10.out
    have hml' := Lib.hid hml
    clear HU90 hr8 hx8 hi8 hk8 hml
    go_wp2_with fail
    refine HU9.out.mono ?_
    rintro e w14 ⟨ao9, no9, ac9, nc9, rfl, hA, b14⟩
    have HA14 := Lib.hid hA
    have B14 := Lib.hid b14
    clear hA b14 a0 a1 HU9 h13
    unfold unV
    obtain ⟨w15, h15⟩ : ∃ w15, w14.alloc (.cells #[.slice ao9 V8.types.length ac9, .slice no9 V8.named.length nc9] 25) = w15 := ⟨_, rfl⟩
    obtain ⟨k15, q15, z15⟩ := box_new h15
    have K13 := Lib.hid k15
    have B1315 := Lib.hid (B14.out.trans (q15.mono B14.out.size))
    have HA9 := Lib.hid (HA14.out.same (SameS.below q15))
    have Bt15 := Lib.hid (Bt13.out.trans (B1315.out.mono Bt13.out.size))
    have BW15 := Lib.hid (BWT.out.trans (Bt15.out.mono BWT.out.size))
    have HA8 := Lib.hid (HA8.out.same (SameS.below B1315.out))
    have K10 := Lib.hid (K10.out.below B1315.out)
    clear k15 q15 z15
    have hlx : L2 ≤ V8.types.length := by rw [← HL.out]; exact H8.out.2.1.2
    have hlc : L2 ≤ ac8 := Nat.le_trans hlx HA8.out.tc
    have htk : V8.types.take L2 = U.types := by rw [← HL.out]; exact H8.out.2.1.1
    have hlen : (V8.types.take L2).length = L2 := by rw [List.length_take]; omega
    have hml := hml'.out
    obtain ⟨xb, xof, rfl, hxb, hxc⟩ := HA8.out.out.types.cells (show 0 < V8.types.length by omega)
    obtain ⟨_, _, _, _, x0, -, -, -, -, -, -, -⟩ := hxc m hml
    obtain ⟨kd, hkd⟩ : ∃ k, V8.types[m].kind = k := ⟨_, rfl⟩
    rw [hkd] at x0
    have hk8 : (kd == 8) = false := by
      rw [beq_eq_false_iff_ne, ← hkd]
      have := H8.out.2.2
      rw [kindAt_eq hml] at this
      exact this
    have HUR80 := fun w (hb : Below w15.heap.size w15 w) => right_uany V8 (some ⟨xb, xof, none⟩) no8 ac8 nc8 w (HA8.out.out.below hb) (HVW.out.below (BW15.out.trans (hb.mono BW15.out.size))) (HVW.out.below (BW15.out.trans (hb.mono BW15.out.size))).max
    have HLK80 := fun w (hb : Below w15.heap.size w15 w) => reflike_uany V8 V8 (some ⟨xb, xof, none⟩) no8 ao9 no9 ac8 nc8 ac9 nc9 w (HA8.out.out.below hb) (HA9.out.out.below hb)
    rw [decide_eq_true (show V8 = V8 from rfl)] at HLK80
    rw [H8.out.1] at HUR80
    have HXu := Lib.hid (HXt.out.same (SameS.below Bt15.out))
    have HAR80 := fun w (hb : Below w15.heap.size w15 w) => arenas_any (V8.types.take L2) U.types (some ⟨xb, xof, none⟩) xo ac8 xc w ((HA8.out.out.types.take L2).below hb) (HXu.out.out.types.below hb) (by rw [hlen]; have := HX.out.tl; rw [HL.out] at this; exact this) HX.out.tl
    rw [hlen, htk, HL.out, decide_eq_true (show U.types = U.types from rfl)] at HAR80
    unfold unV at HUR80 HLK80
    have HUR8 := Lib.hid HUR80
    have HLK8 := Lib.hid HLK80
    have HAR8 := Lib.hid HAR80
    obtain ⟨b10, hb10⟩ : ∃ b, w12.heap.size = b := ⟨_, rfl⟩
    obtain ⟨b13, hb13⟩ : ∃ b, w14.heap.size = b := ⟨_, rfl⟩
    have K10 := Lib.hid (show BlockAt w15 b10 _ _ by rw [← hb10]; exact K10.out)
    have K13 := Lib.hid (show BlockAt w15 b13 _ _ by rw [← hb13]; exact K13.out)
    have K3u := Lib.hid (K3t.out.below Bt15.out)
    obtain ⟨a0, a1⟩ := cell2 K10.out
    obtain ⟨g0, g1⟩ := cell2 K13.out
    obtain ⟨c0, c1⟩ := cell2 K3u.out
    have hmI : (m : Int) < (V8.types.length : Int) := by omega
    have hLi : (L2 : Int) ≤ (ac8 : Int) := by omega
    clear HUR80 HLK80 HAR80 hlx htk hlen hxb hxc hkd
    go_upto_region 12 with fail
    try rw [hb10]
    try rw [hb13]
    clear h15 hb10 hb13
    have Bu0 := Lib.hid (Below.refl w15.heap.size w15).drew
    refine GoG.start [(39, ⟨b10, 0, none⟩, .slice (some ⟨xb, xof, none⟩) V8.types.length ac8), (39, ⟨b10, 1, none⟩, .slice no8 V8.named.length nc8), (39, ⟨b13, 0, none⟩, .slice ao9 V8.types.length ac9), (39, ⟨b13, 1, none⟩, .slice no9 V8.named.length nc9), (39, ⟨b3, 0, none⟩, .slice xo L2 xc), (39, ⟨b3, 1, none⟩, .slice yo n2 yc), (39, ⟨xb, xof + m * 5, none⟩, .int .i64 kd)] (by kernel_rfl) ?_ ?_
    · exact Keeps.cons (by first | exact a0 | assumption) (Keeps.cons (by first | exact a1 | assumption) (Keeps.cons (by first | exact g0 | assumption) (Keeps.cons (by first | exact g1 | assumption) (Keeps.cons (by first | exact c0 | assumption) (Keeps.cons (by first | exact c1 | assumption) (Keeps.cons (by first | exact x0 | assumption) (Keeps.nil)))))))
    refine GoG.take (i := 0) (v := ?_) [39] rfl (by kernel_rfl) (by kernel_rfl) (by kernel_rfl) (by kernel_rfl) (by kernel_rfl) (by kernel_rfl) (fun _ _ _ h => h) (.inl ⟨by rfl, fun WW hS => ?_⟩) ?_
    rotate_left
    · have g0 : WW.cell? ⟨b10, 0, none⟩ = some (.slice (some ⟨xb, xof, none⟩) V8.types.length ac8) := hS (39, ⟨b10, 0, none⟩, .slice (some ⟨xb, xof, none⟩) V8.types.length ac8) (by simp) (by simp)
      have g1 : WW.cell? ⟨b10, 1, none⟩ = some (.slice no8 V8.named.length nc8) := hS (39, ⟨b10, 1, none⟩, .slice no8 V8.named.length nc8) (by simp) (by simp)
      clear hS
      go_simp; try (with_reducible rfl)
    try simp only [Act.put, List.getElem_toArray, List.getElem_cons_succ, List.getElem_cons_zero, List.setIfInBounds_toArray, List.set_cons_zero, List.set_cons_succ]
    refine GoG.one (i := 1) rfl (by kernel_rfl) (fun K hK => ?_)
    go_simp
    refine (HUR8.out _ Bu0.out).mono ?_
    rintro e u1 ⟨rfl, bq⟩
    have Bu1 := Lib.hid (Bu0.out.trans (bq.mono Bu0.out.size))
    have a0n := (bq.cell (p := ⟨b10, 0, none⟩) (cell_ltB a0)).trans a0
    have a1n := (bq.cell (p := ⟨b10, 1, none⟩) (cell_ltB a1)).trans a1
    have g0n := (bq.cell (p := ⟨b13, 0, none⟩) (cell_ltB g0)).trans g0
    have g1n := (bq.cell (p := ⟨b13, 1, none⟩) (cell_ltB g1)).trans g1
    have c0n := (bq.cell (p := ⟨b3, 0, none⟩) (cell_ltB c0)).trans c0
    have c1n := (bq.cell (p := ⟨b3, 1, none⟩) (cell_ltB c1)).trans c1
    have x0n := (bq.cell (p := ⟨xb, xof + m * 5, none⟩) (cell_ltB x0)).trans x0
    clear a0 a1 g0 g1 c0 c1 x0
    have a0 := a0n
    have a1 := a1n
    have g0 := g0n
    have g1 := g1n
    have c0 := c0n
    have c1 := c1n
    have x0 := x0n
    clear bq a0n a1n g0n g1n c0n c1n x0n
    refine hK.out _ _ (Keeps.cons (by first | exact a0 | assumption) (Keeps.cons (by first | exact a1 | assumption) (Keeps.cons (by first | exact g0 | assumption) (Keeps.cons (by first | exact g1 | assumption) (Keeps.cons (by first | exact c0 | assumption) (Keeps.cons (by first | exact c1 | assumption) (Keeps.cons (by first | exact x0 | assumption) (Keeps.nil)))))))) ?_
    clear hK K
    try simp only [Act.put, List.getElem_toArray, List.getElem_cons_succ, List.getElem_cons_zero, List.setIfInBounds_toArray, List.set_cons_zero, List.set_cons_succ]
    refine GoG.take (i := 2) (v := ?_) [] rfl (by kernel_rfl) (by kernel_rfl) (by kernel_rfl) (by kernel_rfl) (by kernel_rfl) (by kernel_rfl) (fun _ _ _ h => h) (yields_free (by rfl) (fun w => ?_)) ?_
    rotate_left
    · go_simp; try (with_reducible rfl)
    try simp only [Act.put, List.getElem_toArray, List.getElem_cons_succ, List.getElem_cons_zero, List.setIfInBounds_toArray, List.set_cons_zero, List.set_cons_succ]
    refine GoG.take (i := 3) (v := ?_) [] rfl (by kernel_rfl) (by kernel_rfl) (by kernel_rfl) (by kernel_rfl) (by kernel_rfl) (by kernel_rfl) (fun _ _ _ h => h) (yields_free (by rfl) (fun w => ?_)) ?_
    rotate_left
    · go_simp; try (with_reducible rfl)
    try simp only [Act.put, List.getElem_toArray, List.getElem_cons_succ, List.getElem_cons_zero, List.setIfInBounds_toArray, List.set_cons_zero, List.set_cons_succ]
    refine GoG.take (i := 4) (v := ?_) [] rfl (by kernel_rfl) (by kernel_rfl) (by kernel_rfl) (by kernel_rfl) (by kernel_rfl) (by kernel_rfl) (fun _ _ _ h => h) (yields_free (by rfl) (fun w => ?_)) ?_
    rotate_left
    · go_simp; try (with_reducible rfl)
    try simp only [Act.put, List.getElem_toArray, List.getElem_cons_succ, List.getElem_cons_zero, List.setIfInBounds_toArray, List.set_cons_zero, List.set_cons_succ]
    refine GoG.take (i := 5) (v := ?_) [] rfl (by kernel_rfl) (by kernel_rfl) (by kernel_rfl) (by kernel_rfl) (by kernel_rfl) (by kernel_rfl) (fun _ _ _ h => h) (yields_free (by rfl) (fun w => ?_)) ?_
    rotate_left
    · go_simp; try (with_reducible rfl)
    try simp only [Act.put, List.getElem_toArray, List.getElem_cons_succ, List.getElem_cons_zero, List.setIfInBounds_toArray, List.set_cons_zero, List.set_cons_succ]
    refine GoG.take (i := 6) (v := ?_) [] rfl (by kernel_rfl) (by kernel_rfl) (by kernel_rfl) (by kernel_rfl) (by kernel_rfl) (by kernel_rfl) (fun _ _ _ h => h) (yields_free (by rfl) (fun w => ?_)) ?_
    rotate_left
    · go_simp; try (with_reducible rfl)
    try simp only [Act.put, List.getElem_toArray, List.getElem_cons_succ, List.getElem_cons_zero, List.setIfInBounds_toArray, List.set_cons_zero, List.set_cons_succ]
    refine GoG.take (i := 7) (v := ?_) [] rfl (by kernel_rfl) (by kernel_rfl) (by kernel_rfl) (by kernel_rfl) (by kernel_rfl) (by kernel_rfl) (fun _ _ _ h => h) (yields_free (by rfl) (fun w => ?_)) ?_
    rotate_left
    · go_simp; try (with_reducible rfl)
    try simp only [Act.put, List.getElem_toArray, List.getElem_cons_succ, List.getElem_cons_zero, List.setIfInBounds_toArray, List.set_cons_zero, List.set_cons_succ]
    refine GoG.take (i := 8) (v := ?_) [] rfl (by kernel_rfl) (by kernel_rfl) (by kernel_rfl) (by kernel_rfl) (by kernel_rfl) (by kernel_rfl) (fun _ _ _ h => h) (yields_free (by rfl) (fun w => ?_)) ?_
    rotate_left
    · go_simp; try (with_reducible rfl)
    try simp only [Act.put, List.getElem_toArray, List.getElem_cons_succ, List.getElem_cons_zero, List.setIfInBounds_toArray, List.set_cons_zero, List.set_cons_succ]
    refine GoG.take (i := 9) (v := ?_) [] rfl (by kernel_rfl) (by kernel_rfl) (by kernel_rfl) (by kernel_rfl) (by kernel_rfl) (by kernel_rfl) (fun _ _ _ h => h) (yields_free (by rfl) (fun w => ?_)) ?_
    rotate_left
    · go_simp; try (with_reducible rfl)
    try simp only [Act.put, List.getElem_toArray, List.getElem_cons_succ, List.getElem_cons_zero, List.setIfInBounds_toArray, List.set_cons_zero, List.set_cons_succ]
    refine GoG.take (i := 10) (v := ?_) [] rfl (by kernel_rfl) (by kernel_rfl) (by kernel_rfl) (by kernel_rfl) (by kernel_rfl) (by kernel_rfl) (fun _ _ _ h => h) (yields_free (by rfl) (fun w => ?_)) ?_
    rotate_left
    · go_simp; try (with_reducible rfl)
    try simp only [Act.put, List.getElem_toArray, List.getElem_cons_succ, List.getElem_cons_zero, List.setIfInBounds_toArray, List.set_cons_zero, List.set_cons_succ]
    refine GoG.take (i := 11) (v := ?_) [] rfl (by kernel_rfl) (by kernel_rfl) (by kernel_rfl) (by kernel_rfl) (by kernel_rfl) (by kernel_rfl) (fun _ _ _ h => h) (yields_free (by rfl) (fun w => ?_)) ?_
    rotate_left
    · go_simp; try (with_reducible rfl)
    try simp only [Act.put, List.getElem_toArray, List.getElem_cons_succ, List.getElem_cons_zero, List.setIfInBounds_toArray, List.set_cons_zero, List.set_cons_succ]
    refine GoG.take (i := 12) (v := ?_) [] rfl (by kernel_rfl) (by kernel_rfl) (by kernel_rfl) (by kernel_rfl) (by kernel_rfl) (by kernel_rfl) (fun _ _ _ h => h) (yields_free (by rfl) (fun w => ?_)) ?_
    rotate_left
    · go_simp; try (with_reducible rfl)
    try simp only [Act.put, List.getElem_toArray, List.getElem_cons_succ, List.getElem_cons_zero, List.setIfInBounds_toArray, List.set_cons_zero, List.set_cons_succ]
    refine GoG.take (i := 13) (v := ?_) [39] rfl (by kernel_rfl) (by kernel_rfl) (by kernel_rfl) (by kernel_rfl) (by kernel_rfl) (by kernel_rfl) (fun _ _ _ h => h) (.inl ⟨by rfl, fun WW hS => ?_⟩) ?_
    rotate_left
    · have g0 : WW.cell? ⟨b10, 0, none⟩ = some (.slice (some ⟨xb, xof, none⟩) V8.types.length ac8) := hS (39, ⟨b10, 0, none⟩, .slice (some ⟨xb, xof, none⟩) V8.types.length ac8) (by simp) (by simp)
      have g1 : WW.cell? ⟨b10, 1, none⟩ = some (.slice no8 V8.named.length nc8) := hS (39, ⟨b10, 1, none⟩, .slice no8 V8.named.length nc8) (by simp) (by simp)
      clear hS
      go_simp; try (with_reducible rfl)
    try simp only [Act.put, List.getElem_toArray, List.getElem_cons_succ, List.getElem_cons_zero, List.setIfInBounds_toArray, List.set_cons_zero, List.set_cons_succ]
    refine GoG.take (i := 14) (v := ?_) [39] rfl (by kernel_rfl) (by kernel_rfl) (by kernel_rfl) (by kernel_rfl) (by kernel_rfl) (by kernel_rfl) (fun _ _ _ h => h) (.inl ⟨by rfl, fun WW hS => ?_⟩) ?_
    rotate_left
    · have g0 : WW.cell? ⟨b13, 0, none⟩ = some (.slice ao9 V8.types.length ac9) := hS (39, ⟨b13, 0, none⟩, .slice ao9 V8.types.length ac9) (by simp) (by simp)
      have g1 : WW.cell? ⟨b13, 1, none⟩ = some (.slice no9 V8.named.length nc9) := hS (39, ⟨b13, 1, none⟩, .slice no9 V8.named.length nc9) (by simp) (by simp)
      clear hS
      go_simp; try (with_reducible rfl)
    try simp only [Act.put, List.getElem_toArray, List.getElem_cons_succ, List.getElem_cons_zero, List.setIfInBounds_toArray, List.set_cons_zero, List.set_cons_succ]
    refine GoG.one (i := 15) rfl (by kernel_rfl) (fun K hK => ?_)
    go_simp
    refine (HLK8.out _ Bu1.out).mono ?_
    rintro e u2 ⟨rfl, bq⟩
    have Bu2 := Lib.hid (Bu1.out.trans (bq.mono Bu1.out.size))
    have a0n := (bq.cell (p := ⟨b10, 0, none⟩) (cell_ltB a0)).trans a0
    have a1n := (bq.cell (p := ⟨b10, 1, none⟩) (cell_ltB a1)).trans a1
    have g0n := (bq.cell (p := ⟨b13, 0, none⟩) (cell_ltB g0)).trans g0
    have g1n := (bq.cell (p := ⟨b13, 1, none⟩) (cell_ltB g1)).trans g1
    have c0n := (bq.cell (p := ⟨b3, 0, none⟩) (cell_ltB c0)).trans c0
    have c1n := (bq.cell (p := ⟨b3, 1, none⟩) (cell_ltB c1)).trans c1
    have x0n := (bq.cell (p := ⟨xb, xof + m * 5, none⟩) (cell_ltB x0)).trans x0
    clear a0 a1 g0 g1 c0 c1 x0
    have a0 := a0n
    have a1 := a1n
    have g0 := g0n
    have g1 := g1n
    have c0 := c0n
    have c1 := c1n
    have x0 := x0n
    clear bq a0n a1n g0n g1n c0n c1n x0n
    refine hK.out _ _ (Keeps.cons (by first | exact a0 | assumption) (Keeps.cons (by first | exact a1 | assumption) (Keeps.cons (by first | exact g0 | assumption) (Keeps.cons (by first | exact g1 | assumption) (Keeps.cons (by first | exact c0 | assumption) (Keeps.cons (by first | exact c1 | assumption) (Keeps.cons (by first | exact x0 | assumption) (Keeps.nil)))))))) ?_
    clear hK K
    try simp only [Act.put, List.getElem_toArray, List.getElem_cons_succ, List.getElem_cons_zero, List.setIfInBounds_toArray, List.set_cons_zero, List.set_cons_succ]
    refine GoG.take (i := 16) (v := ?_) [] rfl (by kernel_rfl) (by kernel_rfl) (by kernel_rfl) (by kernel_rfl) (by kernel_rfl) (by kernel_rfl) (fun _ _ _ h => h) (yields_free (by rfl) (fun w => ?_)) ?_
    rotate_left
    · go_simp; try (with_reducible rfl)
    try simp only [Act.put, List.getElem_toArray, List.getElem_cons_succ, List.getElem_cons_zero, List.setIfInBounds_toArray, List.set_cons_zero, List.set_cons_succ]
    refine GoG.take (i := 17) (v := ?_) [] rfl (by kernel_rfl) (by kernel_rfl) (by kernel_rfl) (by kernel_rfl) (by kernel_rfl) (by kernel_rfl) (fun _ _ _ h => h) (yields_free (by rfl) (fun w => ?_)) ?_
    rotate_left
    · go_simp; try (with_reducible rfl)
    try simp only [Act.put, List.getElem_toArray, List.getElem_cons_succ, List.getElem_cons_zero, List.setIfInBounds_toArray, List.set_cons_zero, List.set_cons_succ]
    refine GoG.take (i := 18) (v := ?_) [] rfl (by kernel_rfl) (by kernel_rfl) (by kernel_rfl) (by kernel_rfl) (by kernel_rfl) (by kernel_rfl) (fun _ _ _ h => h) (yields_free (by rfl) (fun w => ?_)) ?_
    rotate_left
    · go_simp; try (with_reducible rfl)
    try simp only [Act.put, List.getElem_toArray, List.getElem_cons_succ, List.getElem_cons_zero, List.setIfInBounds_toArray, List.set_cons_zero, List.set_cons_succ]
    refine GoG.take (i := 19) (v := ?_) [] rfl (by kernel_rfl) (by kernel_rfl) (by kernel_rfl) (by kernel_rfl) (by kernel_rfl) (by kernel_rfl) (fun _ _ _ h => h) (yields_free (by rfl) (fun w => ?_)) ?_
    rotate_left
    · go_simp; try (with_reducible rfl)
    try simp only [Act.put, List.getElem_toArray, List.getElem_cons_succ, List.getElem_cons_zero, List.setIfInBounds_toArray, List.set_cons_zero, List.set_cons_succ]
    refine GoG.take (i := 20) (v := ?_) [39] rfl (by kernel_rfl) (by kernel_rfl) (by kernel_rfl) (by kernel_rfl) (by kernel_rfl) (by kernel_rfl) (fun _ _ _ h => h) (yields_load 39 ⟨b10, 0, none⟩ (.slice (some ⟨xb, xof, none⟩) V8.types.length ac8) (by simp) (by decide) (by rfl) (fun w hw => ?_)) ?_
    rotate_left
    · go_simp; try (with_reducible rfl)
    try simp only [Act.put, List.getElem_toArray, List.getElem_cons_succ, List.getElem_cons_zero, List.setIfInBounds_toArray, List.set_cons_zero, List.set_cons_succ]
    refine GoG.take (i := 21) (v := ?_) [] rfl (by kernel_rfl) (by kernel_rfl) (by kernel_rfl) (by kernel_rfl) (by kernel_rfl) (by kernel_rfl) (fun _ _ _ h => h) (yields_free (by rfl) (fun w => ?_)) ?_
    rotate_left
    · go_simp; try (with_reducible rfl)
    try simp only [Act.put, List.getElem_toArray, List.getElem_cons_succ, List.getElem_cons_zero, List.setIfInBounds_toArray, List.set_cons_zero, List.set_cons_succ]
    refine GoG.take (i := 22) (v := ?_) [] rfl (by kernel_rfl) (by kernel_rfl) (by kernel_rfl) (by kernel_rfl) (by kernel_rfl) (by kernel_rfl) (fun _ _ _ h => h) (yields_free (by rfl) (fun w => ?_)) ?_
    rotate_left
    · go_simp; try (with_reducible rfl)
    try simp only [Act.put, List.getElem_toArray, List.getElem_cons_succ, List.getElem_cons_zero, List.setIfInBounds_toArray, List.set_cons_zero, List.set_cons_succ]
    refine GoG.take (i := 23) (v := ?_) [] rfl (by kernel_rfl) (by kernel_rfl) (by kernel_rfl) (by kernel_rfl) (by kernel_rfl) (by kernel_rfl) (fun _ _ _ h => h) (yields_free (by rfl) (fun w => ?_)) ?_
    rotate_left
    · go_simp; try (with_reducible rfl)
    try simp only [Act.put, List.getElem_toArray, List.getElem_cons_succ, List.getElem_cons_zero, List.setIfInBounds_toArray, List.set_cons_zero, List.set_cons_succ]
    refine GoG.take (i := 24) (v := ?_) [39] rfl (by kernel_rfl) (by kernel_rfl) (by kernel_rfl) (by kernel_rfl) (by kernel_rfl) (by kernel_rfl) (fun _ _ _ h => h) (yields_load 39 ⟨xb, xof + m * 5, none⟩ (.int .i64 kd) (by simp) (by decide) (by rfl) (fun w hw => ?_)) ?_
    rotate_left
    · go_simp; try (with_reducible rfl)
    try simp only [Act.put, List.getElem_toArray, List.getElem_cons_succ, List.getElem_cons_zero, List.setIfInBounds_toArray, List.set_cons_zero, List.set_cons_succ]
    refine GoG.take (i := 25) (v := ?_) [] rfl (by kernel_rfl) (by kernel_rfl) (by kernel_rfl) (by kernel_rfl) (by kernel_rfl) (by kernel_rfl) (fun _ _ _ h => h) (yields_free (by rfl) (fun w => ?_)) ?_
    rotate_left
    · go_simp; try (with_reducible rfl)
    try simp only [Act.put, List.getElem_toArray, List.getElem_cons_succ, List.getElem_cons_zero, List.setIfInBounds_toArray, List.set_cons_zero, List.set_cons_succ]
    refine GoG.take (i := 26) (v := ?_) [] rfl (by kernel_rfl) (by kernel_rfl) (by kernel_rfl) (by kernel_rfl) (by kernel_rfl) (by kernel_rfl) (fun _ _ _ h => h) (yields_free (by rfl) (fun w => ?_)) ?_
    rotate_left
    · go_simp; try (with_reducible rfl)
    try simp only [Act.put, List.getElem_toArray, List.getElem_cons_succ, List.getElem_cons_zero, List.setIfInBounds_toArray, List.set_cons_zero, List.set_cons_succ]
    refine GoG.take (i := 27) (v := ?_) [] rfl (by kernel_rfl) (by kernel_rfl) (by kernel_rfl) (by kernel_rfl) (by kernel_rfl) (by kernel_rfl) (fun _ _ _ h => h) (yields_free (by rfl) (fun w => ?_)) ?_
    rotate_left
    · go_simp; try (with_reducible rfl)
    try simp only [Act.put, List.getElem_toArray, List.getElem_cons_succ, List.getElem_cons_zero, List.setIfInBounds_toArray, List.set_cons_zero, List.set_cons_succ]
    refine GoG.take (i := 28) (v := ?_) [] rfl (by kernel_rfl) (by kernel_rfl) (by kernel_rfl) (by kernel_rfl) (by kernel_rfl) (by kernel_rfl) (fun _ _ _ h => h) (yields_free (by rfl) (fun w => ?_)) ?_
    rotate_left
    · go_simp; try (with_reducible rfl)
    try simp only [Act.put, List.getElem_toArray, List.getElem_cons_succ, List.getElem_cons_zero, List.setIfInBounds_toArray, List.set_cons_zero, List.set_cons_succ]
    refine GoG.take (i := 29) (v := ?_) [39] rfl (by kernel_rfl) (by kernel_rfl) (by kernel_rfl) (by kernel_rfl) (by kernel_rfl) (by kernel_rfl) (fun _ _ _ h => h) (yields_load 39 ⟨b10, 0, none⟩ (.slice (some ⟨xb, xof, none⟩) V8.types.length ac8) (by simp) (by decide) (by rfl) (fun w hw => ?_)) ?_
    rotate_left
    · go_simp; try (with_reducible rfl)
    try simp only [Act.put, List.getElem_toArray, List.getElem_cons_succ, List.getElem_cons_zero, List.setIfInBounds_toArray, List.set_cons_zero, List.set_cons_succ]
    refine GoG.take (i := 30) (v := ?_) [] rfl (by kernel_rfl) (by kernel_rfl) (by kernel_rfl) (by kernel_rfl) (by kernel_rfl) (by kernel_rfl) (fun _ _ _ h => h) (yields_free (by rfl) (fun w => ?_)) ?_
    rotate_left
    · go_simp; try (with_reducible rfl)
    try simp only [Act.put, List.getElem_toArray, List.getElem_cons_succ, List.getElem_cons_zero, List.setIfInBounds_toArray, List.set_cons_zero, List.set_cons_succ]
    refine GoG.take (i := 31) (v := ?_) [39] rfl (by kernel_rfl) (by kernel_rfl) (by kernel_rfl) (by kernel_rfl) (by kernel_rfl) (by kernel_rfl) (fun _ _ _ h => h) (yields_load 39 ⟨b3, 0, none⟩ (.slice xo L2 xc) (by simp) (by decide) (by rfl) (fun w hw => ?_)) ?_
    rotate_left
    · go_simp; try (with_reducible rfl)
    try simp only [Act.put, List.getElem_toArray, List.getElem_cons_succ, List.getElem_cons_zero, List.setIfInBounds_toArray, List.set_cons_zero, List.set_cons_succ]
    refine GoG.take (i := 32) (v := ?_) [] rfl (by kernel_rfl) (by kernel_rfl) (by kernel_rfl) (by kernel_rfl) (by kernel_rfl) (by kernel_rfl) (fun _ _ _ h => h) (yields_free (by rfl) (fun w => ?_)) ?_
    rotate_left
    · go_simp; try (with_reducible rfl)
    try simp only [Act.put, List.getElem_toArray, List.getElem_cons_succ, List.getElem_cons_zero, List.setIfInBounds_toArray, List.set_cons_zero, List.set_cons_succ]
    refine GoG.take (i := 33) (v := ?_) [] rfl (by kernel_rfl) (by kernel_rfl) (by kernel_rfl) (by kernel_rfl) (by kernel_rfl) (by kernel_rfl) (fun _ _ _ h => h) (yields_free (by rfl) (fun w => ?_)) ?_
    rotate_left
    · go_simp; try (with_reducible rfl)
    try simp only [Act.put, List.getElem_toArray, List.getElem_cons_succ, List.getElem_cons_zero, List.setIfInBounds_toArray, List.set_cons_zero, List.set_cons_succ]
    refine GoG.take (i := 34) (v := ?_) [] rfl (by kernel_rfl) (by kernel_rfl) (by kernel_rfl) (by kernel_rfl) (by kernel_rfl) (by kernel_rfl) (fun _ _ _ h => h) (yields_free (by rfl) (fun w => ?_)) ?_
    rotate_left
    · go_simp; try (with_reducible rfl)
    try simp only [Act.put, List.getElem_toArray, List.getElem_cons_succ, List.getElem_cons_zero, List.setIfInBounds_toArray, List.set_cons_zero, List.set_cons_succ]
    refine GoG.take (i := 35) (v := ?_) [39] rfl (by kernel_rfl) (by kernel_rfl) (by kernel_rfl) (by kernel_rfl) (by kernel_rfl) (by kernel_rfl) (fun _ _ _ h => h) (yields_load 39 ⟨b3, 0, none⟩ (.slice xo L2 xc) (by simp) (by decide) (by rfl) (fun w hw => ?_)) ?_
    rotate_left
    · go_simp; try (with_reducible rfl)
    try simp only [Act.put, List.getElem_toArray, List.getElem_cons_succ, List.getElem_cons_zero, List.setIfInBounds_toArray, List.set_cons_zero, List.set_cons_succ]
    refine GoG.one (i := 36) rfl (by kernel_rfl) (fun K hK => ?_)
    go_simp
    refine (HAR8.out _ Bu2.out).mono ?_
    rintro e u3 ⟨rfl, bq⟩
    have Bu3 := Lib.hid (Bu2.out.trans (bq.mono Bu2.out.size))
    have a0n := (bq.cell (p := ⟨b10, 0, none⟩) (cell_ltB a0)).trans a0
    have a1n := (bq.cell (p := ⟨b10, 1, none⟩) (cell_ltB a1)).trans a1
    have g0n := (bq.cell (p := ⟨b13, 0, none⟩) (cell_ltB g0)).trans g0
    have g1n := (bq.cell (p := ⟨b13, 1, none⟩) (cell_ltB g1)).trans g1
    have c0n := (bq.cell (p := ⟨b3, 0, none⟩) (cell_ltB c0)).trans c0
    have c1n := (bq.cell (p := ⟨b3, 1, none⟩) (cell_ltB c1)).trans c1
    have x0n := (bq.cell (p := ⟨xb, xof + m * 5, none⟩) (cell_ltB x0)).trans x0
    clear a0 a1 g0 g1 c0 c1 x0
    have a0 := a0n
    have a1 := a1n
    have g0 := g0n
    have g1 := g1n
    have c0 := c0n
    have c1 := c1n
    have x0 := x0n
    clear bq a0n a1n g0n g1n c0n c1n x0n
    refine hK.out _ _ (Keeps.cons (by first | exact a0 | assumption) (Keeps.cons (by first | exact a1 | assumption) (Keeps.cons (by first | exact g0 | assumption) (Keeps.cons (by first | exact g1 | assumption) (Keeps.cons (by first | exact c0 | assumption) (Keeps.cons (by first | exact c1 | assumption) (Keeps.cons (by first | exact x0 | assumption) (Keeps.nil)))))))) ?_
    clear hK K
    try simp only [Act.put, List.getElem_toArray, List.getElem_cons_succ, List.getElem_cons_zero, List.setIfInBounds_toArray, List.set_cons_zero, List.set_cons_succ]
    refine GoG.take (i := 37) (v := ?_) [] rfl (by kernel_rfl) (by kernel_rfl) (by kernel_rfl) (by kernel_rfl) (by kernel_rfl) (by kernel_rfl) (fun _ _ _ h => h) (yields_free (by rfl) (fun w => ?_)) ?_
    rotate_left
    · go_simp; try (with_reducible rfl)
    try simp only [Act.put, List.getElem_toArray, List.getElem_cons_succ, List.getElem_cons_zero, List.setIfInBounds_toArray, List.set_cons_zero, List.set_cons_succ]
    refine GoG.take (i := 38) (v := ?_) [] rfl (by kernel_rfl) (by kernel_rfl) (by kernel_rfl) (by kernel_rfl) (by kernel_rfl) (by kernel_rfl) (fun _ _ _ h => h) (yields_free (by rfl) (fun w => ?_)) ?_
    rotate_left
    · go_simp; try (with_reducible rfl)
    try simp only [Act.put, List.getElem_toArray, List.getElem_cons_succ, List.getElem_cons_zero, List.setIfInBounds_toArray, List.set_cons_zero, List.set_cons_succ]
    refine GoG.done (by kernel_rfl) ?_ _
    have BW3 := Lib.hid (BW15.out.trans (Bu3.out.mono BW15.out.size))
    have Bt3 := Lib.hid (Bt15.out.trans (Bu3.out.mono Bt15.out.size))
    clear a0 a1 g0 g1 c0 c1 x0
    have K3t := Lib.hid (K3t.out.below Bt3.out)
    have HXt := Lib.hid (HXt.out.same (SameS.below Bt3.out))
    have HM0 := methods_any (fun _ => True) U xo yo xc yc i u3 (fun _ _ => trivial) HXt.out (HVW.out.below BW3.out)
    obtain ⟨⟨V14, ms, e14⟩, hF14⟩ : ∃ R, methU U i = R := ⟨_, rfl⟩
    have HR14 := Lib.hid (meth_right HRU.out i)
    rw [hF14] at HM0 HR14
    unfold unV at HM0
    rw [HL.out, HN.out] at HM0
    have HM := Lib.hid HM0
    obtain ⟨c0, c1⟩ := cell2 K3t.out
    clear HM0 hF14
    go_wp2_with fail
    refine HM.out.mono ?_
    rintro e w16 ⟨ao14, no14, ac14, nc14, lo, lc, rfl, hA, hR, hlc14, b16⟩
    have HA16 := Lib.hid hA
    have HR16 := Lib.hid hR.out
    have B16 := Lib.hid b16
    have HLC := Lib.hid hlc14
    clear hA hR b16 c0 c1 HM hlc14
    unfold unV
    obtain ⟨ml, hml2⟩ : ∃ ml, ms.length = ml := ⟨_, rfl⟩
    have HML := Lib.hid hml2
    have hlc2 : ml ≤ lc := by rw [← hml2]; exact HLC.out
    rw [hml2]
    obtain ⟨w17, h17⟩ : ∃ w17, w16.alloc (.cells #[.slice ao14 V14.types.length ac14, .slice no14 V14.named.length nc14] 25) = w17 := ⟨_, rfl⟩
    obtain ⟨k17, q17, z17⟩ := box_new h17
    have K16 := Lib.hid k17
    have HA17 := Lib.hid (HA16.out.same (SameS.below q17))
    have HR17 := Lib.hid (HR16.out.below q17)
    have B317 := Lib.hid (B16.out.trans (q17.mono B16.out.size))
    have BW17 := Lib.hid (BW3.out.trans (B317.out.mono BW3.out.size))
    clear k17 q17 z17 hml2
    by_cases he14 : e14 = 0
    case neg =>
      have hq14 : (e14 != 0) = true := by rw [bne_iff_ne]; exact he14
      have hq141 : (e14 != 1) = true := by rw [bne_iff_ne]; exact HR14.out.1
      clear he14
      go_wp2_with fail
      refine (HAL.out _ BW17.out).mono ?_
      rintro e wz ⟨rfl, bz⟩
      have BZ := Lib.hid (BW17.out.trans (bz.mono BW17.out.size))
      clear bz
      go_wp2_with fail
      go_ret
      first | exact ⟨rfl, BZ.out⟩ | exact ⟨by simp, BZ.out⟩
    subst he14
    obtain ⟨hr14, hn14, hs14, hl14⟩ := HR14.out.2 rfl
    have LEN18 := Lib.hid (show ms.length ≤ 16 from hl14)
    have H14 := Lib.hid hr14
    have N14 := Lib.hid hn14
    have S14 := Lib.hid hs14
    obtain ⟨b16, hb16⟩ : ∃ b, w16.heap.size = b := ⟨_, rfl⟩
    have K16 := Lib.hid (show BlockAt w17 b16 _ _ by rw [← hb16]; exact K16.out)
    clear hr14 hn14 hs14 hl14
    go_wp2_with fail
    try rw [hb16]
    clear h17 hb16
    go_loopw [163] (fun v wr => ∃ k : Nat, k ≤ ml ∧ v = .int .i64 k ∧ Hid (Below w17.heap.size w17 wr)) (fun v _ => ml - (intOf v).toNat)
    case atStart => exact ⟨0, Nat.zero_le _, rfl, Lib.hid (Below.refl _ _)⟩
    case round =>
      obtain ⟨k, hk, rfl, HB⟩ := hrel
      by_cases hkm : k < ml
      · have hkl : k < ms.length := by rw [HML.out]; exact hkm
        obtain ⟨mb, mof, rfl, hmb, hmc⟩ := (HR17.out.below HB.out).cells (by omega)
        obtain ⟨y0, y1, y2⟩ := hmc k hkl
        obtain ⟨y, hy⟩ : ∃ y, ms[k] = y := ⟨_, rfl⟩
        rw [hy] at y0 y1 y2
        have hsg := S14.out y (by rw [← hy]; exact List.getElem_mem hkl)
        unfold isB inL at hsg
        rw [Bool.and_eq_true] at hsg
        have hsi := of_decide_eq_true hsg.1
        have hs5 := of_decide_eq_true hsg.2
        obtain ⟨sg, hsn⟩ : ∃ s : Nat, y.sig = (s : Int) := ⟨y.sig.toNat, by omega⟩
        have hsl : sg < V14.types.length := by omega
        rw [hsn, kindAt_eq hsl] at hs5
        rw [hsn] at y2
        obtain ⟨ab, aof, rfl, hab, hac⟩ := (HA17.out.out.types.below HB.out).cells (by omega)
        obtain ⟨_, _, _, _, z0, -, -, -, -, -, -, -⟩ := hac sg hsl
        rw [hs5] at z0
        have HPV := Lib.hid (fun (h0 : 0 < k) => And.intro ((hmc (k - 1) (by omega)).1) (meth_less N14.out hkl h0))
        have KB := Lib.hid (K16.out.below HB.out)
        have hsI : (sg : Int) < (V14.types.length : Int) := by omega
        have hkI : (k : Int) < (ml : Int) := by omega
        have hm16 : ml ≤ 16 := by rw [← HML.out]; exact LEN18.out
        have HYN := Lib.hid hy
        have hatc := HA17.out.tc
        obtain ⟨w18, h18⟩ : ∃ w18, wr.alloc (.cells #[.string y.name, .bool y.ptr, .int .i64 sg] 48) = w18 := ⟨_, rfl⟩
        obtain ⟨k18, q18, z18⟩ := box_new h18
        obtain ⟨s0, s1, s2⟩ := cell3m k18
        have z0 := (q18.cell hab).trans z0
        obtain ⟨r0, r1⟩ := cell2 (KB.out.below q18)
        have B18 := Lib.hid (HB.out.trans (q18.mono HB.out.size))
        have hk5 : ((5 : Int) != 5) = false := by decide
        clear hmc hac hsg hsi hs5 hy hsn hab
        by_cases h0 : k = 0
        · subst h0
          rw [Nat.zero_mul, Nat.add_zero] at y0 y1 y2
          go_wp2_with fail
          go_quiet (fail)
          go_wp2_with fail
          go_roundw
          case rel => exact ⟨0 + 1, by omega, by go_num, Lib.hid (below_drewN B18.out _)⟩
          case measure => first | (simp [intOf]; done) | (simp [intOf]; omega)
        · obtain ⟨p, hp⟩ : ∃ p, k = p + 1 := ⟨k - 1, by omega⟩
          have hpn : p < ml := by omega
          have hpI : (p : Int) < (ml : Int) := by omega
          have hpk : k - 1 = p := by omega
          obtain ⟨cp, hls⟩ := HPV.out (by omega)
          obtain ⟨v, hv⟩ : ∃ v, (ms[k - 1]'(by omega)).name = v := ⟨_, rfl⟩
          rw [hv] at cp hls
          rw [hpk] at cp
          rw [HYN.out] at hls
          have hnl := hls
          rw [less_not, Bool.not_eq_true', Bool.or_eq_false_iff] at hnl
          obtain ⟨hgt, hne⟩ := hnl
          have hls : Op.bytesLess v.toList y.name.toList = true := hls
          have hsub : (k : Int) - 1 = (p : Int) := by omega
          have hpos : (0 : Int) < (k : Int) := by omega
          have hposd : decide ((0 : Int) < (k : Int)) = true := decide_eq_true hpos
          have hposn : 0 < k := by omega
          have hsubw : IntKind.i64.wrap ((k : Int) - 1) = (p : Int) := by rw [hsub]; exact IntWalk.i64_in _ (by have := HML.out; have := LEN18.out; omega)
          have hpw : IntKind.i64.wrap (p : Int) = (p : Int) := IntWalk.i64_in _ (by have := HML.out; have := LEN18.out; omega)
          have cp := (q18.cell (cell_ltB cp)).trans cp
          have HPK := Lib.hid hp
          clear hpk hv hp h0
          go_wp2_with fail
          go_quiet (fail)
          go_wp2_with fail
          go_roundw
          case rel => exact ⟨k + 1, by omega, by go_num, Lib.hid (below_drewN B18.out _)⟩
          case measure => first | (simp [intOf]; done) | (simp [intOf]; omega)
      · obtain rfl : k = ml := by omega
        have BWR := Lib.hid (BW17.out.trans (HB.out.mono BW17.out.size))
        have HRF0 := fun w (hb : Below wr.heap.size wr w) => right_uany V14 ao14 no14 ac14 nc14 w ((HA17.out.out.below HB.out).below hb) (HVW.out.below (BWR.out.trans (hb.mono BWR.out.size))) (HVW.out.below (BWR.out.trans (hb.mono BWR.out.size))).max
        rw [H14.out] at HRF0
        unfold unV at HRF0
        have HRF := Lib.hid HRF0
        have KB := Lib.hid (K16.out.below HB.out)
        clear HRF0
        go_wp2_with fail
        refine (HAL.out _ BWR.out).mono ?_
        rintro e wz ⟨rfl, bz⟩
        have BZ := Lib.hid (BWR.out.trans (bz.mono BWR.out.size))
        have HRFz := Lib.hid (HRF.out _ bz)
        obtain ⟨r0, r1⟩ := cell2 (KB.out.below bz)
        clear bz
        go_wp2_with fail
        refine HRFz.out.mono ?_
        rintro e wy ⟨rfl, by_⟩
        have BY := Lib.hid (BZ.out.trans (by_.mono BZ.out.size))
        clear by_ r0 r1
        go_wp2_with fail
        go_ret
        exact ⟨by first | rfl | (simp; done), BY.out⟩
end Go.Proofs.YtkmnfkhchcoamaaGreatDoor

