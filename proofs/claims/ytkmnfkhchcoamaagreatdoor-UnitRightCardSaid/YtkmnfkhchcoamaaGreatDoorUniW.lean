import Derived.Test.YtkmnfkhchcoamaaGreatDoorUniAL
import Derived.Test.YtkmnfkhchcoamaaGreatDoorUnF
import Derived.Test.YtkmnfkhchcoamaaGreatDoorUnR
/- The law UnitRight: its walk. -/
namespace Go.Proofs.YtkmnfkhchcoamaaGreatDoor
open Go.RowKit
set_option linter.unusedSimpArgs false
set_option linter.unusedVariables false

/-- A unit of few's, in memory. -/
theorem few_un {W0 w w' : World} {base : Nat} {xo yo : Option Addr} {xc yc : Nat} {xs : List Tz} {ys : List Nz} (hx : OwnZ w' base (.slice xo xs.length xc) xs) (hy : OwnN w' base (.slice yo ys.length yc) ys) (ix : ∀ z ∈ xs, InZ W0 z) (iy : ∀ z ∈ ys, InN W0 z) (lx : xs.length ≤ 402) (ly : ys.length ≤ 62) (hb : Below W0.heap.size W0 w') :
    UnC w' xo yo xc yc ⟨xs.map (·.t), ys.map (·.t)⟩ := by
  obtain ⟨a1, c1, e1, r1, g1⟩ := own_arow hx (fun z hz => (ix z hz).below hb)
  obtain ⟨a2, c2, e2, r2, g2⟩ := own_urow hy (fun z hz => (iy z hz).below hb)
  rw [List.length_map] at e1 e2
  injection e1 with e1 _ e1'
  injection e2 with e2 _ e2'
  subst e1
  subst e1'
  subst e2
  subst e2'
  exact ⟨r1, r2, by show (xs.map (·.t)).length ≤ 1000; rw [List.length_map]; omega, by show (ys.map (·.t)).length ≤ 1000; rw [List.length_map]; omega, g1, g2⟩
set_option maxHeartbeats 32000000 in
set_option maxRecDepth 100000 in
theorem right_walk (u o : Un) (ao no bo mo : Option Addr) (ac nc bc mc : Nat) (s : ByteArray) (W : World) (hu : InUn W ao no ac nc u) (ho : InUn W bo mo bc mc o) (hs : s.size ≤ 9223372036854775807) (hV : Env W) :
    Calls Tryz.prog 3 #[unV u ao ac no nc, unV o bo bc mo mc, .string s] W fun e W' => e = .returned (.bool true) ∧ Below W.heap.size W W' := by
  obtain ⟨w1, h1⟩ : ∃ w1, W.alloc (.cells #[.slice ao u.types.length ac, .slice no u.named.length nc] 25) = w1 := ⟨_, rfl⟩
  obtain ⟨k1, q1, z1⟩ := box_new h1
  obtain ⟨w2, h2⟩ : ∃ w2, w1.alloc (.cells #[.slice bo o.types.length bc, .slice mo o.named.length mc] 25) = w2 := ⟨_, rfl⟩
  obtain ⟨k2, q2, z2⟩ := box_new h2
  have B2 := Lib.hid (q1.trans (q2.mono q1.size))
  have B2d := Lib.hid B2.out.drew
  have HF10 := fewU_any W u ao no ac nc w2.drew B2d.out hu
  have HF20 := fun w (hb : Below W.heap.size W w) => fewU_any W o bo mo bc mc w hb ho
  unfold unV at HF10 HF20
  unfold unV
  obtain ⟨L, hL⟩ : ∃ L, u.types.length = L := ⟨_, rfl⟩
  obtain ⟨n, hn⟩ : ∃ n, u.named.length = n := ⟨_, rfl⟩
  obtain ⟨M, hM⟩ : ∃ M, o.types.length = M := ⟨_, rfl⟩
  obtain ⟨m, hm⟩ : ∃ m, o.named.length = m := ⟨_, rfl⟩
  rw [hL, hn] at h1 k1 HF10 ⊢
  rw [hM, hm] at h2 k2 HF20 ⊢
  have HF1 := Lib.hid HF10
  have HF2 := Lib.hid HF20
  have K30 := Lib.hid (k1.below q2)
  have K40 := Lib.hid k2
  have SZ := Lib.hid (show W.heap.size < w2.heap.size ∧ w1.heap.size < w2.heap.size ∧ W.heap.size ≠ w1.heap.size ∧ W.heap.size ≤ w1.heap.size by omega)
  have HVW := Lib.hid hV
  obtain ⟨q, hq⟩ : ∃ q : Nat, min s.size 50 = q := ⟨_, rfl⟩
  have p1 : q ≤ s.size := by omega
  have p2 : q ≤ 50 := by omega
  have G0 : ∀ (ts : Array TypeId) (ty : TypeId) (WW : World), (Builtin.min_ ts ty #[.int .i64 (s.size : Int), .int .i64 50]).run Tryz.prog WW = .ok (.int .i64 (q : Int)) WW := fun ts ty WW => by rw [run_min_int2, show (if (50 : Int) < (s.size : Int) then (50 : Int) else (s.size : Int)) = (q : Int) by split <;> omega]
  clear HF10 HF20 hL hn hM hm k1 k2 q1 q2 z1 z2 hu ho hq hV
  go_enter Tryz.func3, Tryz.ntmps3
  go_upto_region 1 with fail
  obtain ⟨b3, hb3⟩ : ∃ b, W.heap.size = b := ⟨_, rfl⟩
  obtain ⟨b4, hb4⟩ : ∃ b, w1.heap.size = b := ⟨_, rfl⟩
  have K3 := Lib.hid (show BlockAt w2 b3 _ _ by rw [← hb3]; exact K30.out)
  have K4 := Lib.hid (show BlockAt w2 b4 _ _ by rw [← hb4]; exact K40.out)
  have SB := Lib.hid (show W.heap.size = b3 ∧ b3 < w2.heap.size ∧ b4 < w2.heap.size ∧ b3 ≠ b4 ∧ W.heap.size ≤ b3 ∧ W.heap.size ≤ b4 from by have := SZ.out; omega)
  have NE34 := Lib.hid SB.out.2.2.2.1
  rw [hb3, hb4]
  obtain ⟨c0, c1⟩ := cell2 K3.out
  obtain ⟨d0, d1⟩ := cell2 K4.out
  clear h1 h2 hb3 hb4 K30 K40
  refine GoG.start [(9, ⟨b3, 0, none⟩, .slice ao L ac), (9, ⟨b3, 1, none⟩, .slice no n nc), (10, ⟨b4, 0, none⟩, .slice bo M bc), (10, ⟨b4, 1, none⟩, .slice mo m mc)] (by kernel_rfl) ?_ ?_
  · exact Keeps.cons (by first | exact c0 | assumption) (Keeps.cons (by first | exact c1 | assumption) (Keeps.cons (by first | exact d0 | assumption) (Keeps.cons (by first | exact d1 | assumption) (Keeps.nil))))
  refine GoG.take (i := 0) (v := ?_) [9] rfl (by kernel_rfl) (by kernel_rfl) (by kernel_rfl) (by kernel_rfl) (by kernel_rfl) (by kernel_rfl) (fun _ _ _ h => h) (.inl ⟨by rfl, fun WW hS => ?_⟩) ?_
  rotate_left
  · have g0 : WW.cell? ⟨b3, 0, none⟩ = some (.slice ao L ac) := hS (9, ⟨b3, 0, none⟩, .slice ao L ac) (by simp) (by simp)
    have g1 : WW.cell? ⟨b3, 1, none⟩ = some (.slice no n nc) := hS (9, ⟨b3, 1, none⟩, .slice no n nc) (by simp) (by simp)
    clear hS
    go_simp; try (with_reducible rfl)
  try simp only [Act.put, List.getElem_toArray, List.getElem_cons_succ, List.getElem_cons_zero, List.setIfInBounds_toArray, List.set_cons_zero, List.set_cons_succ]
  refine GoG.take (i := 2) (v := ?_) [10] rfl (by kernel_rfl) (by kernel_rfl) (by kernel_rfl) (by kernel_rfl) (by kernel_rfl) (by kernel_rfl) (fun _ _ _ h => h) (.inl ⟨by rfl, fun WW hS => ?_⟩) ?_
  rotate_left
  · have g0 : WW.cell? ⟨b4, 0, none⟩ = some (.slice bo M bc) := hS (10, ⟨b4, 0, none⟩, .slice bo M bc) (by simp) (by simp)
    have g1 : WW.cell? ⟨b4, 1, none⟩ = some (.slice mo m mc) := hS (10, ⟨b4, 1, none⟩, .slice mo m mc) (by simp) (by simp)
    clear hS
    go_simp; try (with_reducible rfl)
  try simp only [Act.put, List.getElem_toArray, List.getElem_cons_succ, List.getElem_cons_zero, List.setIfInBounds_toArray, List.set_cons_zero, List.set_cons_succ]
  refine GoG.take (i := 4) (v := ?_) [] rfl (by kernel_rfl) (by kernel_rfl) (by kernel_rfl) (by kernel_rfl) (by kernel_rfl) (by kernel_rfl) (fun _ _ _ h => h) (yields_free (by rfl) (fun w => ?_)) ?_
  rotate_left
  · go_simp; try (with_reducible rfl)
  try simp only [Act.put, List.getElem_toArray, List.getElem_cons_succ, List.getElem_cons_zero, List.setIfInBounds_toArray, List.set_cons_zero, List.set_cons_succ]
  refine GoG.take (i := 5) (v := ?_) [] rfl (by kernel_rfl) (by kernel_rfl) (by kernel_rfl) (by kernel_rfl) (by kernel_rfl) (by kernel_rfl) (fun _ _ _ h => h) (yields_free (by rfl) (fun w => ?_)) ?_
  rotate_left
  · go_simp; try (with_reducible rfl)
  try simp only [Act.put, List.getElem_toArray, List.getElem_cons_succ, List.getElem_cons_zero, List.setIfInBounds_toArray, List.set_cons_zero, List.set_cons_succ]
  refine GoG.take (i := 6) (v := ?_) [] rfl (by kernel_rfl) (by kernel_rfl) (by kernel_rfl) (by kernel_rfl) (by kernel_rfl) (by kernel_rfl) (fun _ _ _ h => h) (yields_free (by rfl) (fun w => ?_)) ?_
  rotate_left
  · go_simp; try (with_reducible rfl)
  try simp only [Act.put, List.getElem_toArray, List.getElem_cons_succ, List.getElem_cons_zero, List.setIfInBounds_toArray, List.set_cons_zero, List.set_cons_succ]
  refine GoG.take (i := 7) (v := ?_) [] rfl (by kernel_rfl) (by kernel_rfl) (by kernel_rfl) (by kernel_rfl) (by kernel_rfl) (by kernel_rfl) (fun _ _ _ h => h) (yields_free (by rfl) (fun w => ?_)) ?_
  rotate_left
  · go_simp; try (with_reducible rfl)
  try simp only [Act.put, List.getElem_toArray, List.getElem_cons_succ, List.getElem_cons_zero, List.setIfInBounds_toArray, List.set_cons_zero, List.set_cons_succ]
  refine GoG.take (i := 8) (v := ?_) [] rfl (by kernel_rfl) (by kernel_rfl) (by kernel_rfl) (by kernel_rfl) (by kernel_rfl) (by kernel_rfl) (fun _ _ _ h => h) (yields_free (by rfl) (fun w => ?_)) ?_
  rotate_left
  · go_simp; try (with_reducible rfl)
  try simp only [Act.put, List.getElem_toArray, List.getElem_cons_succ, List.getElem_cons_zero, List.setIfInBounds_toArray, List.set_cons_zero, List.set_cons_succ]
  refine GoG.one (i := 1) rfl (by kernel_rfl) (fun K hK => ?_)
  go_simp
  refine HF1.out.mono ?_
  rintro e w3 ⟨v1, v2, xs, ys, rfl, ox, oy, ix, iy, lx, ly, f3⟩
  obtain ⟨xo, xc, hxo⟩ := ox.slice
  subst hxo
  obtain ⟨yo, yc, hyo⟩ := oy.slice
  subst hyo
  have B3x := Lib.hid (B2d.out.trans (f3.mono B2d.out.size))
  have F3 := Lib.hid f3
  have OX3 := Lib.hid ox
  have OY3 := Lib.hid oy
  have IX := Lib.hid ix
  have IY := Lib.hid iy
  have LXY := Lib.hid (And.intro lx ly)
  have K33 := Lib.hid ((K3.out.below (Below.refl _ _).drew).below f3)
  have K43 := Lib.hid ((K4.out.below (Below.refl _ _).drew).below f3)
  clear c0 c1 d0 d1
  obtain ⟨c0, c1⟩ := cell2 K33.out
  obtain ⟨d0, d1⟩ := cell2 K43.out
  refine hK.out _ _ (Keeps.cons (by first | exact c0 | assumption) (Keeps.cons (by first | exact c1 | assumption) (Keeps.cons (by first | exact d0 | assumption) (Keeps.cons (by first | exact d1 | assumption) Keeps.nil)))) ?_
  clear hK K ox oy ix iy lx ly f3
  try simp only [Act.put, List.getElem_toArray, List.getElem_cons_succ, List.getElem_cons_zero, List.setIfInBounds_toArray, List.set_cons_zero, List.set_cons_succ]
  have HF2c := Lib.hid (HF2.out w3 B3x.out)
  refine GoG.one (i := 3) rfl (by kernel_rfl) (fun K hK => ?_)
  go_simp
  refine HF2c.out.mono ?_
  rintro e w4 ⟨v1, v2, zs, qs, rfl, ox, oy, ix, iy, lx, ly, f4⟩
  obtain ⟨zo, zc, hzo⟩ := ox.slice
  subst hzo
  obtain ⟨qo, qc, hqo⟩ := oy.slice
  subst hqo
  have B4x := Lib.hid (B3x.out.trans (f4.mono B3x.out.size))
  have OX4 := Lib.hid (OX3.out.kept f4)
  have OY4 := Lib.hid (OY3.out.kept f4)
  have OZ4 := Lib.hid (ox.lower F3.out.size)
  have OQ4 := Lib.hid (oy.lower F3.out.size)
  have IZ := Lib.hid ix
  have IQ := Lib.hid iy
  have LZQ := Lib.hid (And.intro lx ly)
  have K34 := Lib.hid (K33.out.below f4)
  have K44 := Lib.hid (K43.out.below f4)
  clear c0 c1 d0 d1
  obtain ⟨c0, c1⟩ := cell2 K34.out
  obtain ⟨d0, d1⟩ := cell2 K44.out
  refine hK.out _ _ (Keeps.cons (by first | exact c0 | assumption) (Keeps.cons (by first | exact c1 | assumption) (Keeps.cons (by first | exact d0 | assumption) (Keeps.cons (by first | exact d1 | assumption) Keeps.nil)))) ?_
  clear hK K ox oy ix iy lx ly f4
  try simp only [Act.put, List.getElem_toArray, List.getElem_cons_succ, List.getElem_cons_zero, List.setIfInBounds_toArray, List.set_cons_zero, List.set_cons_succ]
  obtain ⟨w5, h5⟩ : ∃ w5, w4.setCell ⟨b3, 0, none⟩ (.slice xo xs.length xc) = w5 := ⟨_, rfl⟩
  obtain ⟨w6, h6⟩ : ∃ w6, w5.setCell ⟨b3, 1, none⟩ (.slice yo ys.length yc) = w6 := ⟨_, rfl⟩
  have K36 := Lib.hid (box2_set K34.out h5 h6)
  have K46 := Lib.hid (other_set (other_set K44.out NE34.out.symm h5) NE34.out.symm h6)
  have f0 := K34.out.free 0
  have t1 := (cell2 (box2_set0 K34.out h5)).2
  have f1 := (box2_set0 K34.out h5).free 1
  refine GoG.one (i := 9) rfl (by kernel_rfl) (fun K hK => ?_)
  go_simp
  clear c0 c1 d0 d1 f0 t1 f1
  obtain ⟨d0, d1⟩ := cell2 K46.out
  refine hK.out _ _ (Keeps.up (by rfl) (Keeps.up (by rfl) (Keeps.cons (by first | exact d0 | assumption) (Keeps.cons (by first | exact d1 | assumption) Keeps.nil)))) ?_
  clear hK K
  try simp only [Act.put, List.getElem_toArray, List.getElem_cons_succ, List.getElem_cons_zero, List.setIfInBounds_toArray, List.set_cons_zero, List.set_cons_succ]
  obtain ⟨w7, h7⟩ : ∃ w7, w6.setCell ⟨b4, 0, none⟩ (.slice zo zs.length zc) = w7 := ⟨_, rfl⟩
  obtain ⟨w8, h8⟩ : ∃ w8, w7.setCell ⟨b4, 1, none⟩ (.slice qo qs.length qc) = w8 := ⟨_, rfl⟩
  have K48 := Lib.hid (box2_set K46.out h7 h8)
  have K38 := Lib.hid (other_set (other_set K36.out NE34.out h7) NE34.out h8)
  have f0 := K46.out.free 0
  have t1 := (cell2 (box2_set0 K46.out h7)).2
  have f1 := (box2_set0 K46.out h7).free 1
  refine GoG.one (i := 10) rfl (by kernel_rfl) (fun K hK => ?_)
  go_simp
  clear d0 d1 f0 t1 f1
  refine hK.out _ _ (Keeps.up (by rfl) (Keeps.up (by rfl) (Keeps.up (by rfl) (Keeps.up (by rfl) Keeps.nil)))) ?_
  clear hK K
  try simp only [Act.put, List.getElem_toArray, List.getElem_cons_succ, List.getElem_cons_zero, List.setIfInBounds_toArray, List.set_cons_zero, List.set_cons_succ]
  refine GoG.take (i := 11) (v := ?_) [] rfl (by kernel_rfl) (by kernel_rfl) (by kernel_rfl) (by kernel_rfl) (by kernel_rfl) (by kernel_rfl) (fun _ _ _ h => h) (yields_free (by rfl) (fun w => ?_)) ?_
  rotate_left
  · go_simp; try (with_reducible rfl)
  try simp only [Act.put, List.getElem_toArray, List.getElem_cons_succ, List.getElem_cons_zero, List.setIfInBounds_toArray, List.set_cons_zero, List.set_cons_succ]
  refine GoG.done (by kernel_rfl) ?_ _
  have B8 := Lib.hid (set2_below (set2_below B4x.out SB.out.2.2.2.2.1 h5 h6) SB.out.2.2.2.2.2 h7 h8)
  have OX8 := Lib.hid (show OwnZ w8 w2.heap.size (.slice xo xs.length xc) xs by rw [← h8, ← h7, ← h6, ← h5]; exact own_set (own_set (own_set (own_set OX4.out (own_not OX4.out (.inl SB.out.2.1)) 0 _) (own_not OX4.out (.inl SB.out.2.1)) 1 _) (own_not OX4.out (.inl SB.out.2.2.1)) 0 _) (own_not OX4.out (.inl SB.out.2.2.1)) 1 _)
  have OY8 := Lib.hid (show OwnN w8 w2.heap.size (.slice yo ys.length yc) ys by rw [← h8, ← h7, ← h6, ← h5]; exact ownN_set (ownN_set (ownN_set (ownN_set OY4.out (ownN_not OY4.out (.inl SB.out.2.1)) 0 _) (ownN_not OY4.out (.inl SB.out.2.1)) 1 _) (ownN_not OY4.out (.inl SB.out.2.2.1)) 0 _) (ownN_not OY4.out (.inl SB.out.2.2.1)) 1 _)
  have OZ8 := Lib.hid (show OwnZ w8 w2.heap.size (.slice zo zs.length zc) zs by rw [← h8, ← h7, ← h6, ← h5]; exact own_set (own_set (own_set (own_set OZ4.out (own_not OZ4.out (.inl SB.out.2.1)) 0 _) (own_not OZ4.out (.inl SB.out.2.1)) 1 _) (own_not OZ4.out (.inl SB.out.2.2.1)) 0 _) (own_not OZ4.out (.inl SB.out.2.2.1)) 1 _)
  have OQ8 := Lib.hid (show OwnN w8 w2.heap.size (.slice qo qs.length qc) qs by rw [← h8, ← h7, ← h6, ← h5]; exact ownN_set (ownN_set (ownN_set (ownN_set OQ4.out (ownN_not OQ4.out (.inl SB.out.2.1)) 0 _) (ownN_not OQ4.out (.inl SB.out.2.1)) 1 _) (ownN_not OQ4.out (.inl SB.out.2.2.1)) 0 _) (ownN_not OQ4.out (.inl SB.out.2.2.1)) 1 _)
  have HX := Lib.hid (few_un (w := W) OX8.out OY8.out IX.out IY.out LXY.out.1 LXY.out.2 B8.out)
  have HY := Lib.hid (few_un (w := W) OZ8.out OQ8.out IZ.out IQ.out LZQ.out.1 LZQ.out.2 B8.out)
  have HE := Lib.hid (HVW.out.below B8.out)
  have e1 : (xs.map (·.t)).length = xs.length := List.length_map _
  have e2 : (ys.map (·.t)).length = ys.length := List.length_map _
  have e3 : (zs.map (·.t)).length = zs.length := List.length_map _
  have e4 : (qs.map (·.t)).length = qs.length := List.length_map _
  have U1 : (⟨xs.map (·.t), ys.map (·.t)⟩ : Un).types.length = xs.length := e1
  have U2 : (⟨xs.map (·.t), ys.map (·.t)⟩ : Un).named.length = ys.length := e2
  have V1 : (⟨zs.map (·.t), qs.map (·.t)⟩ : Un).types.length = zs.length := e3
  have V2 : (⟨zs.map (·.t), qs.map (·.t)⟩ : Un).named.length = qs.length := e4
  obtain ⟨U, hU⟩ : ∃ U, (⟨xs.map (·.t), ys.map (·.t)⟩ : Un) = U := ⟨_, rfl⟩
  obtain ⟨V, hV⟩ : ∃ V, (⟨zs.map (·.t), qs.map (·.t)⟩ : Un) = V := ⟨_, rfl⟩
  rw [hU] at HX U1 U2
  rw [hV] at HY V1 V2
  obtain ⟨L2, hL2⟩ : ∃ L, xs.length = L := ⟨_, rfl⟩
  obtain ⟨n2, hn2⟩ : ∃ n, ys.length = n := ⟨_, rfl⟩
  obtain ⟨M2, hM2⟩ : ∃ M, zs.length = M := ⟨_, rfl⟩
  obtain ⟨m2, hm2⟩ : ∃ m, qs.length = m := ⟨_, rfl⟩
  rw [hL2] at U1 K38 ⊢
  rw [hn2] at U2 K38 ⊢
  rw [hM2] at V1 K48 ⊢
  rw [hm2] at V2 K48 ⊢
  obtain ⟨t, ht⟩ : ∃ t, s.extract 0 q = t := ⟨_, rfl⟩
  have HFD0 := find_uany U xo yo xc yc t w8 HX.out HE.out HE.out.max
  have HRR0 := fun w (hb : Below w8.heap.size w8 w) => refright_uany U xo yo xc yc w (HX.out.below hb)
  have HUR0 := fun w (hb : Below w8.heap.size w8 w) => right_uany U xo yo xc yc w (HX.out.below hb) (HE.out.below hb) (HE.out.max.below hb)
  have HPL0 := fun w (hb : Below w8.heap.size w8 w) => plike_any U V xo yo zo qo xc yc zc qc w (HX.out.below hb) (HY.out.below hb)
  have HRL0 := fun w (hb : Below w8.heap.size w8 w) => reflike_uany U V xo yo zo qo xc yc zc qc w (HX.out.below hb) (HY.out.below hb)
  have HPS0 := fun w (hb : Below w8.heap.size w8 w) => plike_any U U xo yo xo yo xc yc xc yc w (HX.out.below hb) (HX.out.below hb)
  have HAT0 := fun w (hb : Below w8.heap.size w8 w) => refat_any U xo yo xc yc t w (HX.out.below hb)
  have HAL := Lib.hid (fun w (hb : Below w8.heap.size w8 w) => aliveU_any w (HE.out.below hb))
  unfold unV at HFD0 HRR0 HUR0 HPL0 HRL0 HPS0 HAT0
  rw [U1, U2] at HFD0 HRR0 HUR0 HPL0 HRL0 HPS0 HAT0
  rw [V1, V2] at HPL0 HRL0
  rw [decide_eq_true (show U = U from rfl)] at HPS0
  obtain ⟨F, hF⟩ : ∃ F, findU U t = F := ⟨_, rfl⟩
  obtain ⟨D, hD⟩ : ∃ D, decide (U = V) = D := ⟨_, rfl⟩
  obtain ⟨R, hR⟩ : ∃ R, rightU U = R := ⟨_, rfl⟩
  obtain ⟨A, hA⟩ : ∃ A, atU U.named t = A := ⟨_, rfl⟩
  have HFE := Lib.hid (show F = if R = false then (0, 1) else if A < 0 then (0, 8) else (A, 0) by rw [← hF, ← hR, ← hA]; rfl)
  rw [hF] at HFD0
  rw [hD] at HPL0 HRL0
  rw [hR] at HRR0 HUR0
  rw [hA] at HAT0
  have HFD := Lib.hid HFD0
  have HRR := Lib.hid HRR0
  have HUR := Lib.hid HUR0
  have HPL := Lib.hid HPL0
  have HRL := Lib.hid HRL0
  have HPS := Lib.hid HPS0
  have HAT := Lib.hid HAT0
  obtain ⟨c0, c1⟩ := cell2 K38.out
  obtain ⟨d0, d1⟩ := cell2 K48.out
  clear HFD0 HRR0 HUR0 HPL0 HRL0 HPS0 HAT0 h5 h6 h7 h8 hF hD hR hA e1 e2 e3 e4 hU hV hL2 hn2 hM2 hm2 U1 U2 V1 V2 G0 p1 p2 hs
  rw [ht]
  clear ht
  go_wp2_with fail
  refine HFD.out.mono ?_
  rintro e w9 ⟨rfl, b9⟩
  have B9 := Lib.hid b9
  have K39 := Lib.hid (K38.out.below b9)
  have K49 := Lib.hid (K48.out.below b9)
  clear b9 c0 c1 d0 d1
  obtain ⟨c0, c1⟩ := cell2 K39.out
  go_wp2_with fail
  refine (HRR.out _ B9.out).mono ?_
  rintro e w10 ⟨rfl, b10⟩
  have B10 := Lib.hid (B9.out.trans (b10.mono B9.out.size))
  have K3x := Lib.hid (K39.out.below b10)
  have K4x := Lib.hid (K49.out.below b10)
  clear b10 c0 c1
  obtain ⟨c0, c1⟩ := cell2 K3x.out
  obtain ⟨d0, d1⟩ := cell2 K4x.out
  have BALL := Lib.hid B8
  cases R <;> cases D
  · go_upto_region 4 with fail
    have Bv0 := Lib.hid B10.out.drew
    refine GoG.start [(23, ⟨b3, 0, none⟩, .slice xo L2 xc), (23, ⟨b3, 1, none⟩, .slice yo n2 yc), (23, ⟨b4, 0, none⟩, .slice zo M2 zc), (23, ⟨b4, 1, none⟩, .slice qo m2 qc)] (by kernel_rfl) ?_ ?_
    · exact Keeps.cons (by first | exact c0 | assumption) (Keeps.cons (by first | exact c1 | assumption) (Keeps.cons (by first | exact d0 | assumption) (Keeps.cons (by first | exact d1 | assumption) (Keeps.nil))))
    refine GoG.take (i := 0) (v := ?_) [23] rfl (by kernel_rfl) (by kernel_rfl) (by kernel_rfl) (by kernel_rfl) (by kernel_rfl) (by kernel_rfl) (fun _ _ _ h => h) (.inl ⟨by rfl, fun WW hS => ?_⟩) ?_
    rotate_left
    · have g0 : WW.cell? ⟨b3, 0, none⟩ = some (.slice xo L2 xc) := hS (23, ⟨b3, 0, none⟩, .slice xo L2 xc) (by simp) (by simp)
      have g1 : WW.cell? ⟨b3, 1, none⟩ = some (.slice yo n2 yc) := hS (23, ⟨b3, 1, none⟩, .slice yo n2 yc) (by simp) (by simp)
      clear hS
      go_simp; try (with_reducible rfl)
    try simp only [Act.put, List.getElem_toArray, List.getElem_cons_succ, List.getElem_cons_zero, List.setIfInBounds_toArray, List.set_cons_zero, List.set_cons_succ]
    refine GoG.take (i := 2) (v := ?_) [] rfl (by kernel_rfl) (by kernel_rfl) (by kernel_rfl) (by kernel_rfl) (by kernel_rfl) (by kernel_rfl) (fun _ _ _ h => h) (yields_free (by rfl) (fun w => ?_)) ?_
    rotate_left
    · go_simp; try (with_reducible rfl)
    try simp only [Act.put, List.getElem_toArray, List.getElem_cons_succ, List.getElem_cons_zero, List.setIfInBounds_toArray, List.set_cons_zero, List.set_cons_succ]
    refine GoG.one (i := 1) rfl (by kernel_rfl) (fun K hK => ?_)
    go_simp
    refine (HUR.out _ Bv0.out).mono ?_
    rintro e v1 ⟨rfl, bq⟩
    have Bv1 := Lib.hid (Bv0.out.trans (bq.mono Bv0.out.size))
    have c0n := (bq.cell (p := ⟨b3, 0, none⟩) (cell_ltB c0)).trans c0
    have c1n := (bq.cell (p := ⟨b3, 1, none⟩) (cell_ltB c1)).trans c1
    have d0n := (bq.cell (p := ⟨b4, 0, none⟩) (cell_ltB d0)).trans d0
    have d1n := (bq.cell (p := ⟨b4, 1, none⟩) (cell_ltB d1)).trans d1
    clear c0 c1 d0 d1
    have c0 := c0n
    have c1 := c1n
    have d0 := d0n
    have d1 := d1n
    clear c0n c1n d0n d1n bq
    refine hK.out _ _ (Keeps.cons (by first | exact c0 | assumption) (Keeps.cons (by first | exact c1 | assumption) (Keeps.cons (by first | exact d0 | assumption) (Keeps.cons (by first | exact d1 | assumption) Keeps.nil)))) ?_
    clear hK K
    try simp only [Act.put, List.getElem_toArray, List.getElem_cons_succ, List.getElem_cons_zero, List.setIfInBounds_toArray, List.set_cons_zero, List.set_cons_succ]
    refine GoG.take (i := 3) (v := ?_) [] rfl (by kernel_rfl) (by kernel_rfl) (by kernel_rfl) (by kernel_rfl) (by kernel_rfl) (by kernel_rfl) (fun _ _ _ h => h) (yields_free (by rfl) (fun w => ?_)) ?_
    rotate_left
    · go_simp; try (with_reducible rfl)
    try simp only [Act.put, List.getElem_toArray, List.getElem_cons_succ, List.getElem_cons_zero, List.setIfInBounds_toArray, List.set_cons_zero, List.set_cons_succ]
    refine GoG.take (i := 4) (v := ?_) [] rfl (by kernel_rfl) (by kernel_rfl) (by kernel_rfl) (by kernel_rfl) (by kernel_rfl) (by kernel_rfl) (fun _ _ _ h => h) (yields_free (by rfl) (fun w => ?_)) ?_
    rotate_left
    · go_simp; try (with_reducible rfl)
    try simp only [Act.put, List.getElem_toArray, List.getElem_cons_succ, List.getElem_cons_zero, List.setIfInBounds_toArray, List.set_cons_zero, List.set_cons_succ]
    refine GoG.take (i := 5) (v := ?_) [23] rfl (by kernel_rfl) (by kernel_rfl) (by kernel_rfl) (by kernel_rfl) (by kernel_rfl) (by kernel_rfl) (fun _ _ _ h => h) (.inl ⟨by rfl, fun WW hS => ?_⟩) ?_
    rotate_left
    · have g0 : WW.cell? ⟨b3, 0, none⟩ = some (.slice xo L2 xc) := hS (23, ⟨b3, 0, none⟩, .slice xo L2 xc) (by simp) (by simp)
      have g1 : WW.cell? ⟨b3, 1, none⟩ = some (.slice yo n2 yc) := hS (23, ⟨b3, 1, none⟩, .slice yo n2 yc) (by simp) (by simp)
      clear hS
      go_simp; try (with_reducible rfl)
    try simp only [Act.put, List.getElem_toArray, List.getElem_cons_succ, List.getElem_cons_zero, List.setIfInBounds_toArray, List.set_cons_zero, List.set_cons_succ]
    refine GoG.take (i := 6) (v := ?_) [23] rfl (by kernel_rfl) (by kernel_rfl) (by kernel_rfl) (by kernel_rfl) (by kernel_rfl) (by kernel_rfl) (fun _ _ _ h => h) (.inl ⟨by rfl, fun WW hS => ?_⟩) ?_
    rotate_left
    · have g0 : WW.cell? ⟨b4, 0, none⟩ = some (.slice zo M2 zc) := hS (23, ⟨b4, 0, none⟩, .slice zo M2 zc) (by simp) (by simp)
      have g1 : WW.cell? ⟨b4, 1, none⟩ = some (.slice qo m2 qc) := hS (23, ⟨b4, 1, none⟩, .slice qo m2 qc) (by simp) (by simp)
      clear hS
      go_simp; try (with_reducible rfl)
    try simp only [Act.put, List.getElem_toArray, List.getElem_cons_succ, List.getElem_cons_zero, List.setIfInBounds_toArray, List.set_cons_zero, List.set_cons_succ]
    refine GoG.take (i := 8) (v := ?_) [23] rfl (by kernel_rfl) (by kernel_rfl) (by kernel_rfl) (by kernel_rfl) (by kernel_rfl) (by kernel_rfl) (fun _ _ _ h => h) (.inl ⟨by rfl, fun WW hS => ?_⟩) ?_
    rotate_left
    · have g0 : WW.cell? ⟨b3, 0, none⟩ = some (.slice xo L2 xc) := hS (23, ⟨b3, 0, none⟩, .slice xo L2 xc) (by simp) (by simp)
      have g1 : WW.cell? ⟨b3, 1, none⟩ = some (.slice yo n2 yc) := hS (23, ⟨b3, 1, none⟩, .slice yo n2 yc) (by simp) (by simp)
      clear hS
      go_simp; try (with_reducible rfl)
    try simp only [Act.put, List.getElem_toArray, List.getElem_cons_succ, List.getElem_cons_zero, List.setIfInBounds_toArray, List.set_cons_zero, List.set_cons_succ]
    refine GoG.take (i := 9) (v := ?_) [23] rfl (by kernel_rfl) (by kernel_rfl) (by kernel_rfl) (by kernel_rfl) (by kernel_rfl) (by kernel_rfl) (fun _ _ _ h => h) (.inl ⟨by rfl, fun WW hS => ?_⟩) ?_
    rotate_left
    · have g0 : WW.cell? ⟨b4, 0, none⟩ = some (.slice zo M2 zc) := hS (23, ⟨b4, 0, none⟩, .slice zo M2 zc) (by simp) (by simp)
      have g1 : WW.cell? ⟨b4, 1, none⟩ = some (.slice qo m2 qc) := hS (23, ⟨b4, 1, none⟩, .slice qo m2 qc) (by simp) (by simp)
      clear hS
      go_simp; try (with_reducible rfl)
    try simp only [Act.put, List.getElem_toArray, List.getElem_cons_succ, List.getElem_cons_zero, List.setIfInBounds_toArray, List.set_cons_zero, List.set_cons_succ]
    refine GoG.one (i := 7) rfl (by kernel_rfl) (fun K hK => ?_)
    go_simp
    refine (HPL.out _ Bv1.out).mono ?_
    rintro e v2 ⟨rfl, bq⟩
    have Bv2 := Lib.hid (Bv1.out.trans (bq.mono Bv1.out.size))
    have c0n := (bq.cell (p := ⟨b3, 0, none⟩) (cell_ltB c0)).trans c0
    have c1n := (bq.cell (p := ⟨b3, 1, none⟩) (cell_ltB c1)).trans c1
    have d0n := (bq.cell (p := ⟨b4, 0, none⟩) (cell_ltB d0)).trans d0
    have d1n := (bq.cell (p := ⟨b4, 1, none⟩) (cell_ltB d1)).trans d1
    clear c0 c1 d0 d1
    have c0 := c0n
    have c1 := c1n
    have d0 := d0n
    have d1 := d1n
    clear c0n c1n d0n d1n bq
    refine hK.out _ _ (Keeps.cons (by first | exact c0 | assumption) (Keeps.cons (by first | exact c1 | assumption) (Keeps.cons (by first | exact d0 | assumption) (Keeps.cons (by first | exact d1 | assumption) Keeps.nil)))) ?_
    clear hK K
    try simp only [Act.put, List.getElem_toArray, List.getElem_cons_succ, List.getElem_cons_zero, List.setIfInBounds_toArray, List.set_cons_zero, List.set_cons_succ]
    refine GoG.one (i := 10) rfl (by kernel_rfl) (fun K hK => ?_)
    go_simp
    refine (HRL.out _ Bv2.out).mono ?_
    rintro e v3 ⟨rfl, bq⟩
    have Bv3 := Lib.hid (Bv2.out.trans (bq.mono Bv2.out.size))
    have c0n := (bq.cell (p := ⟨b3, 0, none⟩) (cell_ltB c0)).trans c0
    have c1n := (bq.cell (p := ⟨b3, 1, none⟩) (cell_ltB c1)).trans c1
    have d0n := (bq.cell (p := ⟨b4, 0, none⟩) (cell_ltB d0)).trans d0
    have d1n := (bq.cell (p := ⟨b4, 1, none⟩) (cell_ltB d1)).trans d1
    clear c0 c1 d0 d1
    have c0 := c0n
    have c1 := c1n
    have d0 := d0n
    have d1 := d1n
    clear c0n c1n d0n d1n bq
    refine hK.out _ _ (Keeps.cons (by first | exact c0 | assumption) (Keeps.cons (by first | exact c1 | assumption) (Keeps.cons (by first | exact d0 | assumption) (Keeps.cons (by first | exact d1 | assumption) Keeps.nil)))) ?_
    clear hK K
    try simp only [Act.put, List.getElem_toArray, List.getElem_cons_succ, List.getElem_cons_zero, List.setIfInBounds_toArray, List.set_cons_zero, List.set_cons_succ]
    refine GoG.take (i := 11) (v := ?_) [] rfl (by kernel_rfl) (by kernel_rfl) (by kernel_rfl) (by kernel_rfl) (by kernel_rfl) (by kernel_rfl) (fun _ _ _ h => h) (yields_free (by rfl) (fun w => ?_)) ?_
    rotate_left
    · go_simp; try (with_reducible rfl)
    try simp only [Act.put, List.getElem_toArray, List.getElem_cons_succ, List.getElem_cons_zero, List.setIfInBounds_toArray, List.set_cons_zero, List.set_cons_succ]
    refine GoG.take (i := 12) (v := ?_) [] rfl (by kernel_rfl) (by kernel_rfl) (by kernel_rfl) (by kernel_rfl) (by kernel_rfl) (by kernel_rfl) (fun _ _ _ h => h) (yields_free (by rfl) (fun w => ?_)) ?_
    rotate_left
    · go_simp; try (with_reducible rfl)
    try simp only [Act.put, List.getElem_toArray, List.getElem_cons_succ, List.getElem_cons_zero, List.setIfInBounds_toArray, List.set_cons_zero, List.set_cons_succ]
    refine GoG.take (i := 13) (v := ?_) [] rfl (by kernel_rfl) (by kernel_rfl) (by kernel_rfl) (by kernel_rfl) (by kernel_rfl) (by kernel_rfl) (fun _ _ _ h => h) (yields_free (by rfl) (fun w => ?_)) ?_
    rotate_left
    · go_simp; try (with_reducible rfl)
    try simp only [Act.put, List.getElem_toArray, List.getElem_cons_succ, List.getElem_cons_zero, List.setIfInBounds_toArray, List.set_cons_zero, List.set_cons_succ]
    refine GoG.take (i := 14) (v := ?_) [23] rfl (by kernel_rfl) (by kernel_rfl) (by kernel_rfl) (by kernel_rfl) (by kernel_rfl) (by kernel_rfl) (fun _ _ _ h => h) (.inl ⟨by rfl, fun WW hS => ?_⟩) ?_
    rotate_left
    · have g0 : WW.cell? ⟨b3, 0, none⟩ = some (.slice xo L2 xc) := hS (23, ⟨b3, 0, none⟩, .slice xo L2 xc) (by simp) (by simp)
      have g1 : WW.cell? ⟨b3, 1, none⟩ = some (.slice yo n2 yc) := hS (23, ⟨b3, 1, none⟩, .slice yo n2 yc) (by simp) (by simp)
      clear hS
      go_simp; try (with_reducible rfl)
    try simp only [Act.put, List.getElem_toArray, List.getElem_cons_succ, List.getElem_cons_zero, List.setIfInBounds_toArray, List.set_cons_zero, List.set_cons_succ]
    refine GoG.take (i := 15) (v := ?_) [23] rfl (by kernel_rfl) (by kernel_rfl) (by kernel_rfl) (by kernel_rfl) (by kernel_rfl) (by kernel_rfl) (fun _ _ _ h => h) (.inl ⟨by rfl, fun WW hS => ?_⟩) ?_
    rotate_left
    · have g0 : WW.cell? ⟨b3, 0, none⟩ = some (.slice xo L2 xc) := hS (23, ⟨b3, 0, none⟩, .slice xo L2 xc) (by simp) (by simp)
      have g1 : WW.cell? ⟨b3, 1, none⟩ = some (.slice yo n2 yc) := hS (23, ⟨b3, 1, none⟩, .slice yo n2 yc) (by simp) (by simp)
      clear hS
      go_simp; try (with_reducible rfl)
    try simp only [Act.put, List.getElem_toArray, List.getElem_cons_succ, List.getElem_cons_zero, List.setIfInBounds_toArray, List.set_cons_zero, List.set_cons_succ]
    refine GoG.one (i := 16) rfl (by kernel_rfl) (fun K hK => ?_)
    go_simp
    refine (HPS.out _ Bv3.out).mono ?_
    rintro e v4 ⟨rfl, bq⟩
    have Bv4 := Lib.hid (Bv3.out.trans (bq.mono Bv3.out.size))
    have c0n := (bq.cell (p := ⟨b3, 0, none⟩) (cell_ltB c0)).trans c0
    have c1n := (bq.cell (p := ⟨b3, 1, none⟩) (cell_ltB c1)).trans c1
    have d0n := (bq.cell (p := ⟨b4, 0, none⟩) (cell_ltB d0)).trans d0
    have d1n := (bq.cell (p := ⟨b4, 1, none⟩) (cell_ltB d1)).trans d1
    clear c0 c1 d0 d1
    have c0 := c0n
    have c1 := c1n
    have d0 := d0n
    have d1 := d1n
    clear c0n c1n d0n d1n bq
    refine hK.out _ _ (Keeps.cons (by first | exact c0 | assumption) (Keeps.cons (by first | exact c1 | assumption) (Keeps.cons (by first | exact d0 | assumption) (Keeps.cons (by first | exact d1 | assumption) Keeps.nil)))) ?_
    clear hK K
    try simp only [Act.put, List.getElem_toArray, List.getElem_cons_succ, List.getElem_cons_zero, List.setIfInBounds_toArray, List.set_cons_zero, List.set_cons_succ]
    refine GoG.take (i := 17) (v := ?_) [] rfl (by kernel_rfl) (by kernel_rfl) (by kernel_rfl) (by kernel_rfl) (by kernel_rfl) (by kernel_rfl) (fun _ _ _ h => h) (yields_free (by rfl) (fun w => ?_)) ?_
    rotate_left
    · go_simp; try (with_reducible rfl)
    try simp only [Act.put, List.getElem_toArray, List.getElem_cons_succ, List.getElem_cons_zero, List.setIfInBounds_toArray, List.set_cons_zero, List.set_cons_succ]
    refine GoG.take (i := 18) (v := ?_) [] rfl (by kernel_rfl) (by kernel_rfl) (by kernel_rfl) (by kernel_rfl) (by kernel_rfl) (by kernel_rfl) (fun _ _ _ h => h) (yields_free (by rfl) (fun w => ?_)) ?_
    rotate_left
    · go_simp; try (with_reducible rfl)
    try simp only [Act.put, List.getElem_toArray, List.getElem_cons_succ, List.getElem_cons_zero, List.setIfInBounds_toArray, List.set_cons_zero, List.set_cons_succ]
    refine GoG.take (i := 19) (v := ?_) [] rfl (by kernel_rfl) (by kernel_rfl) (by kernel_rfl) (by kernel_rfl) (by kernel_rfl) (by kernel_rfl) (fun _ _ _ h => h) (yields_free (by rfl) (fun w => ?_)) ?_
    rotate_left
    · go_simp; try (with_reducible rfl)
    try simp only [Act.put, List.getElem_toArray, List.getElem_cons_succ, List.getElem_cons_zero, List.setIfInBounds_toArray, List.set_cons_zero, List.set_cons_succ]
    refine GoG.one (i := 20) rfl (by kernel_rfl) (fun K hK => ?_)
    go_simp
    refine (HAL.out _ Bv4.out).mono ?_
    rintro e v5 ⟨rfl, bq⟩
    have Bv5 := Lib.hid (Bv4.out.trans (bq.mono Bv4.out.size))
    have c0n := (bq.cell (p := ⟨b3, 0, none⟩) (cell_ltB c0)).trans c0
    have c1n := (bq.cell (p := ⟨b3, 1, none⟩) (cell_ltB c1)).trans c1
    have d0n := (bq.cell (p := ⟨b4, 0, none⟩) (cell_ltB d0)).trans d0
    have d1n := (bq.cell (p := ⟨b4, 1, none⟩) (cell_ltB d1)).trans d1
    clear c0 c1 d0 d1
    have c0 := c0n
    have c1 := c1n
    have d0 := d0n
    have d1 := d1n
    clear c0n c1n d0n d1n bq
    refine hK.out _ _ (Keeps.cons (by first | exact c0 | assumption) (Keeps.cons (by first | exact c1 | assumption) (Keeps.cons (by first | exact d0 | assumption) (Keeps.cons (by first | exact d1 | assumption) Keeps.nil)))) ?_
    clear hK K
    try simp only [Act.put, List.getElem_toArray, List.getElem_cons_succ, List.getElem_cons_zero, List.setIfInBounds_toArray, List.set_cons_zero, List.set_cons_succ]
    refine GoG.take (i := 21) (v := ?_) [] rfl (by kernel_rfl) (by kernel_rfl) (by kernel_rfl) (by kernel_rfl) (by kernel_rfl) (by kernel_rfl) (fun _ _ _ h => h) (yields_free (by rfl) (fun w => ?_)) ?_
    rotate_left
    · go_simp; try (with_reducible rfl)
    try simp only [Act.put, List.getElem_toArray, List.getElem_cons_succ, List.getElem_cons_zero, List.setIfInBounds_toArray, List.set_cons_zero, List.set_cons_succ]
    refine GoG.take (i := 22) (v := ?_) [] rfl (by kernel_rfl) (by kernel_rfl) (by kernel_rfl) (by kernel_rfl) (by kernel_rfl) (by kernel_rfl) (fun _ _ _ h => h) (yields_free (by rfl) (fun w => ?_)) ?_
    rotate_left
    · go_simp; try (with_reducible rfl)
    try simp only [Act.put, List.getElem_toArray, List.getElem_cons_succ, List.getElem_cons_zero, List.setIfInBounds_toArray, List.set_cons_zero, List.set_cons_succ]
    refine GoG.done (by kernel_rfl) ?_ _
    obtain rfl : F = (0, 1) := by rw [HFE.out]; rfl
    clear c0 c1 d0 d1
    go_wp2_with fail
    go_ret
    exact ⟨by first | rfl | (simp; done), B8.out.trans (Bv5.out.mono B8.out.size)⟩
  · go_upto_region 4 with fail
    have Bv0 := Lib.hid B10.out.drew
    refine GoG.start [(23, ⟨b3, 0, none⟩, .slice xo L2 xc), (23, ⟨b3, 1, none⟩, .slice yo n2 yc), (23, ⟨b4, 0, none⟩, .slice zo M2 zc), (23, ⟨b4, 1, none⟩, .slice qo m2 qc)] (by kernel_rfl) ?_ ?_
    · exact Keeps.cons (by first | exact c0 | assumption) (Keeps.cons (by first | exact c1 | assumption) (Keeps.cons (by first | exact d0 | assumption) (Keeps.cons (by first | exact d1 | assumption) (Keeps.nil))))
    refine GoG.take (i := 0) (v := ?_) [23] rfl (by kernel_rfl) (by kernel_rfl) (by kernel_rfl) (by kernel_rfl) (by kernel_rfl) (by kernel_rfl) (fun _ _ _ h => h) (.inl ⟨by rfl, fun WW hS => ?_⟩) ?_
    rotate_left
    · have g0 : WW.cell? ⟨b3, 0, none⟩ = some (.slice xo L2 xc) := hS (23, ⟨b3, 0, none⟩, .slice xo L2 xc) (by simp) (by simp)
      have g1 : WW.cell? ⟨b3, 1, none⟩ = some (.slice yo n2 yc) := hS (23, ⟨b3, 1, none⟩, .slice yo n2 yc) (by simp) (by simp)
      clear hS
      go_simp; try (with_reducible rfl)
    try simp only [Act.put, List.getElem_toArray, List.getElem_cons_succ, List.getElem_cons_zero, List.setIfInBounds_toArray, List.set_cons_zero, List.set_cons_succ]
    refine GoG.take (i := 2) (v := ?_) [] rfl (by kernel_rfl) (by kernel_rfl) (by kernel_rfl) (by kernel_rfl) (by kernel_rfl) (by kernel_rfl) (fun _ _ _ h => h) (yields_free (by rfl) (fun w => ?_)) ?_
    rotate_left
    · go_simp; try (with_reducible rfl)
    try simp only [Act.put, List.getElem_toArray, List.getElem_cons_succ, List.getElem_cons_zero, List.setIfInBounds_toArray, List.set_cons_zero, List.set_cons_succ]
    refine GoG.one (i := 1) rfl (by kernel_rfl) (fun K hK => ?_)
    go_simp
    refine (HUR.out _ Bv0.out).mono ?_
    rintro e v1 ⟨rfl, bq⟩
    have Bv1 := Lib.hid (Bv0.out.trans (bq.mono Bv0.out.size))
    have c0n := (bq.cell (p := ⟨b3, 0, none⟩) (cell_ltB c0)).trans c0
    have c1n := (bq.cell (p := ⟨b3, 1, none⟩) (cell_ltB c1)).trans c1
    have d0n := (bq.cell (p := ⟨b4, 0, none⟩) (cell_ltB d0)).trans d0
    have d1n := (bq.cell (p := ⟨b4, 1, none⟩) (cell_ltB d1)).trans d1
    clear c0 c1 d0 d1
    have c0 := c0n
    have c1 := c1n
    have d0 := d0n
    have d1 := d1n
    clear c0n c1n d0n d1n bq
    refine hK.out _ _ (Keeps.cons (by first | exact c0 | assumption) (Keeps.cons (by first | exact c1 | assumption) (Keeps.cons (by first | exact d0 | assumption) (Keeps.cons (by first | exact d1 | assumption) Keeps.nil)))) ?_
    clear hK K
    try simp only [Act.put, List.getElem_toArray, List.getElem_cons_succ, List.getElem_cons_zero, List.setIfInBounds_toArray, List.set_cons_zero, List.set_cons_succ]
    refine GoG.take (i := 3) (v := ?_) [] rfl (by kernel_rfl) (by kernel_rfl) (by kernel_rfl) (by kernel_rfl) (by kernel_rfl) (by kernel_rfl) (fun _ _ _ h => h) (yields_free (by rfl) (fun w => ?_)) ?_
    rotate_left
    · go_simp; try (with_reducible rfl)
    try simp only [Act.put, List.getElem_toArray, List.getElem_cons_succ, List.getElem_cons_zero, List.setIfInBounds_toArray, List.set_cons_zero, List.set_cons_succ]
    refine GoG.take (i := 4) (v := ?_) [] rfl (by kernel_rfl) (by kernel_rfl) (by kernel_rfl) (by kernel_rfl) (by kernel_rfl) (by kernel_rfl) (fun _ _ _ h => h) (yields_free (by rfl) (fun w => ?_)) ?_
    rotate_left
    · go_simp; try (with_reducible rfl)
    try simp only [Act.put, List.getElem_toArray, List.getElem_cons_succ, List.getElem_cons_zero, List.setIfInBounds_toArray, List.set_cons_zero, List.set_cons_succ]
    refine GoG.take (i := 5) (v := ?_) [23] rfl (by kernel_rfl) (by kernel_rfl) (by kernel_rfl) (by kernel_rfl) (by kernel_rfl) (by kernel_rfl) (fun _ _ _ h => h) (.inl ⟨by rfl, fun WW hS => ?_⟩) ?_
    rotate_left
    · have g0 : WW.cell? ⟨b3, 0, none⟩ = some (.slice xo L2 xc) := hS (23, ⟨b3, 0, none⟩, .slice xo L2 xc) (by simp) (by simp)
      have g1 : WW.cell? ⟨b3, 1, none⟩ = some (.slice yo n2 yc) := hS (23, ⟨b3, 1, none⟩, .slice yo n2 yc) (by simp) (by simp)
      clear hS
      go_simp; try (with_reducible rfl)
    try simp only [Act.put, List.getElem_toArray, List.getElem_cons_succ, List.getElem_cons_zero, List.setIfInBounds_toArray, List.set_cons_zero, List.set_cons_succ]
    refine GoG.take (i := 6) (v := ?_) [23] rfl (by kernel_rfl) (by kernel_rfl) (by kernel_rfl) (by kernel_rfl) (by kernel_rfl) (by kernel_rfl) (fun _ _ _ h => h) (.inl ⟨by rfl, fun WW hS => ?_⟩) ?_
    rotate_left
    · have g0 : WW.cell? ⟨b4, 0, none⟩ = some (.slice zo M2 zc) := hS (23, ⟨b4, 0, none⟩, .slice zo M2 zc) (by simp) (by simp)
      have g1 : WW.cell? ⟨b4, 1, none⟩ = some (.slice qo m2 qc) := hS (23, ⟨b4, 1, none⟩, .slice qo m2 qc) (by simp) (by simp)
      clear hS
      go_simp; try (with_reducible rfl)
    try simp only [Act.put, List.getElem_toArray, List.getElem_cons_succ, List.getElem_cons_zero, List.setIfInBounds_toArray, List.set_cons_zero, List.set_cons_succ]
    refine GoG.take (i := 8) (v := ?_) [23] rfl (by kernel_rfl) (by kernel_rfl) (by kernel_rfl) (by kernel_rfl) (by kernel_rfl) (by kernel_rfl) (fun _ _ _ h => h) (.inl ⟨by rfl, fun WW hS => ?_⟩) ?_
    rotate_left
    · have g0 : WW.cell? ⟨b3, 0, none⟩ = some (.slice xo L2 xc) := hS (23, ⟨b3, 0, none⟩, .slice xo L2 xc) (by simp) (by simp)
      have g1 : WW.cell? ⟨b3, 1, none⟩ = some (.slice yo n2 yc) := hS (23, ⟨b3, 1, none⟩, .slice yo n2 yc) (by simp) (by simp)
      clear hS
      go_simp; try (with_reducible rfl)
    try simp only [Act.put, List.getElem_toArray, List.getElem_cons_succ, List.getElem_cons_zero, List.setIfInBounds_toArray, List.set_cons_zero, List.set_cons_succ]
    refine GoG.take (i := 9) (v := ?_) [23] rfl (by kernel_rfl) (by kernel_rfl) (by kernel_rfl) (by kernel_rfl) (by kernel_rfl) (by kernel_rfl) (fun _ _ _ h => h) (.inl ⟨by rfl, fun WW hS => ?_⟩) ?_
    rotate_left
    · have g0 : WW.cell? ⟨b4, 0, none⟩ = some (.slice zo M2 zc) := hS (23, ⟨b4, 0, none⟩, .slice zo M2 zc) (by simp) (by simp)
      have g1 : WW.cell? ⟨b4, 1, none⟩ = some (.slice qo m2 qc) := hS (23, ⟨b4, 1, none⟩, .slice qo m2 qc) (by simp) (by simp)
      clear hS
      go_simp; try (with_reducible rfl)
    try simp only [Act.put, List.getElem_toArray, List.getElem_cons_succ, List.getElem_cons_zero, List.setIfInBounds_toArray, List.set_cons_zero, List.set_cons_succ]
    refine GoG.one (i := 7) rfl (by kernel_rfl) (fun K hK => ?_)
    go_simp
    refine (HPL.out _ Bv1.out).mono ?_
    rintro e v2 ⟨rfl, bq⟩
    have Bv2 := Lib.hid (Bv1.out.trans (bq.mono Bv1.out.size))
    have c0n := (bq.cell (p := ⟨b3, 0, none⟩) (cell_ltB c0)).trans c0
    have c1n := (bq.cell (p := ⟨b3, 1, none⟩) (cell_ltB c1)).trans c1
    have d0n := (bq.cell (p := ⟨b4, 0, none⟩) (cell_ltB d0)).trans d0
    have d1n := (bq.cell (p := ⟨b4, 1, none⟩) (cell_ltB d1)).trans d1
    clear c0 c1 d0 d1
    have c0 := c0n
    have c1 := c1n
    have d0 := d0n
    have d1 := d1n
    clear c0n c1n d0n d1n bq
    refine hK.out _ _ (Keeps.cons (by first | exact c0 | assumption) (Keeps.cons (by first | exact c1 | assumption) (Keeps.cons (by first | exact d0 | assumption) (Keeps.cons (by first | exact d1 | assumption) Keeps.nil)))) ?_
    clear hK K
    try simp only [Act.put, List.getElem_toArray, List.getElem_cons_succ, List.getElem_cons_zero, List.setIfInBounds_toArray, List.set_cons_zero, List.set_cons_succ]
    refine GoG.one (i := 10) rfl (by kernel_rfl) (fun K hK => ?_)
    go_simp
    refine (HRL.out _ Bv2.out).mono ?_
    rintro e v3 ⟨rfl, bq⟩
    have Bv3 := Lib.hid (Bv2.out.trans (bq.mono Bv2.out.size))
    have c0n := (bq.cell (p := ⟨b3, 0, none⟩) (cell_ltB c0)).trans c0
    have c1n := (bq.cell (p := ⟨b3, 1, none⟩) (cell_ltB c1)).trans c1
    have d0n := (bq.cell (p := ⟨b4, 0, none⟩) (cell_ltB d0)).trans d0
    have d1n := (bq.cell (p := ⟨b4, 1, none⟩) (cell_ltB d1)).trans d1
    clear c0 c1 d0 d1
    have c0 := c0n
    have c1 := c1n
    have d0 := d0n
    have d1 := d1n
    clear c0n c1n d0n d1n bq
    refine hK.out _ _ (Keeps.cons (by first | exact c0 | assumption) (Keeps.cons (by first | exact c1 | assumption) (Keeps.cons (by first | exact d0 | assumption) (Keeps.cons (by first | exact d1 | assumption) Keeps.nil)))) ?_
    clear hK K
    try simp only [Act.put, List.getElem_toArray, List.getElem_cons_succ, List.getElem_cons_zero, List.setIfInBounds_toArray, List.set_cons_zero, List.set_cons_succ]
    refine GoG.take (i := 11) (v := ?_) [] rfl (by kernel_rfl) (by kernel_rfl) (by kernel_rfl) (by kernel_rfl) (by kernel_rfl) (by kernel_rfl) (fun _ _ _ h => h) (yields_free (by rfl) (fun w => ?_)) ?_
    rotate_left
    · go_simp; try (with_reducible rfl)
    try simp only [Act.put, List.getElem_toArray, List.getElem_cons_succ, List.getElem_cons_zero, List.setIfInBounds_toArray, List.set_cons_zero, List.set_cons_succ]
    refine GoG.take (i := 12) (v := ?_) [] rfl (by kernel_rfl) (by kernel_rfl) (by kernel_rfl) (by kernel_rfl) (by kernel_rfl) (by kernel_rfl) (fun _ _ _ h => h) (yields_free (by rfl) (fun w => ?_)) ?_
    rotate_left
    · go_simp; try (with_reducible rfl)
    try simp only [Act.put, List.getElem_toArray, List.getElem_cons_succ, List.getElem_cons_zero, List.setIfInBounds_toArray, List.set_cons_zero, List.set_cons_succ]
    refine GoG.take (i := 13) (v := ?_) [] rfl (by kernel_rfl) (by kernel_rfl) (by kernel_rfl) (by kernel_rfl) (by kernel_rfl) (by kernel_rfl) (fun _ _ _ h => h) (yields_free (by rfl) (fun w => ?_)) ?_
    rotate_left
    · go_simp; try (with_reducible rfl)
    try simp only [Act.put, List.getElem_toArray, List.getElem_cons_succ, List.getElem_cons_zero, List.setIfInBounds_toArray, List.set_cons_zero, List.set_cons_succ]
    refine GoG.take (i := 14) (v := ?_) [23] rfl (by kernel_rfl) (by kernel_rfl) (by kernel_rfl) (by kernel_rfl) (by kernel_rfl) (by kernel_rfl) (fun _ _ _ h => h) (.inl ⟨by rfl, fun WW hS => ?_⟩) ?_
    rotate_left
    · have g0 : WW.cell? ⟨b3, 0, none⟩ = some (.slice xo L2 xc) := hS (23, ⟨b3, 0, none⟩, .slice xo L2 xc) (by simp) (by simp)
      have g1 : WW.cell? ⟨b3, 1, none⟩ = some (.slice yo n2 yc) := hS (23, ⟨b3, 1, none⟩, .slice yo n2 yc) (by simp) (by simp)
      clear hS
      go_simp; try (with_reducible rfl)
    try simp only [Act.put, List.getElem_toArray, List.getElem_cons_succ, List.getElem_cons_zero, List.setIfInBounds_toArray, List.set_cons_zero, List.set_cons_succ]
    refine GoG.take (i := 15) (v := ?_) [23] rfl (by kernel_rfl) (by kernel_rfl) (by kernel_rfl) (by kernel_rfl) (by kernel_rfl) (by kernel_rfl) (fun _ _ _ h => h) (.inl ⟨by rfl, fun WW hS => ?_⟩) ?_
    rotate_left
    · have g0 : WW.cell? ⟨b3, 0, none⟩ = some (.slice xo L2 xc) := hS (23, ⟨b3, 0, none⟩, .slice xo L2 xc) (by simp) (by simp)
      have g1 : WW.cell? ⟨b3, 1, none⟩ = some (.slice yo n2 yc) := hS (23, ⟨b3, 1, none⟩, .slice yo n2 yc) (by simp) (by simp)
      clear hS
      go_simp; try (with_reducible rfl)
    try simp only [Act.put, List.getElem_toArray, List.getElem_cons_succ, List.getElem_cons_zero, List.setIfInBounds_toArray, List.set_cons_zero, List.set_cons_succ]
    refine GoG.one (i := 16) rfl (by kernel_rfl) (fun K hK => ?_)
    go_simp
    refine (HPS.out _ Bv3.out).mono ?_
    rintro e v4 ⟨rfl, bq⟩
    have Bv4 := Lib.hid (Bv3.out.trans (bq.mono Bv3.out.size))
    have c0n := (bq.cell (p := ⟨b3, 0, none⟩) (cell_ltB c0)).trans c0
    have c1n := (bq.cell (p := ⟨b3, 1, none⟩) (cell_ltB c1)).trans c1
    have d0n := (bq.cell (p := ⟨b4, 0, none⟩) (cell_ltB d0)).trans d0
    have d1n := (bq.cell (p := ⟨b4, 1, none⟩) (cell_ltB d1)).trans d1
    clear c0 c1 d0 d1
    have c0 := c0n
    have c1 := c1n
    have d0 := d0n
    have d1 := d1n
    clear c0n c1n d0n d1n bq
    refine hK.out _ _ (Keeps.cons (by first | exact c0 | assumption) (Keeps.cons (by first | exact c1 | assumption) (Keeps.cons (by first | exact d0 | assumption) (Keeps.cons (by first | exact d1 | assumption) Keeps.nil)))) ?_
    clear hK K
    try simp only [Act.put, List.getElem_toArray, List.getElem_cons_succ, List.getElem_cons_zero, List.setIfInBounds_toArray, List.set_cons_zero, List.set_cons_succ]
    refine GoG.take (i := 17) (v := ?_) [] rfl (by kernel_rfl) (by kernel_rfl) (by kernel_rfl) (by kernel_rfl) (by kernel_rfl) (by kernel_rfl) (fun _ _ _ h => h) (yields_free (by rfl) (fun w => ?_)) ?_
    rotate_left
    · go_simp; try (with_reducible rfl)
    try simp only [Act.put, List.getElem_toArray, List.getElem_cons_succ, List.getElem_cons_zero, List.setIfInBounds_toArray, List.set_cons_zero, List.set_cons_succ]
    refine GoG.take (i := 18) (v := ?_) [] rfl (by kernel_rfl) (by kernel_rfl) (by kernel_rfl) (by kernel_rfl) (by kernel_rfl) (by kernel_rfl) (fun _ _ _ h => h) (yields_free (by rfl) (fun w => ?_)) ?_
    rotate_left
    · go_simp; try (with_reducible rfl)
    try simp only [Act.put, List.getElem_toArray, List.getElem_cons_succ, List.getElem_cons_zero, List.setIfInBounds_toArray, List.set_cons_zero, List.set_cons_succ]
    refine GoG.take (i := 19) (v := ?_) [] rfl (by kernel_rfl) (by kernel_rfl) (by kernel_rfl) (by kernel_rfl) (by kernel_rfl) (by kernel_rfl) (fun _ _ _ h => h) (yields_free (by rfl) (fun w => ?_)) ?_
    rotate_left
    · go_simp; try (with_reducible rfl)
    try simp only [Act.put, List.getElem_toArray, List.getElem_cons_succ, List.getElem_cons_zero, List.setIfInBounds_toArray, List.set_cons_zero, List.set_cons_succ]
    refine GoG.one (i := 20) rfl (by kernel_rfl) (fun K hK => ?_)
    go_simp
    refine (HAL.out _ Bv4.out).mono ?_
    rintro e v5 ⟨rfl, bq⟩
    have Bv5 := Lib.hid (Bv4.out.trans (bq.mono Bv4.out.size))
    have c0n := (bq.cell (p := ⟨b3, 0, none⟩) (cell_ltB c0)).trans c0
    have c1n := (bq.cell (p := ⟨b3, 1, none⟩) (cell_ltB c1)).trans c1
    have d0n := (bq.cell (p := ⟨b4, 0, none⟩) (cell_ltB d0)).trans d0
    have d1n := (bq.cell (p := ⟨b4, 1, none⟩) (cell_ltB d1)).trans d1
    clear c0 c1 d0 d1
    have c0 := c0n
    have c1 := c1n
    have d0 := d0n
    have d1 := d1n
    clear c0n c1n d0n d1n bq
    refine hK.out _ _ (Keeps.cons (by first | exact c0 | assumption) (Keeps.cons (by first | exact c1 | assumption) (Keeps.cons (by first | exact d0 | assumption) (Keeps.cons (by first | exact d1 | assumption) Keeps.nil)))) ?_
    clear hK K
    try simp only [Act.put, List.getElem_toArray, List.getElem_cons_succ, List.getElem_cons_zero, List.setIfInBounds_toArray, List.set_cons_zero, List.set_cons_succ]
    refine GoG.take (i := 21) (v := ?_) [] rfl (by kernel_rfl) (by kernel_rfl) (by kernel_rfl) (by kernel_rfl) (by kernel_rfl) (by kernel_rfl) (fun _ _ _ h => h) (yields_free (by rfl) (fun w => ?_)) ?_
    rotate_left
    · go_simp; try (with_reducible rfl)
    try simp only [Act.put, List.getElem_toArray, List.getElem_cons_succ, List.getElem_cons_zero, List.setIfInBounds_toArray, List.set_cons_zero, List.set_cons_succ]
    refine GoG.take (i := 22) (v := ?_) [] rfl (by kernel_rfl) (by kernel_rfl) (by kernel_rfl) (by kernel_rfl) (by kernel_rfl) (by kernel_rfl) (fun _ _ _ h => h) (yields_free (by rfl) (fun w => ?_)) ?_
    rotate_left
    · go_simp; try (with_reducible rfl)
    try simp only [Act.put, List.getElem_toArray, List.getElem_cons_succ, List.getElem_cons_zero, List.setIfInBounds_toArray, List.set_cons_zero, List.set_cons_succ]
    refine GoG.done (by kernel_rfl) ?_ _
    obtain rfl : F = (0, 1) := by rw [HFE.out]; rfl
    clear c0 c1 d0 d1
    go_wp2_with fail
    go_ret
    exact ⟨by first | rfl | (simp; done), B8.out.trans (Bv5.out.mono B8.out.size)⟩
  · go_upto_region 4 with fail
    have Bv0 := Lib.hid B10.out.drew
    refine GoG.start [(23, ⟨b3, 0, none⟩, .slice xo L2 xc), (23, ⟨b3, 1, none⟩, .slice yo n2 yc), (23, ⟨b4, 0, none⟩, .slice zo M2 zc), (23, ⟨b4, 1, none⟩, .slice qo m2 qc)] (by kernel_rfl) ?_ ?_
    · exact Keeps.cons (by first | exact c0 | assumption) (Keeps.cons (by first | exact c1 | assumption) (Keeps.cons (by first | exact d0 | assumption) (Keeps.cons (by first | exact d1 | assumption) (Keeps.nil))))
    refine GoG.take (i := 0) (v := ?_) [23] rfl (by kernel_rfl) (by kernel_rfl) (by kernel_rfl) (by kernel_rfl) (by kernel_rfl) (by kernel_rfl) (fun _ _ _ h => h) (.inl ⟨by rfl, fun WW hS => ?_⟩) ?_
    rotate_left
    · have g0 : WW.cell? ⟨b3, 0, none⟩ = some (.slice xo L2 xc) := hS (23, ⟨b3, 0, none⟩, .slice xo L2 xc) (by simp) (by simp)
      have g1 : WW.cell? ⟨b3, 1, none⟩ = some (.slice yo n2 yc) := hS (23, ⟨b3, 1, none⟩, .slice yo n2 yc) (by simp) (by simp)
      clear hS
      go_simp; try (with_reducible rfl)
    try simp only [Act.put, List.getElem_toArray, List.getElem_cons_succ, List.getElem_cons_zero, List.setIfInBounds_toArray, List.set_cons_zero, List.set_cons_succ]
    refine GoG.take (i := 2) (v := ?_) [] rfl (by kernel_rfl) (by kernel_rfl) (by kernel_rfl) (by kernel_rfl) (by kernel_rfl) (by kernel_rfl) (fun _ _ _ h => h) (yields_free (by rfl) (fun w => ?_)) ?_
    rotate_left
    · go_simp; try (with_reducible rfl)
    try simp only [Act.put, List.getElem_toArray, List.getElem_cons_succ, List.getElem_cons_zero, List.setIfInBounds_toArray, List.set_cons_zero, List.set_cons_succ]
    refine GoG.one (i := 1) rfl (by kernel_rfl) (fun K hK => ?_)
    go_simp
    refine (HUR.out _ Bv0.out).mono ?_
    rintro e v1 ⟨rfl, bq⟩
    have Bv1 := Lib.hid (Bv0.out.trans (bq.mono Bv0.out.size))
    have c0n := (bq.cell (p := ⟨b3, 0, none⟩) (cell_ltB c0)).trans c0
    have c1n := (bq.cell (p := ⟨b3, 1, none⟩) (cell_ltB c1)).trans c1
    have d0n := (bq.cell (p := ⟨b4, 0, none⟩) (cell_ltB d0)).trans d0
    have d1n := (bq.cell (p := ⟨b4, 1, none⟩) (cell_ltB d1)).trans d1
    clear c0 c1 d0 d1
    have c0 := c0n
    have c1 := c1n
    have d0 := d0n
    have d1 := d1n
    clear c0n c1n d0n d1n bq
    refine hK.out _ _ (Keeps.cons (by first | exact c0 | assumption) (Keeps.cons (by first | exact c1 | assumption) (Keeps.cons (by first | exact d0 | assumption) (Keeps.cons (by first | exact d1 | assumption) Keeps.nil)))) ?_
    clear hK K
    try simp only [Act.put, List.getElem_toArray, List.getElem_cons_succ, List.getElem_cons_zero, List.setIfInBounds_toArray, List.set_cons_zero, List.set_cons_succ]
    refine GoG.take (i := 3) (v := ?_) [] rfl (by kernel_rfl) (by kernel_rfl) (by kernel_rfl) (by kernel_rfl) (by kernel_rfl) (by kernel_rfl) (fun _ _ _ h => h) (yields_free (by rfl) (fun w => ?_)) ?_
    rotate_left
    · go_simp; try (with_reducible rfl)
    try simp only [Act.put, List.getElem_toArray, List.getElem_cons_succ, List.getElem_cons_zero, List.setIfInBounds_toArray, List.set_cons_zero, List.set_cons_succ]
    refine GoG.take (i := 4) (v := ?_) [] rfl (by kernel_rfl) (by kernel_rfl) (by kernel_rfl) (by kernel_rfl) (by kernel_rfl) (by kernel_rfl) (fun _ _ _ h => h) (yields_free (by rfl) (fun w => ?_)) ?_
    rotate_left
    · go_simp; try (with_reducible rfl)
    try simp only [Act.put, List.getElem_toArray, List.getElem_cons_succ, List.getElem_cons_zero, List.setIfInBounds_toArray, List.set_cons_zero, List.set_cons_succ]
    refine GoG.take (i := 5) (v := ?_) [23] rfl (by kernel_rfl) (by kernel_rfl) (by kernel_rfl) (by kernel_rfl) (by kernel_rfl) (by kernel_rfl) (fun _ _ _ h => h) (.inl ⟨by rfl, fun WW hS => ?_⟩) ?_
    rotate_left
    · have g0 : WW.cell? ⟨b3, 0, none⟩ = some (.slice xo L2 xc) := hS (23, ⟨b3, 0, none⟩, .slice xo L2 xc) (by simp) (by simp)
      have g1 : WW.cell? ⟨b3, 1, none⟩ = some (.slice yo n2 yc) := hS (23, ⟨b3, 1, none⟩, .slice yo n2 yc) (by simp) (by simp)
      clear hS
      go_simp; try (with_reducible rfl)
    try simp only [Act.put, List.getElem_toArray, List.getElem_cons_succ, List.getElem_cons_zero, List.setIfInBounds_toArray, List.set_cons_zero, List.set_cons_succ]
    refine GoG.take (i := 6) (v := ?_) [23] rfl (by kernel_rfl) (by kernel_rfl) (by kernel_rfl) (by kernel_rfl) (by kernel_rfl) (by kernel_rfl) (fun _ _ _ h => h) (.inl ⟨by rfl, fun WW hS => ?_⟩) ?_
    rotate_left
    · have g0 : WW.cell? ⟨b4, 0, none⟩ = some (.slice zo M2 zc) := hS (23, ⟨b4, 0, none⟩, .slice zo M2 zc) (by simp) (by simp)
      have g1 : WW.cell? ⟨b4, 1, none⟩ = some (.slice qo m2 qc) := hS (23, ⟨b4, 1, none⟩, .slice qo m2 qc) (by simp) (by simp)
      clear hS
      go_simp; try (with_reducible rfl)
    try simp only [Act.put, List.getElem_toArray, List.getElem_cons_succ, List.getElem_cons_zero, List.setIfInBounds_toArray, List.set_cons_zero, List.set_cons_succ]
    refine GoG.take (i := 8) (v := ?_) [23] rfl (by kernel_rfl) (by kernel_rfl) (by kernel_rfl) (by kernel_rfl) (by kernel_rfl) (by kernel_rfl) (fun _ _ _ h => h) (.inl ⟨by rfl, fun WW hS => ?_⟩) ?_
    rotate_left
    · have g0 : WW.cell? ⟨b3, 0, none⟩ = some (.slice xo L2 xc) := hS (23, ⟨b3, 0, none⟩, .slice xo L2 xc) (by simp) (by simp)
      have g1 : WW.cell? ⟨b3, 1, none⟩ = some (.slice yo n2 yc) := hS (23, ⟨b3, 1, none⟩, .slice yo n2 yc) (by simp) (by simp)
      clear hS
      go_simp; try (with_reducible rfl)
    try simp only [Act.put, List.getElem_toArray, List.getElem_cons_succ, List.getElem_cons_zero, List.setIfInBounds_toArray, List.set_cons_zero, List.set_cons_succ]
    refine GoG.take (i := 9) (v := ?_) [23] rfl (by kernel_rfl) (by kernel_rfl) (by kernel_rfl) (by kernel_rfl) (by kernel_rfl) (by kernel_rfl) (fun _ _ _ h => h) (.inl ⟨by rfl, fun WW hS => ?_⟩) ?_
    rotate_left
    · have g0 : WW.cell? ⟨b4, 0, none⟩ = some (.slice zo M2 zc) := hS (23, ⟨b4, 0, none⟩, .slice zo M2 zc) (by simp) (by simp)
      have g1 : WW.cell? ⟨b4, 1, none⟩ = some (.slice qo m2 qc) := hS (23, ⟨b4, 1, none⟩, .slice qo m2 qc) (by simp) (by simp)
      clear hS
      go_simp; try (with_reducible rfl)
    try simp only [Act.put, List.getElem_toArray, List.getElem_cons_succ, List.getElem_cons_zero, List.setIfInBounds_toArray, List.set_cons_zero, List.set_cons_succ]
    refine GoG.one (i := 7) rfl (by kernel_rfl) (fun K hK => ?_)
    go_simp
    refine (HPL.out _ Bv1.out).mono ?_
    rintro e v2 ⟨rfl, bq⟩
    have Bv2 := Lib.hid (Bv1.out.trans (bq.mono Bv1.out.size))
    have c0n := (bq.cell (p := ⟨b3, 0, none⟩) (cell_ltB c0)).trans c0
    have c1n := (bq.cell (p := ⟨b3, 1, none⟩) (cell_ltB c1)).trans c1
    have d0n := (bq.cell (p := ⟨b4, 0, none⟩) (cell_ltB d0)).trans d0
    have d1n := (bq.cell (p := ⟨b4, 1, none⟩) (cell_ltB d1)).trans d1
    clear c0 c1 d0 d1
    have c0 := c0n
    have c1 := c1n
    have d0 := d0n
    have d1 := d1n
    clear c0n c1n d0n d1n bq
    refine hK.out _ _ (Keeps.cons (by first | exact c0 | assumption) (Keeps.cons (by first | exact c1 | assumption) (Keeps.cons (by first | exact d0 | assumption) (Keeps.cons (by first | exact d1 | assumption) Keeps.nil)))) ?_
    clear hK K
    try simp only [Act.put, List.getElem_toArray, List.getElem_cons_succ, List.getElem_cons_zero, List.setIfInBounds_toArray, List.set_cons_zero, List.set_cons_succ]
    refine GoG.one (i := 10) rfl (by kernel_rfl) (fun K hK => ?_)
    go_simp
    refine (HRL.out _ Bv2.out).mono ?_
    rintro e v3 ⟨rfl, bq⟩
    have Bv3 := Lib.hid (Bv2.out.trans (bq.mono Bv2.out.size))
    have c0n := (bq.cell (p := ⟨b3, 0, none⟩) (cell_ltB c0)).trans c0
    have c1n := (bq.cell (p := ⟨b3, 1, none⟩) (cell_ltB c1)).trans c1
    have d0n := (bq.cell (p := ⟨b4, 0, none⟩) (cell_ltB d0)).trans d0
    have d1n := (bq.cell (p := ⟨b4, 1, none⟩) (cell_ltB d1)).trans d1
    clear c0 c1 d0 d1
    have c0 := c0n
    have c1 := c1n
    have d0 := d0n
    have d1 := d1n
    clear c0n c1n d0n d1n bq
    refine hK.out _ _ (Keeps.cons (by first | exact c0 | assumption) (Keeps.cons (by first | exact c1 | assumption) (Keeps.cons (by first | exact d0 | assumption) (Keeps.cons (by first | exact d1 | assumption) Keeps.nil)))) ?_
    clear hK K
    try simp only [Act.put, List.getElem_toArray, List.getElem_cons_succ, List.getElem_cons_zero, List.setIfInBounds_toArray, List.set_cons_zero, List.set_cons_succ]
    refine GoG.take (i := 11) (v := ?_) [] rfl (by kernel_rfl) (by kernel_rfl) (by kernel_rfl) (by kernel_rfl) (by kernel_rfl) (by kernel_rfl) (fun _ _ _ h => h) (yields_free (by rfl) (fun w => ?_)) ?_
    rotate_left
    · go_simp; try (with_reducible rfl)
    try simp only [Act.put, List.getElem_toArray, List.getElem_cons_succ, List.getElem_cons_zero, List.setIfInBounds_toArray, List.set_cons_zero, List.set_cons_succ]
    refine GoG.take (i := 12) (v := ?_) [] rfl (by kernel_rfl) (by kernel_rfl) (by kernel_rfl) (by kernel_rfl) (by kernel_rfl) (by kernel_rfl) (fun _ _ _ h => h) (yields_free (by rfl) (fun w => ?_)) ?_
    rotate_left
    · go_simp; try (with_reducible rfl)
    try simp only [Act.put, List.getElem_toArray, List.getElem_cons_succ, List.getElem_cons_zero, List.setIfInBounds_toArray, List.set_cons_zero, List.set_cons_succ]
    refine GoG.take (i := 13) (v := ?_) [] rfl (by kernel_rfl) (by kernel_rfl) (by kernel_rfl) (by kernel_rfl) (by kernel_rfl) (by kernel_rfl) (fun _ _ _ h => h) (yields_free (by rfl) (fun w => ?_)) ?_
    rotate_left
    · go_simp; try (with_reducible rfl)
    try simp only [Act.put, List.getElem_toArray, List.getElem_cons_succ, List.getElem_cons_zero, List.setIfInBounds_toArray, List.set_cons_zero, List.set_cons_succ]
    refine GoG.take (i := 14) (v := ?_) [23] rfl (by kernel_rfl) (by kernel_rfl) (by kernel_rfl) (by kernel_rfl) (by kernel_rfl) (by kernel_rfl) (fun _ _ _ h => h) (.inl ⟨by rfl, fun WW hS => ?_⟩) ?_
    rotate_left
    · have g0 : WW.cell? ⟨b3, 0, none⟩ = some (.slice xo L2 xc) := hS (23, ⟨b3, 0, none⟩, .slice xo L2 xc) (by simp) (by simp)
      have g1 : WW.cell? ⟨b3, 1, none⟩ = some (.slice yo n2 yc) := hS (23, ⟨b3, 1, none⟩, .slice yo n2 yc) (by simp) (by simp)
      clear hS
      go_simp; try (with_reducible rfl)
    try simp only [Act.put, List.getElem_toArray, List.getElem_cons_succ, List.getElem_cons_zero, List.setIfInBounds_toArray, List.set_cons_zero, List.set_cons_succ]
    refine GoG.take (i := 15) (v := ?_) [23] rfl (by kernel_rfl) (by kernel_rfl) (by kernel_rfl) (by kernel_rfl) (by kernel_rfl) (by kernel_rfl) (fun _ _ _ h => h) (.inl ⟨by rfl, fun WW hS => ?_⟩) ?_
    rotate_left
    · have g0 : WW.cell? ⟨b3, 0, none⟩ = some (.slice xo L2 xc) := hS (23, ⟨b3, 0, none⟩, .slice xo L2 xc) (by simp) (by simp)
      have g1 : WW.cell? ⟨b3, 1, none⟩ = some (.slice yo n2 yc) := hS (23, ⟨b3, 1, none⟩, .slice yo n2 yc) (by simp) (by simp)
      clear hS
      go_simp; try (with_reducible rfl)
    try simp only [Act.put, List.getElem_toArray, List.getElem_cons_succ, List.getElem_cons_zero, List.setIfInBounds_toArray, List.set_cons_zero, List.set_cons_succ]
    refine GoG.one (i := 16) rfl (by kernel_rfl) (fun K hK => ?_)
    go_simp
    refine (HPS.out _ Bv3.out).mono ?_
    rintro e v4 ⟨rfl, bq⟩
    have Bv4 := Lib.hid (Bv3.out.trans (bq.mono Bv3.out.size))
    have c0n := (bq.cell (p := ⟨b3, 0, none⟩) (cell_ltB c0)).trans c0
    have c1n := (bq.cell (p := ⟨b3, 1, none⟩) (cell_ltB c1)).trans c1
    have d0n := (bq.cell (p := ⟨b4, 0, none⟩) (cell_ltB d0)).trans d0
    have d1n := (bq.cell (p := ⟨b4, 1, none⟩) (cell_ltB d1)).trans d1
    clear c0 c1 d0 d1
    have c0 := c0n
    have c1 := c1n
    have d0 := d0n
    have d1 := d1n
    clear c0n c1n d0n d1n bq
    refine hK.out _ _ (Keeps.cons (by first | exact c0 | assumption) (Keeps.cons (by first | exact c1 | assumption) (Keeps.cons (by first | exact d0 | assumption) (Keeps.cons (by first | exact d1 | assumption) Keeps.nil)))) ?_
    clear hK K
    try simp only [Act.put, List.getElem_toArray, List.getElem_cons_succ, List.getElem_cons_zero, List.setIfInBounds_toArray, List.set_cons_zero, List.set_cons_succ]
    refine GoG.take (i := 17) (v := ?_) [] rfl (by kernel_rfl) (by kernel_rfl) (by kernel_rfl) (by kernel_rfl) (by kernel_rfl) (by kernel_rfl) (fun _ _ _ h => h) (yields_free (by rfl) (fun w => ?_)) ?_
    rotate_left
    · go_simp; try (with_reducible rfl)
    try simp only [Act.put, List.getElem_toArray, List.getElem_cons_succ, List.getElem_cons_zero, List.setIfInBounds_toArray, List.set_cons_zero, List.set_cons_succ]
    refine GoG.take (i := 18) (v := ?_) [] rfl (by kernel_rfl) (by kernel_rfl) (by kernel_rfl) (by kernel_rfl) (by kernel_rfl) (by kernel_rfl) (fun _ _ _ h => h) (yields_free (by rfl) (fun w => ?_)) ?_
    rotate_left
    · go_simp; try (with_reducible rfl)
    try simp only [Act.put, List.getElem_toArray, List.getElem_cons_succ, List.getElem_cons_zero, List.setIfInBounds_toArray, List.set_cons_zero, List.set_cons_succ]
    refine GoG.take (i := 19) (v := ?_) [] rfl (by kernel_rfl) (by kernel_rfl) (by kernel_rfl) (by kernel_rfl) (by kernel_rfl) (by kernel_rfl) (fun _ _ _ h => h) (yields_free (by rfl) (fun w => ?_)) ?_
    rotate_left
    · go_simp; try (with_reducible rfl)
    try simp only [Act.put, List.getElem_toArray, List.getElem_cons_succ, List.getElem_cons_zero, List.setIfInBounds_toArray, List.set_cons_zero, List.set_cons_succ]
    refine GoG.one (i := 20) rfl (by kernel_rfl) (fun K hK => ?_)
    go_simp
    refine (HAL.out _ Bv4.out).mono ?_
    rintro e v5 ⟨rfl, bq⟩
    have Bv5 := Lib.hid (Bv4.out.trans (bq.mono Bv4.out.size))
    have c0n := (bq.cell (p := ⟨b3, 0, none⟩) (cell_ltB c0)).trans c0
    have c1n := (bq.cell (p := ⟨b3, 1, none⟩) (cell_ltB c1)).trans c1
    have d0n := (bq.cell (p := ⟨b4, 0, none⟩) (cell_ltB d0)).trans d0
    have d1n := (bq.cell (p := ⟨b4, 1, none⟩) (cell_ltB d1)).trans d1
    clear c0 c1 d0 d1
    have c0 := c0n
    have c1 := c1n
    have d0 := d0n
    have d1 := d1n
    clear c0n c1n d0n d1n bq
    refine hK.out _ _ (Keeps.cons (by first | exact c0 | assumption) (Keeps.cons (by first | exact c1 | assumption) (Keeps.cons (by first | exact d0 | assumption) (Keeps.cons (by first | exact d1 | assumption) Keeps.nil)))) ?_
    clear hK K
    try simp only [Act.put, List.getElem_toArray, List.getElem_cons_succ, List.getElem_cons_zero, List.setIfInBounds_toArray, List.set_cons_zero, List.set_cons_succ]
    refine GoG.take (i := 21) (v := ?_) [] rfl (by kernel_rfl) (by kernel_rfl) (by kernel_rfl) (by kernel_rfl) (by kernel_rfl) (by kernel_rfl) (fun _ _ _ h => h) (yields_free (by rfl) (fun w => ?_)) ?_
    rotate_left
    · go_simp; try (with_reducible rfl)
    try simp only [Act.put, List.getElem_toArray, List.getElem_cons_succ, List.getElem_cons_zero, List.setIfInBounds_toArray, List.set_cons_zero, List.set_cons_succ]
    refine GoG.take (i := 22) (v := ?_) [] rfl (by kernel_rfl) (by kernel_rfl) (by kernel_rfl) (by kernel_rfl) (by kernel_rfl) (by kernel_rfl) (fun _ _ _ h => h) (yields_free (by rfl) (fun w => ?_)) ?_
    rotate_left
    · go_simp; try (with_reducible rfl)
    try simp only [Act.put, List.getElem_toArray, List.getElem_cons_succ, List.getElem_cons_zero, List.setIfInBounds_toArray, List.set_cons_zero, List.set_cons_succ]
    refine GoG.done (by kernel_rfl) ?_ _
    by_cases hA0 : A < 0
    · obtain rfl : F = (0, 8) := by rw [HFE.out, if_neg (by decide), if_pos hA0]
      have hdA : decide (A < 0) = true := decide_eq_true hA0
      go_wp2_with fail
      refine (HAT.out _ Bv5.out).mono ?_
      rintro e w11 ⟨rfl, b⟩
      have B11 := Lib.hid (Bv5.out.trans (b.mono Bv5.out.size))
      clear b c0 c1 d0 d1
      go_wp2_with fail
      go_ret
      exact ⟨by first | rfl | (simp; done), B8.out.trans (B11.out.mono B8.out.size)⟩
    · obtain rfl : F = (A, 0) := by rw [HFE.out, if_neg (by decide), if_neg hA0]
      have hdA : decide (A < 0) = false := decide_eq_false hA0
      have hAA : (A == A) = true := by simp
      go_wp2_with fail
      refine (HAT.out _ Bv5.out).mono ?_
      rintro e w11 ⟨rfl, b⟩
      have B11 := Lib.hid (Bv5.out.trans (b.mono Bv5.out.size))
      have c0n := (b.cell (p := ⟨b3, 0, none⟩) (cell_ltB c0)).trans c0
      have c1n := (b.cell (p := ⟨b3, 1, none⟩) (cell_ltB c1)).trans c1
      clear b c0 c1 d0 d1
      go_wp2_with fail
      refine (HAT.out _ B11.out).mono ?_
      rintro e w12 ⟨rfl, b⟩
      have B12 := Lib.hid (B11.out.trans (b.mono B11.out.size))
      clear b c0n c1n
      go_wp2_with fail
      go_ret
      exact ⟨by first | rfl | (simp; done), B8.out.trans (B12.out.mono B8.out.size)⟩
  · go_upto_region 4 with fail
    have Bv0 := Lib.hid B10.out.drew
    refine GoG.start [(23, ⟨b3, 0, none⟩, .slice xo L2 xc), (23, ⟨b3, 1, none⟩, .slice yo n2 yc), (23, ⟨b4, 0, none⟩, .slice zo M2 zc), (23, ⟨b4, 1, none⟩, .slice qo m2 qc)] (by kernel_rfl) ?_ ?_
    · exact Keeps.cons (by first | exact c0 | assumption) (Keeps.cons (by first | exact c1 | assumption) (Keeps.cons (by first | exact d0 | assumption) (Keeps.cons (by first | exact d1 | assumption) (Keeps.nil))))
    refine GoG.take (i := 0) (v := ?_) [23] rfl (by kernel_rfl) (by kernel_rfl) (by kernel_rfl) (by kernel_rfl) (by kernel_rfl) (by kernel_rfl) (fun _ _ _ h => h) (.inl ⟨by rfl, fun WW hS => ?_⟩) ?_
    rotate_left
    · have g0 : WW.cell? ⟨b3, 0, none⟩ = some (.slice xo L2 xc) := hS (23, ⟨b3, 0, none⟩, .slice xo L2 xc) (by simp) (by simp)
      have g1 : WW.cell? ⟨b3, 1, none⟩ = some (.slice yo n2 yc) := hS (23, ⟨b3, 1, none⟩, .slice yo n2 yc) (by simp) (by simp)
      clear hS
      go_simp; try (with_reducible rfl)
    try simp only [Act.put, List.getElem_toArray, List.getElem_cons_succ, List.getElem_cons_zero, List.setIfInBounds_toArray, List.set_cons_zero, List.set_cons_succ]
    refine GoG.take (i := 2) (v := ?_) [] rfl (by kernel_rfl) (by kernel_rfl) (by kernel_rfl) (by kernel_rfl) (by kernel_rfl) (by kernel_rfl) (fun _ _ _ h => h) (yields_free (by rfl) (fun w => ?_)) ?_
    rotate_left
    · go_simp; try (with_reducible rfl)
    try simp only [Act.put, List.getElem_toArray, List.getElem_cons_succ, List.getElem_cons_zero, List.setIfInBounds_toArray, List.set_cons_zero, List.set_cons_succ]
    refine GoG.one (i := 1) rfl (by kernel_rfl) (fun K hK => ?_)
    go_simp
    refine (HUR.out _ Bv0.out).mono ?_
    rintro e v1 ⟨rfl, bq⟩
    have Bv1 := Lib.hid (Bv0.out.trans (bq.mono Bv0.out.size))
    have c0n := (bq.cell (p := ⟨b3, 0, none⟩) (cell_ltB c0)).trans c0
    have c1n := (bq.cell (p := ⟨b3, 1, none⟩) (cell_ltB c1)).trans c1
    have d0n := (bq.cell (p := ⟨b4, 0, none⟩) (cell_ltB d0)).trans d0
    have d1n := (bq.cell (p := ⟨b4, 1, none⟩) (cell_ltB d1)).trans d1
    clear c0 c1 d0 d1
    have c0 := c0n
    have c1 := c1n
    have d0 := d0n
    have d1 := d1n
    clear c0n c1n d0n d1n bq
    refine hK.out _ _ (Keeps.cons (by first | exact c0 | assumption) (Keeps.cons (by first | exact c1 | assumption) (Keeps.cons (by first | exact d0 | assumption) (Keeps.cons (by first | exact d1 | assumption) Keeps.nil)))) ?_
    clear hK K
    try simp only [Act.put, List.getElem_toArray, List.getElem_cons_succ, List.getElem_cons_zero, List.setIfInBounds_toArray, List.set_cons_zero, List.set_cons_succ]
    refine GoG.take (i := 3) (v := ?_) [] rfl (by kernel_rfl) (by kernel_rfl) (by kernel_rfl) (by kernel_rfl) (by kernel_rfl) (by kernel_rfl) (fun _ _ _ h => h) (yields_free (by rfl) (fun w => ?_)) ?_
    rotate_left
    · go_simp; try (with_reducible rfl)
    try simp only [Act.put, List.getElem_toArray, List.getElem_cons_succ, List.getElem_cons_zero, List.setIfInBounds_toArray, List.set_cons_zero, List.set_cons_succ]
    refine GoG.take (i := 4) (v := ?_) [] rfl (by kernel_rfl) (by kernel_rfl) (by kernel_rfl) (by kernel_rfl) (by kernel_rfl) (by kernel_rfl) (fun _ _ _ h => h) (yields_free (by rfl) (fun w => ?_)) ?_
    rotate_left
    · go_simp; try (with_reducible rfl)
    try simp only [Act.put, List.getElem_toArray, List.getElem_cons_succ, List.getElem_cons_zero, List.setIfInBounds_toArray, List.set_cons_zero, List.set_cons_succ]
    refine GoG.take (i := 5) (v := ?_) [23] rfl (by kernel_rfl) (by kernel_rfl) (by kernel_rfl) (by kernel_rfl) (by kernel_rfl) (by kernel_rfl) (fun _ _ _ h => h) (.inl ⟨by rfl, fun WW hS => ?_⟩) ?_
    rotate_left
    · have g0 : WW.cell? ⟨b3, 0, none⟩ = some (.slice xo L2 xc) := hS (23, ⟨b3, 0, none⟩, .slice xo L2 xc) (by simp) (by simp)
      have g1 : WW.cell? ⟨b3, 1, none⟩ = some (.slice yo n2 yc) := hS (23, ⟨b3, 1, none⟩, .slice yo n2 yc) (by simp) (by simp)
      clear hS
      go_simp; try (with_reducible rfl)
    try simp only [Act.put, List.getElem_toArray, List.getElem_cons_succ, List.getElem_cons_zero, List.setIfInBounds_toArray, List.set_cons_zero, List.set_cons_succ]
    refine GoG.take (i := 6) (v := ?_) [23] rfl (by kernel_rfl) (by kernel_rfl) (by kernel_rfl) (by kernel_rfl) (by kernel_rfl) (by kernel_rfl) (fun _ _ _ h => h) (.inl ⟨by rfl, fun WW hS => ?_⟩) ?_
    rotate_left
    · have g0 : WW.cell? ⟨b4, 0, none⟩ = some (.slice zo M2 zc) := hS (23, ⟨b4, 0, none⟩, .slice zo M2 zc) (by simp) (by simp)
      have g1 : WW.cell? ⟨b4, 1, none⟩ = some (.slice qo m2 qc) := hS (23, ⟨b4, 1, none⟩, .slice qo m2 qc) (by simp) (by simp)
      clear hS
      go_simp; try (with_reducible rfl)
    try simp only [Act.put, List.getElem_toArray, List.getElem_cons_succ, List.getElem_cons_zero, List.setIfInBounds_toArray, List.set_cons_zero, List.set_cons_succ]
    refine GoG.take (i := 8) (v := ?_) [23] rfl (by kernel_rfl) (by kernel_rfl) (by kernel_rfl) (by kernel_rfl) (by kernel_rfl) (by kernel_rfl) (fun _ _ _ h => h) (.inl ⟨by rfl, fun WW hS => ?_⟩) ?_
    rotate_left
    · have g0 : WW.cell? ⟨b3, 0, none⟩ = some (.slice xo L2 xc) := hS (23, ⟨b3, 0, none⟩, .slice xo L2 xc) (by simp) (by simp)
      have g1 : WW.cell? ⟨b3, 1, none⟩ = some (.slice yo n2 yc) := hS (23, ⟨b3, 1, none⟩, .slice yo n2 yc) (by simp) (by simp)
      clear hS
      go_simp; try (with_reducible rfl)
    try simp only [Act.put, List.getElem_toArray, List.getElem_cons_succ, List.getElem_cons_zero, List.setIfInBounds_toArray, List.set_cons_zero, List.set_cons_succ]
    refine GoG.take (i := 9) (v := ?_) [23] rfl (by kernel_rfl) (by kernel_rfl) (by kernel_rfl) (by kernel_rfl) (by kernel_rfl) (by kernel_rfl) (fun _ _ _ h => h) (.inl ⟨by rfl, fun WW hS => ?_⟩) ?_
    rotate_left
    · have g0 : WW.cell? ⟨b4, 0, none⟩ = some (.slice zo M2 zc) := hS (23, ⟨b4, 0, none⟩, .slice zo M2 zc) (by simp) (by simp)
      have g1 : WW.cell? ⟨b4, 1, none⟩ = some (.slice qo m2 qc) := hS (23, ⟨b4, 1, none⟩, .slice qo m2 qc) (by simp) (by simp)
      clear hS
      go_simp; try (with_reducible rfl)
    try simp only [Act.put, List.getElem_toArray, List.getElem_cons_succ, List.getElem_cons_zero, List.setIfInBounds_toArray, List.set_cons_zero, List.set_cons_succ]
    refine GoG.one (i := 7) rfl (by kernel_rfl) (fun K hK => ?_)
    go_simp
    refine (HPL.out _ Bv1.out).mono ?_
    rintro e v2 ⟨rfl, bq⟩
    have Bv2 := Lib.hid (Bv1.out.trans (bq.mono Bv1.out.size))
    have c0n := (bq.cell (p := ⟨b3, 0, none⟩) (cell_ltB c0)).trans c0
    have c1n := (bq.cell (p := ⟨b3, 1, none⟩) (cell_ltB c1)).trans c1
    have d0n := (bq.cell (p := ⟨b4, 0, none⟩) (cell_ltB d0)).trans d0
    have d1n := (bq.cell (p := ⟨b4, 1, none⟩) (cell_ltB d1)).trans d1
    clear c0 c1 d0 d1
    have c0 := c0n
    have c1 := c1n
    have d0 := d0n
    have d1 := d1n
    clear c0n c1n d0n d1n bq
    refine hK.out _ _ (Keeps.cons (by first | exact c0 | assumption) (Keeps.cons (by first | exact c1 | assumption) (Keeps.cons (by first | exact d0 | assumption) (Keeps.cons (by first | exact d1 | assumption) Keeps.nil)))) ?_
    clear hK K
    try simp only [Act.put, List.getElem_toArray, List.getElem_cons_succ, List.getElem_cons_zero, List.setIfInBounds_toArray, List.set_cons_zero, List.set_cons_succ]
    refine GoG.one (i := 10) rfl (by kernel_rfl) (fun K hK => ?_)
    go_simp
    refine (HRL.out _ Bv2.out).mono ?_
    rintro e v3 ⟨rfl, bq⟩
    have Bv3 := Lib.hid (Bv2.out.trans (bq.mono Bv2.out.size))
    have c0n := (bq.cell (p := ⟨b3, 0, none⟩) (cell_ltB c0)).trans c0
    have c1n := (bq.cell (p := ⟨b3, 1, none⟩) (cell_ltB c1)).trans c1
    have d0n := (bq.cell (p := ⟨b4, 0, none⟩) (cell_ltB d0)).trans d0
    have d1n := (bq.cell (p := ⟨b4, 1, none⟩) (cell_ltB d1)).trans d1
    clear c0 c1 d0 d1
    have c0 := c0n
    have c1 := c1n
    have d0 := d0n
    have d1 := d1n
    clear c0n c1n d0n d1n bq
    refine hK.out _ _ (Keeps.cons (by first | exact c0 | assumption) (Keeps.cons (by first | exact c1 | assumption) (Keeps.cons (by first | exact d0 | assumption) (Keeps.cons (by first | exact d1 | assumption) Keeps.nil)))) ?_
    clear hK K
    try simp only [Act.put, List.getElem_toArray, List.getElem_cons_succ, List.getElem_cons_zero, List.setIfInBounds_toArray, List.set_cons_zero, List.set_cons_succ]
    refine GoG.take (i := 11) (v := ?_) [] rfl (by kernel_rfl) (by kernel_rfl) (by kernel_rfl) (by kernel_rfl) (by kernel_rfl) (by kernel_rfl) (fun _ _ _ h => h) (yields_free (by rfl) (fun w => ?_)) ?_
    rotate_left
    · go_simp; try (with_reducible rfl)
    try simp only [Act.put, List.getElem_toArray, List.getElem_cons_succ, List.getElem_cons_zero, List.setIfInBounds_toArray, List.set_cons_zero, List.set_cons_succ]
    refine GoG.take (i := 12) (v := ?_) [] rfl (by kernel_rfl) (by kernel_rfl) (by kernel_rfl) (by kernel_rfl) (by kernel_rfl) (by kernel_rfl) (fun _ _ _ h => h) (yields_free (by rfl) (fun w => ?_)) ?_
    rotate_left
    · go_simp; try (with_reducible rfl)
    try simp only [Act.put, List.getElem_toArray, List.getElem_cons_succ, List.getElem_cons_zero, List.setIfInBounds_toArray, List.set_cons_zero, List.set_cons_succ]
    refine GoG.take (i := 13) (v := ?_) [] rfl (by kernel_rfl) (by kernel_rfl) (by kernel_rfl) (by kernel_rfl) (by kernel_rfl) (by kernel_rfl) (fun _ _ _ h => h) (yields_free (by rfl) (fun w => ?_)) ?_
    rotate_left
    · go_simp; try (with_reducible rfl)
    try simp only [Act.put, List.getElem_toArray, List.getElem_cons_succ, List.getElem_cons_zero, List.setIfInBounds_toArray, List.set_cons_zero, List.set_cons_succ]
    refine GoG.take (i := 14) (v := ?_) [23] rfl (by kernel_rfl) (by kernel_rfl) (by kernel_rfl) (by kernel_rfl) (by kernel_rfl) (by kernel_rfl) (fun _ _ _ h => h) (.inl ⟨by rfl, fun WW hS => ?_⟩) ?_
    rotate_left
    · have g0 : WW.cell? ⟨b3, 0, none⟩ = some (.slice xo L2 xc) := hS (23, ⟨b3, 0, none⟩, .slice xo L2 xc) (by simp) (by simp)
      have g1 : WW.cell? ⟨b3, 1, none⟩ = some (.slice yo n2 yc) := hS (23, ⟨b3, 1, none⟩, .slice yo n2 yc) (by simp) (by simp)
      clear hS
      go_simp; try (with_reducible rfl)
    try simp only [Act.put, List.getElem_toArray, List.getElem_cons_succ, List.getElem_cons_zero, List.setIfInBounds_toArray, List.set_cons_zero, List.set_cons_succ]
    refine GoG.take (i := 15) (v := ?_) [23] rfl (by kernel_rfl) (by kernel_rfl) (by kernel_rfl) (by kernel_rfl) (by kernel_rfl) (by kernel_rfl) (fun _ _ _ h => h) (.inl ⟨by rfl, fun WW hS => ?_⟩) ?_
    rotate_left
    · have g0 : WW.cell? ⟨b3, 0, none⟩ = some (.slice xo L2 xc) := hS (23, ⟨b3, 0, none⟩, .slice xo L2 xc) (by simp) (by simp)
      have g1 : WW.cell? ⟨b3, 1, none⟩ = some (.slice yo n2 yc) := hS (23, ⟨b3, 1, none⟩, .slice yo n2 yc) (by simp) (by simp)
      clear hS
      go_simp; try (with_reducible rfl)
    try simp only [Act.put, List.getElem_toArray, List.getElem_cons_succ, List.getElem_cons_zero, List.setIfInBounds_toArray, List.set_cons_zero, List.set_cons_succ]
    refine GoG.one (i := 16) rfl (by kernel_rfl) (fun K hK => ?_)
    go_simp
    refine (HPS.out _ Bv3.out).mono ?_
    rintro e v4 ⟨rfl, bq⟩
    have Bv4 := Lib.hid (Bv3.out.trans (bq.mono Bv3.out.size))
    have c0n := (bq.cell (p := ⟨b3, 0, none⟩) (cell_ltB c0)).trans c0
    have c1n := (bq.cell (p := ⟨b3, 1, none⟩) (cell_ltB c1)).trans c1
    have d0n := (bq.cell (p := ⟨b4, 0, none⟩) (cell_ltB d0)).trans d0
    have d1n := (bq.cell (p := ⟨b4, 1, none⟩) (cell_ltB d1)).trans d1
    clear c0 c1 d0 d1
    have c0 := c0n
    have c1 := c1n
    have d0 := d0n
    have d1 := d1n
    clear c0n c1n d0n d1n bq
    refine hK.out _ _ (Keeps.cons (by first | exact c0 | assumption) (Keeps.cons (by first | exact c1 | assumption) (Keeps.cons (by first | exact d0 | assumption) (Keeps.cons (by first | exact d1 | assumption) Keeps.nil)))) ?_
    clear hK K
    try simp only [Act.put, List.getElem_toArray, List.getElem_cons_succ, List.getElem_cons_zero, List.setIfInBounds_toArray, List.set_cons_zero, List.set_cons_succ]
    refine GoG.take (i := 17) (v := ?_) [] rfl (by kernel_rfl) (by kernel_rfl) (by kernel_rfl) (by kernel_rfl) (by kernel_rfl) (by kernel_rfl) (fun _ _ _ h => h) (yields_free (by rfl) (fun w => ?_)) ?_
    rotate_left
    · go_simp; try (with_reducible rfl)
    try simp only [Act.put, List.getElem_toArray, List.getElem_cons_succ, List.getElem_cons_zero, List.setIfInBounds_toArray, List.set_cons_zero, List.set_cons_succ]
    refine GoG.take (i := 18) (v := ?_) [] rfl (by kernel_rfl) (by kernel_rfl) (by kernel_rfl) (by kernel_rfl) (by kernel_rfl) (by kernel_rfl) (fun _ _ _ h => h) (yields_free (by rfl) (fun w => ?_)) ?_
    rotate_left
    · go_simp; try (with_reducible rfl)
    try simp only [Act.put, List.getElem_toArray, List.getElem_cons_succ, List.getElem_cons_zero, List.setIfInBounds_toArray, List.set_cons_zero, List.set_cons_succ]
    refine GoG.take (i := 19) (v := ?_) [] rfl (by kernel_rfl) (by kernel_rfl) (by kernel_rfl) (by kernel_rfl) (by kernel_rfl) (by kernel_rfl) (fun _ _ _ h => h) (yields_free (by rfl) (fun w => ?_)) ?_
    rotate_left
    · go_simp; try (with_reducible rfl)
    try simp only [Act.put, List.getElem_toArray, List.getElem_cons_succ, List.getElem_cons_zero, List.setIfInBounds_toArray, List.set_cons_zero, List.set_cons_succ]
    refine GoG.one (i := 20) rfl (by kernel_rfl) (fun K hK => ?_)
    go_simp
    refine (HAL.out _ Bv4.out).mono ?_
    rintro e v5 ⟨rfl, bq⟩
    have Bv5 := Lib.hid (Bv4.out.trans (bq.mono Bv4.out.size))
    have c0n := (bq.cell (p := ⟨b3, 0, none⟩) (cell_ltB c0)).trans c0
    have c1n := (bq.cell (p := ⟨b3, 1, none⟩) (cell_ltB c1)).trans c1
    have d0n := (bq.cell (p := ⟨b4, 0, none⟩) (cell_ltB d0)).trans d0
    have d1n := (bq.cell (p := ⟨b4, 1, none⟩) (cell_ltB d1)).trans d1
    clear c0 c1 d0 d1
    have c0 := c0n
    have c1 := c1n
    have d0 := d0n
    have d1 := d1n
    clear c0n c1n d0n d1n bq
    refine hK.out _ _ (Keeps.cons (by first | exact c0 | assumption) (Keeps.cons (by first | exact c1 | assumption) (Keeps.cons (by first | exact d0 | assumption) (Keeps.cons (by first | exact d1 | assumption) Keeps.nil)))) ?_
    clear hK K
    try simp only [Act.put, List.getElem_toArray, List.getElem_cons_succ, List.getElem_cons_zero, List.setIfInBounds_toArray, List.set_cons_zero, List.set_cons_succ]
    refine GoG.take (i := 21) (v := ?_) [] rfl (by kernel_rfl) (by kernel_rfl) (by kernel_rfl) (by kernel_rfl) (by kernel_rfl) (by kernel_rfl) (fun _ _ _ h => h) (yields_free (by rfl) (fun w => ?_)) ?_
    rotate_left
    · go_simp; try (with_reducible rfl)
    try simp only [Act.put, List.getElem_toArray, List.getElem_cons_succ, List.getElem_cons_zero, List.setIfInBounds_toArray, List.set_cons_zero, List.set_cons_succ]
    refine GoG.take (i := 22) (v := ?_) [] rfl (by kernel_rfl) (by kernel_rfl) (by kernel_rfl) (by kernel_rfl) (by kernel_rfl) (by kernel_rfl) (fun _ _ _ h => h) (yields_free (by rfl) (fun w => ?_)) ?_
    rotate_left
    · go_simp; try (with_reducible rfl)
    try simp only [Act.put, List.getElem_toArray, List.getElem_cons_succ, List.getElem_cons_zero, List.setIfInBounds_toArray, List.set_cons_zero, List.set_cons_succ]
    refine GoG.done (by kernel_rfl) ?_ _
    by_cases hA0 : A < 0
    · obtain rfl : F = (0, 8) := by rw [HFE.out, if_neg (by decide), if_pos hA0]
      have hdA : decide (A < 0) = true := decide_eq_true hA0
      go_wp2_with fail
      refine (HAT.out _ Bv5.out).mono ?_
      rintro e w11 ⟨rfl, b⟩
      have B11 := Lib.hid (Bv5.out.trans (b.mono Bv5.out.size))
      clear b c0 c1 d0 d1
      go_wp2_with fail
      go_ret
      exact ⟨by first | rfl | (simp; done), B8.out.trans (B11.out.mono B8.out.size)⟩
    · obtain rfl : F = (A, 0) := by rw [HFE.out, if_neg (by decide), if_neg hA0]
      have hdA : decide (A < 0) = false := decide_eq_false hA0
      have hAA : (A == A) = true := by simp
      go_wp2_with fail
      refine (HAT.out _ Bv5.out).mono ?_
      rintro e w11 ⟨rfl, b⟩
      have B11 := Lib.hid (Bv5.out.trans (b.mono Bv5.out.size))
      have c0n := (b.cell (p := ⟨b3, 0, none⟩) (cell_ltB c0)).trans c0
      have c1n := (b.cell (p := ⟨b3, 1, none⟩) (cell_ltB c1)).trans c1
      clear b c0 c1 d0 d1
      go_wp2_with fail
      refine (HAT.out _ B11.out).mono ?_
      rintro e w12 ⟨rfl, b⟩
      have B12 := Lib.hid (B11.out.trans (b.mono B11.out.size))
      clear b c0n c1n
      go_wp2_with fail
      go_ret
      exact ⟨by first | rfl | (simp; done), B8.out.trans (B12.out.mono B8.out.size)⟩
end Go.Proofs.YtkmnfkhchcoamaaGreatDoor

