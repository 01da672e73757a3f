/- The program's quoted, whole. -/
import Derived.Test.YtjhgibdebcapfaaScanPQ
import Derived.Test.YtjhgibdebcapfaaRegT
import Derived.Deep.CutRange
import Derived.Deep.DeepCutAuto
namespace Go.Proofs.Ytjhgibdebcapfaa
open Go.RowKit
set_option linter.unusedSimpArgs false
set_option linter.unusedVariables false

theorem old1 (w : World) (o : Obj) {p : Addr} (h : p.block < w.heap.size) : (w.alloc o).drew.cell? p = w.cell? p := (((Below.refl w.heap.size w).alloc (Nat.le_refl _) o).drew).cell h
theorem old2 (w : World) (o o2 : Obj) {p : Addr} (h : p.block < w.heap.size) : ((w.alloc o).alloc o2).drew.cell? p = w.cell? p := ((((Below.refl w.heap.size w).alloc (Nat.le_refl _) o).alloc (by simp) o2).drew).cell h
theorem two_blocks (w : World) (xs ys : Array Value) (T U : TypeId) : BlockAt ((w.alloc (.cells xs T)).alloc (.cells ys U)).drew w.heap.size xs T ∧ BlockAt ((w.alloc (.cells xs T)).alloc (.cells ys U)).drew (w.heap.size + 1) ys U ∧ Below w.heap.size w ((w.alloc (.cells xs T)).alloc (.cells ys U)).drew := by
  have h1 := (BlockAt.new w xs T).below ((Below.refl (w.alloc (.cells xs T)).heap.size (w.alloc (.cells xs T))).alloc (Nat.le_refl _) (.cells ys U))
  have h2 := BlockAt.new (w.alloc (.cells xs T)) ys U
  have hz : (w.alloc (.cells xs T)).heap.size = w.heap.size + 1 := by simp
  rw [hz] at h2
  exact ⟨h1.below ((Below.refl _ _).drew), h2.below ((Below.refl _ _).drew), (((Below.refl w.heap.size w).alloc (Nat.le_refl _) _).alloc (by simp) _).drew⟩
set_option maxHeartbeats 16000000 in
set_option maxRecDepth 100000 in
theorem pquoted_any (w : World) (B pb : Nat) (s : ByteArray) (i : Nat) (l : List Tk) (h : PS w B pb s i l) (hs : s.size ≤ 4010) (hi : i < s.size) (hl : l.length ≤ 20000) (Q kd : Int) (hQ : byteAt s i = Q) (h10 : Q ≠ 10) (h96 : Q ≠ 96) (hk : kd = if Q = 39 then 4 else 5) :
    Calls Try.prog 26 #[ptr pb, .int .i64 kd] w fun en w' => TokP w w' B pb s i l (quoG Q (quo s Q (i + 1))) en := by
  have hpl := h.lt
  have hlow := h.low
  have hcc := h.cells
  obtain ⟨w1, hw⟩ : ∃ w1, w.alloc (.cells #[.pointer (some ⟨pb, 0, none⟩)] 49) = w1 := ⟨_, rfl⟩
  obtain ⟨k1, q1, z1⟩ := box_new hw
  have HP := Lib.hid (h.below q1)
  have BB := Lib.hid (q1.mono (show B ≤ w.heap.size from Nat.le_trans hlow (Nat.le_of_lt hpl)))
  have x0 := k1.cell 0
  simp only [List.getElem?_toArray, List.getElem?_cons_zero] at x0
  have c0 := HP.out.cells.1
  have c1 := HP.out.cells.2
  obtain ⟨R, hR⟩ : ∃ R, quo s Q (i + 1) = R := ⟨_, rfl⟩
  have HRR := Lib.hid hR
  rw [hR]
  obtain ⟨c, hc⟩ : ∃ c : Int, (s[i].toNat : Int) = c := ⟨_, rfl⟩
  have HQ := Lib.hid (show c = Q from ((byteAt_eq hi).trans hc).symm.trans hQ)
  have HKD := Lib.hid hk
  have Z1 := Lib.hid z1
  have hpl1 := HP.out.lt
  have hq1 : w.heap.size < w1.heap.size := by rw [z1]; exact Nat.lt_succ_self _
  have K1 := Lib.hid k1
  unfold ptr at *
  clear h hcc k1 q1 z1 hR hk hQ
  go_enter Try.func26, Try.ntmps26
  go_upto_region 1 with fail
  clear hw
  go_cut [5, 6] (fun v5 v6 wx => ∃ a b : Nat, v5 = .pointer (some ⟨a, 0, none⟩) ∧ v6 = .pointer (some ⟨b, 0, none⟩) ∧ Hid (w1.heap.size ≤ b ∧ a ≠ b) ∧ Hid (BlockAt wx a #[.int .u8 c] 5) ∧ Hid (BlockAt wx b #[.bool false] 4) ∧ Hid (Below w1.heap.size w1 wx))
  case first =>
    refine GoG.start [(12, ⟨w.heap.size, 0, none⟩, .pointer (some ⟨pb, 0, none⟩)), (12, ⟨pb, 0, none⟩, .string s), (12, ⟨pb, 1, none⟩, .int .i64 (i : Int))] (by kernel_rfl) ?_ ?_
    · exact Keeps.cons (by first | assumption | simp [*]) (Keeps.cons (by first | assumption | simp [*]) (Keeps.cons (by first | assumption | simp [*]) (Keeps.nil)))
    refine GoG.take (i := 0) (v := ?_) [12] rfl (by kernel_rfl) (by kernel_rfl) (by kernel_rfl) (by kernel_rfl) (by kernel_rfl) (by kernel_rfl) (fun _ _ _ h => h) (yields_load 12 ⟨w.heap.size, 0, none⟩ (.pointer (some ⟨pb, 0, none⟩)) (by simp) (by decide) (by rfl) (fun w hw => ?_)) ?_
    rotate_left
    · go_simp; try (with_reducible rfl)
    try simp only [Act.put, List.getElem_toArray, List.getElem_cons_succ, List.getElem_cons_zero, List.setIfInBounds_toArray, List.set_cons_zero, List.set_cons_succ]
    refine GoG.take (i := 1) (v := ?_) [] rfl (by kernel_rfl) (by kernel_rfl) (by kernel_rfl) (by kernel_rfl) (by kernel_rfl) (by kernel_rfl) (fun _ _ _ h => h) (yields_free (by rfl) (fun w => ?_)) ?_
    rotate_left
    · go_simp; try (with_reducible rfl)
    try simp only [Act.put, List.getElem_toArray, List.getElem_cons_succ, List.getElem_cons_zero, List.setIfInBounds_toArray, List.set_cons_zero, List.set_cons_succ]
    refine GoG.take (i := 2) (v := ?_) [] rfl (by kernel_rfl) (by kernel_rfl) (by kernel_rfl) (by kernel_rfl) (by kernel_rfl) (by kernel_rfl) (fun _ _ _ h => h) (yields_free (by rfl) (fun w => ?_)) ?_
    rotate_left
    · go_simp; try (with_reducible rfl)
    try simp only [Act.put, List.getElem_toArray, List.getElem_cons_succ, List.getElem_cons_zero, List.setIfInBounds_toArray, List.set_cons_zero, List.set_cons_succ]
    refine GoG.take (i := 3) (v := ?_) [12] rfl (by kernel_rfl) (by kernel_rfl) (by kernel_rfl) (by kernel_rfl) (by kernel_rfl) (by kernel_rfl) (fun _ _ _ h => h) (yields_load 12 ⟨pb, 0, none⟩ (.string s) (by simp) (by decide) (by rfl) (fun w hw => ?_)) ?_
    rotate_left
    · go_simp; try (with_reducible rfl)
    try simp only [Act.put, List.getElem_toArray, List.getElem_cons_succ, List.getElem_cons_zero, List.setIfInBounds_toArray, List.set_cons_zero, List.set_cons_succ]
    refine GoG.take (i := 4) (v := ?_) [12] rfl (by kernel_rfl) (by kernel_rfl) (by kernel_rfl) (by kernel_rfl) (by kernel_rfl) (by kernel_rfl) (fun _ _ _ h => h) (yields_load 12 ⟨w.heap.size, 0, none⟩ (.pointer (some ⟨pb, 0, none⟩)) (by simp) (by decide) (by rfl) (fun w hw => ?_)) ?_
    rotate_left
    · go_simp; try (with_reducible rfl)
    try simp only [Act.put, List.getElem_toArray, List.getElem_cons_succ, List.getElem_cons_zero, List.setIfInBounds_toArray, List.set_cons_zero, List.set_cons_succ]
    refine GoG.take (i := 5) (v := ?_) [] rfl (by kernel_rfl) (by kernel_rfl) (by kernel_rfl) (by kernel_rfl) (by kernel_rfl) (by kernel_rfl) (fun _ _ _ h => h) (yields_free (by rfl) (fun w => ?_)) ?_
    rotate_left
    · go_simp; try (with_reducible rfl)
    try simp only [Act.put, List.getElem_toArray, List.getElem_cons_succ, List.getElem_cons_zero, List.setIfInBounds_toArray, List.set_cons_zero, List.set_cons_succ]
    refine GoG.take (i := 6) (v := ?_) [] rfl (by kernel_rfl) (by kernel_rfl) (by kernel_rfl) (by kernel_rfl) (by kernel_rfl) (by kernel_rfl) (fun _ _ _ h => h) (yields_free (by rfl) (fun w => ?_)) ?_
    rotate_left
    · go_simp; try (with_reducible rfl)
    try simp only [Act.put, List.getElem_toArray, List.getElem_cons_succ, List.getElem_cons_zero, List.setIfInBounds_toArray, List.set_cons_zero, List.set_cons_succ]
    refine GoG.take (i := 7) (v := ?_) [12] rfl (by kernel_rfl) (by kernel_rfl) (by kernel_rfl) (by kernel_rfl) (by kernel_rfl) (by kernel_rfl) (fun _ _ _ h => h) (yields_load 12 ⟨pb, 1, none⟩ (.int .i64 (i : Int)) (by simp) (by decide) (by rfl) (fun w hw => ?_)) ?_
    rotate_left
    · go_simp; try (with_reducible rfl)
    try simp only [Act.put, List.getElem_toArray, List.getElem_cons_succ, List.getElem_cons_zero, List.setIfInBounds_toArray, List.set_cons_zero, List.set_cons_succ]
    refine GoG.take (i := 8) (v := ?_) [] rfl (by kernel_rfl) (by kernel_rfl) (by kernel_rfl) (by kernel_rfl) (by kernel_rfl) (by kernel_rfl) (fun _ _ _ h => h) (yields_free (by rfl) (fun w => ?_)) ?_
    rotate_left
    · go_simp; try (with_reducible rfl)
    try simp only [Act.put, List.getElem_toArray, List.getElem_cons_succ, List.getElem_cons_zero, List.setIfInBounds_toArray, List.set_cons_zero, List.set_cons_succ]
    refine GoG.two (i := 9) (j := 10) rfl rfl (by kernel_rfl) (fun K hK => ?_) (fun K hK => ?_)
    · go_simp
      refine hK.out _ _ (Keeps.cons (by first | exact (old1 _ _ hq1).trans x0 | exact (old2 _ _ _ hq1).trans x0) (Keeps.cons (by first | exact (old1 _ _ hpl1).trans c0 | exact (old2 _ _ _ hpl1).trans c0) (Keeps.cons (by first | exact (old1 _ _ hpl1).trans c1 | exact (old2 _ _ _ hpl1).trans c1) Keeps.nil))) ?_
      clear hK K
      refine GoG.one (i := 10) rfl (by kernel_rfl) (fun K hK => ?_)
      go_simp
      refine hK.out _ _ (Keeps.cons (by first | exact (old1 _ _ hq1).trans x0 | exact (old2 _ _ _ hq1).trans x0) (Keeps.cons (by first | exact (old1 _ _ hpl1).trans c0 | exact (old2 _ _ _ hpl1).trans c0) (Keeps.cons (by first | exact (old1 _ _ hpl1).trans c1 | exact (old2 _ _ _ hpl1).trans c1) Keeps.nil))) ?_
      clear hK K
      refine GoG.one (i := 11) rfl (by kernel_rfl) (fun K hK => ?_)
      go_simp
      refine hK.out _ _ (Keeps.cons (by first | exact (old1 _ _ hq1).trans x0 | exact (old2 _ _ _ hq1).trans x0) (Keeps.cons (by first | exact (old1 _ _ hpl1).trans c0 | exact (old2 _ _ _ hpl1).trans c0) (Keeps.cons (by first | exact (old1 _ _ hpl1).trans c1 | exact (old2 _ _ _ hpl1).trans c1) Keeps.nil))) ?_
      clear hK K
      refine GoG.one (i := 12) rfl (by kernel_rfl) (fun K hK => ?_)
      go_simp
      refine hK.out _ _ (Keeps.up (by rfl) (Keeps.up (by rfl) (Keeps.up (by rfl) Keeps.nil))) ?_
      clear hK K
      refine GoG.done (by kernel_rfl) ?_ _
      go_wp2_with fail
      go_meet
      exact ⟨_, _, rfl, rfl, Lib.hid ⟨Nat.le_succ _, Nat.ne_of_lt (Nat.lt_succ_self _)⟩, Lib.hid (two_blocks w1 _ _ _ _).1, Lib.hid (two_blocks w1 _ _ _ _).2.1, Lib.hid (two_blocks w1 _ _ _ _).2.2⟩
    · go_simp
      refine hK.out _ _ (Keeps.cons (by first | exact (old1 _ _ hq1).trans x0 | exact (old2 _ _ _ hq1).trans x0) (Keeps.cons (by first | exact (old1 _ _ hpl1).trans c0 | exact (old2 _ _ _ hpl1).trans c0) (Keeps.cons (by first | exact (old1 _ _ hpl1).trans c1 | exact (old2 _ _ _ hpl1).trans c1) Keeps.nil))) ?_
      clear hK K
      refine GoG.one (i := 9) rfl (by kernel_rfl) (fun K hK => ?_)
      go_simp
      refine hK.out _ _ (Keeps.cons (by first | exact (old1 _ _ hq1).trans x0 | exact (old2 _ _ _ hq1).trans x0) (Keeps.cons (by first | exact (old1 _ _ hpl1).trans c0 | exact (old2 _ _ _ hpl1).trans c0) (Keeps.cons (by first | exact (old1 _ _ hpl1).trans c1 | exact (old2 _ _ _ hpl1).trans c1) Keeps.nil))) ?_
      clear hK K
      refine GoG.one (i := 11) rfl (by kernel_rfl) (fun K hK => ?_)
      go_simp
      refine hK.out _ _ (Keeps.cons (by first | exact (old1 _ _ hq1).trans x0 | exact (old2 _ _ _ hq1).trans x0) (Keeps.cons (by first | exact (old1 _ _ hpl1).trans c0 | exact (old2 _ _ _ hpl1).trans c0) (Keeps.cons (by first | exact (old1 _ _ hpl1).trans c1 | exact (old2 _ _ _ hpl1).trans c1) Keeps.nil))) ?_
      clear hK K
      refine GoG.one (i := 12) rfl (by kernel_rfl) (fun K hK => ?_)
      go_simp
      refine hK.out _ _ (Keeps.up (by rfl) (Keeps.up (by rfl) (Keeps.up (by rfl) Keeps.nil))) ?_
      clear hK K
      refine GoG.done (by kernel_rfl) ?_ _
      go_wp2_with fail
      go_meet
      exact ⟨_, _, rfl, rfl, Lib.hid ⟨Nat.le_refl _, Nat.ne_of_gt (Nat.lt_succ_self _)⟩, Lib.hid (two_blocks w1 _ _ _ _).2.1, Lib.hid (two_blocks w1 _ _ _ _).1, Lib.hid (two_blocks w1 _ _ _ _).2.2⟩
  case rest =>
    obtain ⟨a, b, rfl, rfl, HAB, KA, KB, BX⟩ := hcut
    have hcQ := HQ.out
    subst hcQ
    have HPc := Lib.hid (HP.out.below BX.out)
    have x1 := (BX.out.cell (p := ⟨w.heap.size, 0, none⟩) hq1).trans x0
    have d0 := HPc.out.cells.1
    have d1 := HPc.out.cells.2
    have hEn := end_quoted s i w.heap.size a b pb c R wc x1 KA.out KB.out d0 d1 (Nat.lt_of_lt_of_le hq1 HAB.out.1) HAB.out.2 (Nat.lt_of_lt_of_le hpl1 HAB.out.1) w1.heap.size HAB.out.1 hs hi h10 h96 HRR.out
    unfold ptr at hEn
    have HEn := Lib.hid hEn
    have HPX := Lib.hid HP.out
    have HX0 := Lib.hid x0
    clear hEn x0 c0 c1 KA KB
    go_wp2_with fail
    refine HEn.out.mono ?_
    rintro x w5 ⟨⟨e, rfl, he1, he2, hw⟩, bb⟩
    have BX5 := BX.out.trans bb
    have HP5 := Lib.hid (HPX.out.below BX5)
    have B5 := Lib.hid (BB.out.trans (BX5.mono (Nat.le_trans hlow (Nat.le_of_lt hpl1))))
    have x5 := (BX5.cell (p := ⟨w.heap.size, 0, none⟩) hq1).trans HX0.out
    clear bb BX5 HEn x1 d0 d1
    have d0 := HP5.out.cells.1
    have d1 := HP5.out.cells.2
    rcases hw with ⟨h1, h2⟩ | ⟨h1, h2, h3⟩ | ⟨h1, h2, h3⟩
    · have HG := Lib.hid (show quoG c R = ⟨0, 0, 5⟩ by rw [h2]; rfl)
      have g : ((e : Int) == (s.size : Int)) = true := by rw [beq_iff_eq]; omega
      have g2 : (e == s.size) = true := by rw [beq_iff_eq]; exact h1
      clear h1 h2
      go_wp2_with fail
      go_ret
      unfold TokP
      rw [HG.out]
      exact ⟨rfl, fun h => absurd h (by decide), fun _ => HP5.out, B5.out⟩
    · have HG := Lib.hid (show quoG c R = ⟨0, 0, 5⟩ by rw [h3]; rfl)
      have g : ((e : Int) == (s.size : Int)) = false := by rw [beq_eq_false_iff_ne]; omega
      have g2 : (e == s.size) = false := by rw [beq_eq_false_iff_ne]; omega
      obtain ⟨y, hy⟩ : ∃ y : Int, (s[e].toNat : Int) = y := ⟨_, rfl⟩
      have gy : (y == 10) = true := by rw [beq_iff_eq, ← hy, ← byteAt_eq h1]; exact h2
      clear h2 h3
      go_wp2_with fail
      go_ret
      unfold TokP
      rw [HG.out]
      exact ⟨rfl, fun h => absurd h (by decide), fun _ => HP5.out, B5.out⟩
    · have HG := Lib.hid (show quoG c R = ⟨kd, e + 1, 0⟩ by rw [h3, HKD.out]; rfl)
      have g : ((e : Int) == (s.size : Int)) = false := by rw [beq_eq_false_iff_ne]; omega
      have g2 : (e == s.size) = false := by rw [beq_eq_false_iff_ne]; omega
      obtain ⟨y, hy⟩ : ∃ y : Int, (s[e].toNat : Int) = y := ⟨_, rfl⟩
      have gy : (y == 10) = false := by rw [beq_eq_false_iff_ne, ← hy, ← byteAt_eq h1]; exact h2
      have TK := fun w' (h : PS w' B pb s i l) => take_any w' B pb s i l h kd (e + 1) (by omega) (by omega) hs hl
      have hcast : ((e + 1 : Nat) : Int) = (e : Int) + 1 := by omega
      unfold ptr at TK
      simp only [hcast] at TK
      have TKK := Lib.hid TK
      clear h2 h3 TK hcast
      go_wp2_with fail
      refine (TKK.out _ HP5.out).mono ?_
      rintro x w6 ⟨rfl, hp3, hb3⟩
      have HP3 := Lib.hid hp3
      have B3 := Lib.hid (B5.out.trans hb3)
      clear hp3 hb3
      go_wp2_with fail
      go_ret
      unfold TokP
      rw [HG.out]
      exact ⟨rfl, fun _ => HP3.out, fun h => absurd rfl h, B3.out⟩
end Go.Proofs.Ytjhgibdebcapfaa
