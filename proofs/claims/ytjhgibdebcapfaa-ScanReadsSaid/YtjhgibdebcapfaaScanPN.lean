/- The program's name and raw. -/
import Derived.Test.YtjhgibdebcapfaaScanPB
namespace Go.Proofs.Ytjhgibdebcapfaa
open Go.RowKit
set_option linter.unusedSimpArgs false
set_option linter.unusedVariables false

/-- What a step that takes a token leaves. -/
def TokP (w w' : World) (B pb : Nat) (s : ByteArray) (i : Nat) (l : List Tk) (g : Got) (en : Ending) : Prop :=
  en = .returned (.int .i64 g.err) ∧ (g.err = 0 → PS w' B pb s g.stop (l ++ [⟨g.kind, s.extract i g.stop, i⟩])) ∧ (g.err ≠ 0 → PS w' B pb s i l) ∧ Below B w w'
set_option maxHeartbeats 16000000 in
set_option maxRecDepth 100000 in
theorem pname_any (w : World) (B pb : Nat) (s : ByteArray) (i : Nat) (l : List Tk) (h : PS w B pb s i l) (hs : s.size ≤ 4010) (hi : i < s.size) (hl : l.length ≤ 20000) (hc : inB (byteAt s i) = true) :
    Calls Try.prog 23 #[ptr pb] w fun en w' => TokP w w' B pb s i l (nameT s i) en := by
  have hpl := h.lt
  have hlow := h.low
  have hcc := h.cells
  obtain ⟨w1, hw⟩ : ∃ w1, w.alloc (.cells #[.pointer (some ⟨pb, 0, none⟩)] 49) = w1 := ⟨_, rfl⟩
  obtain ⟨k1, q1, z1⟩ := box_new hw
  have HP := Lib.hid (h.below q1)
  have BB := Lib.hid (q1.mono (show B ≤ w.heap.size from Nat.le_trans hlow (Nat.le_of_lt hpl)))
  have x0 := k1.cell 0
  simp only [List.getElem?_toArray, List.getElem?_cons_zero] at x0
  have c0 := HP.out.cells.1
  have c1 := HP.out.cells.2
  have HEn := Lib.hid (end_name s i pb w.heap.size w1 x0 c0 c1 hs hi)
  obtain ⟨e, he⟩ : ∃ e, run (fun k => inB (byteAt s k)) s.size i = e := ⟨_, rfl⟩
  have he1 : run (fun k => inB (byteAt s k)) s.size (i + 1) = e := by rw [← he]; exact (run_step hi hc).symm
  have hEn := HEn.out
  rw [he1] at hEn
  have HEn := Lib.hid hEn
  have e1 : i + 1 ≤ e := by rw [← he1]; exact le_run
  have e2 : e ≤ s.size := by rw [← he]; exact run_le (by omega)
  have HT : nameT s i = (if 20 < e - i then ⟨0, 0, 7⟩ else if keyB (s.extract i e) = true then ⟨7, e, 0⟩ else ⟨1, e, 0⟩) := by unfold nameT; rw [he]
  have hieI : (i : Int) ≤ (e : Int) := by omega
  have hesI : (e : Int) ≤ (s.size : Int) := by omega
  have HKey := fun w' => key_any (s.extract i e) w'
  have TK := fun (kd : Int) w' (h : PS w' B pb s i l) => Lib.hid (take_any w' B pb s i l h kd e (by omega) e2 hs hl)
  unfold ptr at *
  clear h he he1 hcc k1 q1 z1 hEn
  by_cases h20 : 20 < e - i
  · have h21 : (20 : Int) < (e : Int) - (i : Int) := by omega
    rw [if_pos h20] at HT
    have HTT := Lib.hid HT
    clear HT TK h20
    cases hk : keyB (s.extract i e) <;> simp only [hk] at HKey <;> have HK := Lib.hid HKey <;> clear HKey hk
    all_goals
      go_enter Try.func23, Try.ntmps23
      go_wp2_with fail
      clear hw
      refine HEn.out.mono ?_
      rintro x w' ⟨rfl, rfl⟩
      go_wp2_with fail
      refine GoG.start [(10, ⟨w.heap.size, 0, none⟩, .pointer (some ⟨pb, 0, none⟩)), (10, ⟨pb, 0, none⟩, .string s), (10, ⟨pb, 1, none⟩, .int .i64 (i : Int))] (by kernel_rfl) ?_ ?_
      · exact Keeps.cons (by first | assumption | simp [*]) (Keeps.cons (by first | assumption | simp [*]) (Keeps.cons (by first | assumption | simp [*]) (Keeps.nil)))
      refine GoG.take (i := 0) (v := ?_) [1, 2, 3, 9, 10] rfl (by kernel_rfl) (by kernel_rfl) (by kernel_rfl) (by kernel_rfl) (by kernel_rfl) (by kernel_rfl) (fun _ _ _ h => h) (yields_load 10 ⟨w.heap.size, 0, none⟩ (.pointer (some ⟨pb, 0, none⟩)) (by simp) (by decide) (by rfl) (fun w hw => ?_)) ?_
      rotate_left
      · go_simp; try (with_reducible rfl)
      try simp only [Act.put, List.setIfInBounds_toArray, List.set_cons_zero, List.set_cons_succ]
      refine GoG.take (i := 1) (v := ?_) [] rfl (by kernel_rfl) (by kernel_rfl) (by kernel_rfl) (by kernel_rfl) (by kernel_rfl) (by kernel_rfl) (fun _ _ _ h => h) (yields_free (by rfl) (fun w => ?_)) ?_
      rotate_left
      · go_simp; try (with_reducible rfl)
      try simp only [Act.put, List.setIfInBounds_toArray, List.set_cons_zero, List.set_cons_succ]
      refine GoG.take (i := 2) (v := ?_) [] rfl (by kernel_rfl) (by kernel_rfl) (by kernel_rfl) (by kernel_rfl) (by kernel_rfl) (by kernel_rfl) (fun _ _ _ h => h) (yields_free (by rfl) (fun w => ?_)) ?_
      rotate_left
      · go_simp; try (with_reducible rfl)
      try simp only [Act.put, List.setIfInBounds_toArray, List.set_cons_zero, List.set_cons_succ]
      refine GoG.take (i := 3) (v := ?_) [9, 10] rfl (by kernel_rfl) (by kernel_rfl) (by kernel_rfl) (by kernel_rfl) (by kernel_rfl) (by kernel_rfl) (fun _ _ _ h => h) (yields_load 10 ⟨pb, 0, none⟩ (.string s) (by simp) (by decide) (by rfl) (fun w hw => ?_)) ?_
      rotate_left
      · go_simp; try (with_reducible rfl)
      try simp only [Act.put, List.setIfInBounds_toArray, List.set_cons_zero, List.set_cons_succ]
      refine GoG.take (i := 4) (v := ?_) [5, 6, 7, 9, 10] rfl (by kernel_rfl) (by kernel_rfl) (by kernel_rfl) (by kernel_rfl) (by kernel_rfl) (by kernel_rfl) (fun _ _ _ h => h) (yields_load 10 ⟨w.heap.size, 0, none⟩ (.pointer (some ⟨pb, 0, none⟩)) (by simp) (by decide) (by rfl) (fun w hw => ?_)) ?_
      rotate_left
      · go_simp; try (with_reducible rfl)
      try simp only [Act.put, List.setIfInBounds_toArray, List.set_cons_zero, List.set_cons_succ]
      refine GoG.take (i := 5) (v := ?_) [] rfl (by kernel_rfl) (by kernel_rfl) (by kernel_rfl) (by kernel_rfl) (by kernel_rfl) (by kernel_rfl) (fun _ _ _ h => h) (yields_free (by rfl) (fun w => ?_)) ?_
      rotate_left
      · go_simp; try (with_reducible rfl)
      try simp only [Act.put, List.setIfInBounds_toArray, List.set_cons_zero, List.set_cons_succ]
      refine GoG.take (i := 6) (v := ?_) [] rfl (by kernel_rfl) (by kernel_rfl) (by kernel_rfl) (by kernel_rfl) (by kernel_rfl) (by kernel_rfl) (fun _ _ _ h => h) (yields_free (by rfl) (fun w => ?_)) ?_
      rotate_left
      · go_simp; try (with_reducible rfl)
      try simp only [Act.put, List.setIfInBounds_toArray, List.set_cons_zero, List.set_cons_succ]
      refine GoG.take (i := 7) (v := ?_) [9, 10] rfl (by kernel_rfl) (by kernel_rfl) (by kernel_rfl) (by kernel_rfl) (by kernel_rfl) (by kernel_rfl) (fun _ _ _ h => h) (yields_load 10 ⟨pb, 1, none⟩ (.int .i64 (i : Int)) (by simp) (by decide) (by rfl) (fun w hw => ?_)) ?_
      rotate_left
      · go_simp; try (with_reducible rfl)
      try simp only [Act.put, List.setIfInBounds_toArray, List.set_cons_zero, List.set_cons_succ]
      refine GoG.take (i := 8) (v := ?_) [] rfl (by kernel_rfl) (by kernel_rfl) (by kernel_rfl) (by kernel_rfl) (by kernel_rfl) (by kernel_rfl) (fun _ _ _ h => h) (yields_free (by rfl) (fun w => ?_)) ?_
      rotate_left
      · go_simp; try (with_reducible rfl)
      try simp only [Act.put, List.setIfInBounds_toArray, List.set_cons_zero, List.set_cons_succ]
      refine GoG.take (i := 9) (v := ?_) [] rfl (by kernel_rfl) (by kernel_rfl) (by kernel_rfl) (by kernel_rfl) (by kernel_rfl) (by kernel_rfl) (fun _ _ _ h => h) (yields_free (by rfl) (fun w => ?_)) ?_
      rotate_left
      · go_simp; try (with_reducible rfl)
      try simp only [Act.put, List.setIfInBounds_toArray, List.set_cons_zero, List.set_cons_succ]
      refine GoG.one (i := 10) rfl (by kernel_rfl) (fun K hK => ?_)
      go_simp
      refine (HK.out _).mono ?_
      rintro x w' ⟨rfl, rfl⟩
      refine hK.out _ _ (Keeps.up (by rfl) (Keeps.up (by rfl) (Keeps.up (by rfl) (Keeps.nil)))) ?_
      clear hK K
      refine GoG.done (by kernel_rfl) ?_ _
      go_wp2_with fail
      go_ret
      unfold TokP
      rw [HTT.out]
      exact ⟨rfl, fun h => absurd h (by decide), fun _ => HP.out.below ((Below.refl _ _).drew), BB.out.drew⟩
  · have h21 : ¬ (20 : Int) < (e : Int) - (i : Int) := by omega
    rw [if_neg h20] at HT
    clear h20
    cases hk : keyB (s.extract i e) <;> simp only [hk] at HKey <;> rw [hk] at HT <;> have HK := Lib.hid HKey <;> have HTT := Lib.hid HT <;> clear HKey hk HT
    · go_enter Try.func23, Try.ntmps23
      go_wp2_with fail
      clear hw
      refine HEn.out.mono ?_
      rintro x w' ⟨rfl, rfl⟩
      go_wp2_with fail
      refine GoG.start [(10, ⟨w.heap.size, 0, none⟩, .pointer (some ⟨pb, 0, none⟩)), (10, ⟨pb, 0, none⟩, .string s), (10, ⟨pb, 1, none⟩, .int .i64 (i : Int))] (by kernel_rfl) ?_ ?_
      · exact Keeps.cons (by first | assumption | simp [*]) (Keeps.cons (by first | assumption | simp [*]) (Keeps.cons (by first | assumption | simp [*]) (Keeps.nil)))
      refine GoG.take (i := 0) (v := ?_) [1, 2, 3, 9, 10] rfl (by kernel_rfl) (by kernel_rfl) (by kernel_rfl) (by kernel_rfl) (by kernel_rfl) (by kernel_rfl) (fun _ _ _ h => h) (yields_load 10 ⟨w.heap.size, 0, none⟩ (.pointer (some ⟨pb, 0, none⟩)) (by simp) (by decide) (by rfl) (fun w hw => ?_)) ?_
      rotate_left
      · go_simp; try (with_reducible rfl)
      try simp only [Act.put, List.setIfInBounds_toArray, List.set_cons_zero, List.set_cons_succ]
      refine GoG.take (i := 1) (v := ?_) [] rfl (by kernel_rfl) (by kernel_rfl) (by kernel_rfl) (by kernel_rfl) (by kernel_rfl) (by kernel_rfl) (fun _ _ _ h => h) (yields_free (by rfl) (fun w => ?_)) ?_
      rotate_left
      · go_simp; try (with_reducible rfl)
      try simp only [Act.put, List.setIfInBounds_toArray, List.set_cons_zero, List.set_cons_succ]
      refine GoG.take (i := 2) (v := ?_) [] rfl (by kernel_rfl) (by kernel_rfl) (by kernel_rfl) (by kernel_rfl) (by kernel_rfl) (by kernel_rfl) (fun _ _ _ h => h) (yields_free (by rfl) (fun w => ?_)) ?_
      rotate_left
      · go_simp; try (with_reducible rfl)
      try simp only [Act.put, List.setIfInBounds_toArray, List.set_cons_zero, List.set_cons_succ]
      refine GoG.take (i := 3) (v := ?_) [9, 10] rfl (by kernel_rfl) (by kernel_rfl) (by kernel_rfl) (by kernel_rfl) (by kernel_rfl) (by kernel_rfl) (fun _ _ _ h => h) (yields_load 10 ⟨pb, 0, none⟩ (.string s) (by simp) (by decide) (by rfl) (fun w hw => ?_)) ?_
      rotate_left
      · go_simp; try (with_reducible rfl)
      try simp only [Act.put, List.setIfInBounds_toArray, List.set_cons_zero, List.set_cons_succ]
      refine GoG.take (i := 4) (v := ?_) [5, 6, 7, 9, 10] rfl (by kernel_rfl) (by kernel_rfl) (by kernel_rfl) (by kernel_rfl) (by kernel_rfl) (by kernel_rfl) (fun _ _ _ h => h) (yields_load 10 ⟨w.heap.size, 0, none⟩ (.pointer (some ⟨pb, 0, none⟩)) (by simp) (by decide) (by rfl) (fun w hw => ?_)) ?_
      rotate_left
      · go_simp; try (with_reducible rfl)
      try simp only [Act.put, List.setIfInBounds_toArray, List.set_cons_zero, List.set_cons_succ]
      refine GoG.take (i := 5) (v := ?_) [] rfl (by kernel_rfl) (by kernel_rfl) (by kernel_rfl) (by kernel_rfl) (by kernel_rfl) (by kernel_rfl) (fun _ _ _ h => h) (yields_free (by rfl) (fun w => ?_)) ?_
      rotate_left
      · go_simp; try (with_reducible rfl)
      try simp only [Act.put, List.setIfInBounds_toArray, List.set_cons_zero, List.set_cons_succ]
      refine GoG.take (i := 6) (v := ?_) [] rfl (by kernel_rfl) (by kernel_rfl) (by kernel_rfl) (by kernel_rfl) (by kernel_rfl) (by kernel_rfl) (fun _ _ _ h => h) (yields_free (by rfl) (fun w => ?_)) ?_
      rotate_left
      · go_simp; try (with_reducible rfl)
      try simp only [Act.put, List.setIfInBounds_toArray, List.set_cons_zero, List.set_cons_succ]
      refine GoG.take (i := 7) (v := ?_) [9, 10] rfl (by kernel_rfl) (by kernel_rfl) (by kernel_rfl) (by kernel_rfl) (by kernel_rfl) (by kernel_rfl) (fun _ _ _ h => h) (yields_load 10 ⟨pb, 1, none⟩ (.int .i64 (i : Int)) (by simp) (by decide) (by rfl) (fun w hw => ?_)) ?_
      rotate_left
      · go_simp; try (with_reducible rfl)
      try simp only [Act.put, List.setIfInBounds_toArray, List.set_cons_zero, List.set_cons_succ]
      refine GoG.take (i := 8) (v := ?_) [] rfl (by kernel_rfl) (by kernel_rfl) (by kernel_rfl) (by kernel_rfl) (by kernel_rfl) (by kernel_rfl) (fun _ _ _ h => h) (yields_free (by rfl) (fun w => ?_)) ?_
      rotate_left
      · go_simp; try (with_reducible rfl)
      try simp only [Act.put, List.setIfInBounds_toArray, List.set_cons_zero, List.set_cons_succ]
      refine GoG.take (i := 9) (v := ?_) [] rfl (by kernel_rfl) (by kernel_rfl) (by kernel_rfl) (by kernel_rfl) (by kernel_rfl) (by kernel_rfl) (fun _ _ _ h => h) (yields_free (by rfl) (fun w => ?_)) ?_
      rotate_left
      · go_simp; try (with_reducible rfl)
      try simp only [Act.put, List.setIfInBounds_toArray, List.set_cons_zero, List.set_cons_succ]
      refine GoG.one (i := 10) rfl (by kernel_rfl) (fun K hK => ?_)
      go_simp
      refine (HK.out _).mono ?_
      rintro x w' ⟨rfl, rfl⟩
      refine hK.out _ _ (Keeps.up (by rfl) (Keeps.up (by rfl) (Keeps.up (by rfl) (Keeps.nil)))) ?_
      clear hK K
      refine GoG.done (by kernel_rfl) ?_ _
      go_wp2_with fail
      refine (TK 1 _ (HP.out.below ((Below.refl _ _).drew))).out.mono ?_
      rintro x w3 ⟨rfl, hp3, hb3⟩
      have HP3 := Lib.hid hp3
      have B3 := Lib.hid (BB.out.drew.trans hb3)
      clear hp3 hb3
      go_wp2_with fail
      go_ret
      unfold TokP
      rw [HTT.out]
      exact ⟨rfl, fun _ => HP3.out, fun h => absurd rfl h, B3.out⟩
    · go_enter Try.func23, Try.ntmps23
      go_wp2_with fail
      clear hw
      refine HEn.out.mono ?_
      rintro x w' ⟨rfl, rfl⟩
      go_wp2_with fail
      refine GoG.start [(10, ⟨w.heap.size, 0, none⟩, .pointer (some ⟨pb, 0, none⟩)), (10, ⟨pb, 0, none⟩, .string s), (10, ⟨pb, 1, none⟩, .int .i64 (i : Int))] (by kernel_rfl) ?_ ?_
      · exact Keeps.cons (by first | assumption | simp [*]) (Keeps.cons (by first | assumption | simp [*]) (Keeps.cons (by first | assumption | simp [*]) (Keeps.nil)))
      refine GoG.take (i := 0) (v := ?_) [1, 2, 3, 9, 10] rfl (by kernel_rfl) (by kernel_rfl) (by kernel_rfl) (by kernel_rfl) (by kernel_rfl) (by kernel_rfl) (fun _ _ _ h => h) (yields_load 10 ⟨w.heap.size, 0, none⟩ (.pointer (some ⟨pb, 0, none⟩)) (by simp) (by decide) (by rfl) (fun w hw => ?_)) ?_
      rotate_left
      · go_simp; try (with_reducible rfl)
      try simp only [Act.put, List.setIfInBounds_toArray, List.set_cons_zero, List.set_cons_succ]
      refine GoG.take (i := 1) (v := ?_) [] rfl (by kernel_rfl) (by kernel_rfl) (by kernel_rfl) (by kernel_rfl) (by kernel_rfl) (by kernel_rfl) (fun _ _ _ h => h) (yields_free (by rfl) (fun w => ?_)) ?_
      rotate_left
      · go_simp; try (with_reducible rfl)
      try simp only [Act.put, List.setIfInBounds_toArray, List.set_cons_zero, List.set_cons_succ]
      refine GoG.take (i := 2) (v := ?_) [] rfl (by kernel_rfl) (by kernel_rfl) (by kernel_rfl) (by kernel_rfl) (by kernel_rfl) (by kernel_rfl) (fun _ _ _ h => h) (yields_free (by rfl) (fun w => ?_)) ?_
      rotate_left
      · go_simp; try (with_reducible rfl)
      try simp only [Act.put, List.setIfInBounds_toArray, List.set_cons_zero, List.set_cons_succ]
      refine GoG.take (i := 3) (v := ?_) [9, 10] rfl (by kernel_rfl) (by kernel_rfl) (by kernel_rfl) (by kernel_rfl) (by kernel_rfl) (by kernel_rfl) (fun _ _ _ h => h) (yields_load 10 ⟨pb, 0, none⟩ (.string s) (by simp) (by decide) (by rfl) (fun w hw => ?_)) ?_
      rotate_left
      · go_simp; try (with_reducible rfl)
      try simp only [Act.put, List.setIfInBounds_toArray, List.set_cons_zero, List.set_cons_succ]
      refine GoG.take (i := 4) (v := ?_) [5, 6, 7, 9, 10] rfl (by kernel_rfl) (by kernel_rfl) (by kernel_rfl) (by kernel_rfl) (by kernel_rfl) (by kernel_rfl) (fun _ _ _ h => h) (yields_load 10 ⟨w.heap.size, 0, none⟩ (.pointer (some ⟨pb, 0, none⟩)) (by simp) (by decide) (by rfl) (fun w hw => ?_)) ?_
      rotate_left
      · go_simp; try (with_reducible rfl)
      try simp only [Act.put, List.setIfInBounds_toArray, List.set_cons_zero, List.set_cons_succ]
      refine GoG.take (i := 5) (v := ?_) [] rfl (by kernel_rfl) (by kernel_rfl) (by kernel_rfl) (by kernel_rfl) (by kernel_rfl) (by kernel_rfl) (fun _ _ _ h => h) (yields_free (by rfl) (fun w => ?_)) ?_
      rotate_left
      · go_simp; try (with_reducible rfl)
      try simp only [Act.put, List.setIfInBounds_toArray, List.set_cons_zero, List.set_cons_succ]
      refine GoG.take (i := 6) (v := ?_) [] rfl (by kernel_rfl) (by kernel_rfl) (by kernel_rfl) (by kernel_rfl) (by kernel_rfl) (by kernel_rfl) (fun _ _ _ h => h) (yields_free (by rfl) (fun w => ?_)) ?_
      rotate_left
      · go_simp; try (with_reducible rfl)
      try simp only [Act.put, List.setIfInBounds_toArray, List.set_cons_zero, List.set_cons_succ]
      refine GoG.take (i := 7) (v := ?_) [9, 10] rfl (by kernel_rfl) (by kernel_rfl) (by kernel_rfl) (by kernel_rfl) (by kernel_rfl) (by kernel_rfl) (fun _ _ _ h => h) (yields_load 10 ⟨pb, 1, none⟩ (.int .i64 (i : Int)) (by simp) (by decide) (by rfl) (fun w hw => ?_)) ?_
      rotate_left
      · go_simp; try (with_reducible rfl)
      try simp only [Act.put, List.setIfInBounds_toArray, List.set_cons_zero, List.set_cons_succ]
      refine GoG.take (i := 8) (v := ?_) [] rfl (by kernel_rfl) (by kernel_rfl) (by kernel_rfl) (by kernel_rfl) (by kernel_rfl) (by kernel_rfl) (fun _ _ _ h => h) (yields_free (by rfl) (fun w => ?_)) ?_
      rotate_left
      · go_simp; try (with_reducible rfl)
      try simp only [Act.put, List.setIfInBounds_toArray, List.set_cons_zero, List.set_cons_succ]
      refine GoG.take (i := 9) (v := ?_) [] rfl (by kernel_rfl) (by kernel_rfl) (by kernel_rfl) (by kernel_rfl) (by kernel_rfl) (by kernel_rfl) (fun _ _ _ h => h) (yields_free (by rfl) (fun w => ?_)) ?_
      rotate_left
      · go_simp; try (with_reducible rfl)
      try simp only [Act.put, List.setIfInBounds_toArray, List.set_cons_zero, List.set_cons_succ]
      refine GoG.one (i := 10) rfl (by kernel_rfl) (fun K hK => ?_)
      go_simp
      refine (HK.out _).mono ?_
      rintro x w' ⟨rfl, rfl⟩
      refine hK.out _ _ (Keeps.up (by rfl) (Keeps.up (by rfl) (Keeps.up (by rfl) (Keeps.nil)))) ?_
      clear hK K
      refine GoG.done (by kernel_rfl) ?_ _
      go_wp2_with fail
      refine (TK 7 _ (HP.out.below ((Below.refl _ _).drew))).out.mono ?_
      rintro x w3 ⟨rfl, hp3, hb3⟩
      have HP3 := Lib.hid hp3
      have B3 := Lib.hid (BB.out.drew.trans hb3)
      clear hp3 hb3
      go_wp2_with fail
      go_ret
      unfold TokP
      rw [HTT.out]
      exact ⟨rfl, fun _ => HP3.out, fun h => absurd rfl h, B3.out⟩
set_option maxHeartbeats 16000000 in
set_option maxRecDepth 100000 in
theorem praw_any (w : World) (B pb : Nat) (s : ByteArray) (i : Nat) (l : List Tk) (h : PS w B pb s i l) (hs : s.size ≤ 4010) (hi : i < s.size) (hl : l.length ≤ 20000) (e : Nat) (he : run (fun k => !decide (byteAt s k = 96)) s.size (i + 1) = e) :
    Calls Try.prog 27 #[ptr pb] w fun en w' => TokP w w' B pb s i l (if e = s.size then ⟨0, 0, 5⟩ else ⟨5, e + 1, 0⟩) en := by
  have hpl := h.lt
  have hlow := h.low
  have hcc := h.cells
  obtain ⟨w1, hw⟩ : ∃ w1, w.alloc (.cells #[.pointer (some ⟨pb, 0, none⟩)] 49) = w1 := ⟨_, rfl⟩
  obtain ⟨k1, q1, z1⟩ := box_new hw
  have HP := Lib.hid (h.below q1)
  have BB := Lib.hid (q1.mono (show B ≤ w.heap.size from Nat.le_trans hlow (Nat.le_of_lt hpl)))
  have x0 := k1.cell 0
  simp only [List.getElem?_toArray, List.getElem?_cons_zero] at x0
  have c0 := HP.out.cells.1
  have c1 := HP.out.cells.2
  have hEn := end_raw s i pb w.heap.size w1 x0 c0 c1 hs hi
  rw [he] at hEn
  have HEn := Lib.hid hEn
  have e1 : i + 1 ≤ e := by rw [← he]; exact le_run
  have e2 : e ≤ s.size := by rw [← he]; exact run_le (by omega)
  unfold ptr at *
  clear h he hcc k1 q1 z1 hEn
  by_cases hes : e = s.size
  · have g : ((e : Int) == (s.size : Int)) = true := by rw [beq_iff_eq]; omega
    have g2 : (e == s.size) = true := by rw [beq_iff_eq]; exact hes
    have HTT := Lib.hid (show (if e = s.size then (⟨0, 0, 5⟩ : Got) else ⟨5, e + 1, 0⟩) = ⟨0, 0, 5⟩ from if_pos hes)
    rw [HTT.out]
    clear hes HTT
    go_enter Try.func27, Try.ntmps27
    go_wp2_with fail
    clear hw
    refine HEn.out.mono ?_
    rintro x w' ⟨rfl, rfl⟩
    go_wp2_with fail
    go_ret
    exact ⟨rfl, fun h => absurd h (by decide), fun _ => HP.out, BB.out⟩
  · have g : ((e : Int) == (s.size : Int)) = false := by rw [beq_eq_false_iff_ne]; omega
    have g2 : (e == s.size) = false := by rw [beq_eq_false_iff_ne]; exact hes
    have HTT := Lib.hid (show (if e = s.size then (⟨0, 0, 5⟩ : Got) else ⟨5, e + 1, 0⟩) = ⟨5, e + 1, 0⟩ from if_neg hes)
    rw [HTT.out]
    have hes2 : e + 1 ≤ s.size := by omega
    have TK := fun w' (h : PS w' B pb s i l) => take_any w' B pb s i l h 5 (e + 1) (by omega) hes2 hs hl
    have hcast : ((e + 1 : Nat) : Int) = (e : Int) + 1 := by omega
    unfold ptr at TK
    simp only [hcast] at TK
    have TKK := Lib.hid TK
    clear hes HTT TK hcast
    go_enter Try.func27, Try.ntmps27
    go_wp2_with fail
    clear hw
    refine HEn.out.mono ?_
    rintro x w' ⟨rfl, rfl⟩
    go_wp2_with fail
    refine (TKK.out _ HP.out).mono ?_
    rintro x w3 ⟨rfl, hp3, hb3⟩
    have HP3 := Lib.hid hp3
    have B3 := Lib.hid (BB.out.trans hb3)
    clear hp3 hb3
    go_wp2_with fail
    go_ret
    exact ⟨rfl, fun _ => HP3.out, fun h => absurd rfl h, B3.out⟩
end Go.Proofs.Ytjhgibdebcapfaa
