/- How many kids a kind may have: the reference's Kids, the program's alone. -/
import Derived.Test.YtfcoelnibpinmaaDoorAstBase
namespace Go.Proofs.YtfcoelnibpinmaaDoor
open Go.RowKit

def kidsOk (kind : Int) (n : Nat) : Bool :=
  if hasB kind [16, 17, 26, 32] then true else if hasB kind [6, 9, 11, 12, 18, 19, 20, 22, 27, 29, 30] then decide (n = 1) else if hasB kind [10, 13, 14, 23, 24, 25] then decide (n = 2) else if hasB kind [7, 15, 21] then decide (1 ≤ n) else
    if kind = 8 then decide (2 ≤ n) else if kind = 28 then decide (n = 4) else decide (n = 0)
theorem lit_row (w : World) (zs : List Int) (t : TypeId) : IRow (w.alloc (.cells (zs.map (Value.int .i64)).toArray t)) (some ⟨w.heap.size, 0, none⟩) zs := by
  refine .inr ⟨w.heap.size, 0, rfl, by simp, fun i hi => ?_⟩
  rw [World.cell?_alloc_at _ _ _ _ rfl]
  simp [List.getD_eq_getElem?_getD, hi]
theorem in_lit (n : Int) (zs : List Int) (w : World) (t : TypeId) (k : Nat) (hk : zs.length = k) (hm : k ≤ 9223372036854775806) :
    Calls Tryd.prog 27 #[.int .i64 n, .slice (some ⟨w.heap.size, 0, none⟩) k k] (w.alloc (.cells (zs.map (Value.int .i64)).toArray t)) fun e w' => e = .returned (.bool (hasB n zs)) ∧ Below w.heap.size w w' := by
  subst hk
  refine (in_any n _ zs.length zs _ (lit_row w zs t) hm).mono ?_
  rintro e w' ⟨h1, rfl⟩
  exact ⟨h1, (Below.refl _ _).alloc (Nat.le_refl _) _⟩
set_option maxHeartbeats 4000000 in
theorem kids_any (kind : Int) (n : Nat) (w : World) :
    Calls Tryd.prog 19 #[.int .i64 kind, .int .i64 n] w fun e w' => e = .returned (.bool (kidsOk kind n)) ∧ Below w.heap.size w w' := by
  have R0 := Lib.hid (fun (w : World) => in_lit kind [16, 17, 26, 32] w 3 4 rfl (by decide))
  have R1 := Lib.hid (fun (w : World) => in_lit kind [6, 9, 11, 12, 18, 19, 20, 22, 27, 29, 30] w 3 11 rfl (by decide))
  have R2 := Lib.hid (fun (w : World) => in_lit kind [10, 13, 14, 23, 24, 25] w 3 6 rfl (by decide))
  have R3 := Lib.hid (fun (w : World) => in_lit kind [7, 15, 21] w 3 3 rfl (by decide))
  obtain ⟨res, hres⟩ : ∃ r, kidsOk kind n = r := ⟨_, rfl⟩
  rw [hres]
  unfold kidsOk at hres
  generalize hasB kind [16, 17, 26, 32] = h0 at *
  generalize hasB kind [6, 9, 11, 12, 18, 19, 20, 22, 27, 29, 30] = h1 at *
  generalize hasB kind [10, 13, 14, 23, 24, 25] = h2 at *
  generalize hasB kind [7, 15, 21] = h3 at *
  have Hd := Lib.hid hres
  clear hres
  have B : Below w.heap.size w w := Below.refl _ _
  go_enter Tryd.func19, Tryd.ntmps19
  go_wp2_with fail
  refine (R0.out _).mono ?_
  rintro e W0 ⟨rfl, bq⟩
  have B := B.trans (bq.mono B.size)
  clear bq
  cases h0
  · go_wp2_with fail
    refine (R1.out _).mono ?_
    rintro e W1 ⟨rfl, bq⟩
    have B := B.trans (bq.mono B.size)
    clear bq
    cases h1
    · go_wp2_with fail
      refine (R2.out _).mono ?_
      rintro e W2 ⟨rfl, bq⟩
      have B := B.trans (bq.mono B.size)
      clear bq
      cases h2
      · go_wp2_with fail
        refine (R3.out _).mono ?_
        rintro e W3 ⟨rfl, bq⟩
        have B := B.trans (bq.mono B.size)
        clear bq
        cases h3
        · by_cases k8 : kind = 8
          · subst k8
            have Hr := Lib.hid (show res = decide (2 ≤ n) by rw [← Hd.out]; simp [*])
            clear Hd
            go_wp2_with fail
            go_ret
            exact ⟨ret_bool (by rw [Hr.out]; rw [Bool.eq_iff_iff]; simp; try omega), B⟩
          · by_cases k28 : kind = 28
            · subst k28
              have Hr := Lib.hid (show res = decide (n = 4) by rw [← Hd.out]; simp [*])
              clear Hd
              go_wp2_with fail
              go_ret
              exact ⟨ret_bool (by rw [Hr.out]; rw [Bool.eq_iff_iff]; simp; try omega), B⟩
            · have e8 : (kind == 8) = false := by rw [beq_eq_false_iff_ne]; exact k8
              have e28 : (kind == 28) = false := by rw [beq_eq_false_iff_ne]; exact k28
              have Hr := Lib.hid (show res = decide (n = 0) by rw [← Hd.out]; simp [*])
              clear Hd
              go_wp2_with fail
              go_ret
              exact ⟨ret_bool (by rw [Hr.out]; rw [Bool.eq_iff_iff]; simp; try omega), B⟩
        · have Hr := Lib.hid (show res = decide (1 ≤ n) by rw [← Hd.out]; simp)
          clear Hd
          go_wp2_with fail
          go_ret
          exact ⟨ret_bool (by rw [Hr.out]; try (rw [Bool.eq_iff_iff]; simp; try omega)), B⟩
      · have Hr := Lib.hid (show res = decide (n = 2) by rw [← Hd.out]; simp)
        clear Hd
        go_wp2_with fail
        go_ret
        exact ⟨ret_bool (by rw [Hr.out]; try (rw [Bool.eq_iff_iff]; simp; try omega)), B⟩
    · have Hr := Lib.hid (show res = decide (n = 1) by rw [← Hd.out]; simp)
      clear Hd
      go_wp2_with fail
      go_ret
      exact ⟨ret_bool (by rw [Hr.out]; try (rw [Bool.eq_iff_iff]; simp; try omega)), B⟩
  · have Hr := Lib.hid (show res = true by rw [← Hd.out]; simp)
    clear Hd
    go_wp2_with fail
    go_ret
    exact ⟨ret_bool (by rw [Hr.out]; try rfl), B⟩
end Go.Proofs.YtfcoelnibpinmaaDoor
