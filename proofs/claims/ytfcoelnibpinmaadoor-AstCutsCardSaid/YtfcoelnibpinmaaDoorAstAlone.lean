/- The program's alone: a table of how many kids each kind may have. -/
import Derived.Test.YtfcoelnibpinmaaDoorAstKids
namespace Go.Proofs.YtfcoelnibpinmaaDoor
open Go.RowKit

/-- How many kids a kind has, at least and at most. -/
def CT : List (Int × Int) := [(0, 0), (0, 0), (0, 0), (0, 0), (0, 0), (0, 0), (1, 1), (1, 2000), (2, 2000), (1, 1), (2, 2), (1, 1), (1, 1), (2, 2), (2, 2), (1, 2000), (0, 2000), (0, 2000), (1, 1), (1, 1), (1, 1), (1, 2000), (1, 1), (2, 2), (2, 2), (2, 2), (0, 2000), (1, 1), (4, 4), (1, 1), (1, 1), (0, 0), (0, 2000)]
def Counts (w : World) : Prop := ∀ k, k < 33 → w.cell? ⟨0, k * 2, none⟩ = some (.int .i64 (CT.getD k (0, 0)).1) ∧ w.cell? ⟨0, k * 2 + 1, none⟩ = some (.int .i64 (CT.getD k (0, 0)).2)
theorem cell_lt {w : World} {b o : Nat} {v : Value} (h : w.cell? ⟨b, o, none⟩ = some v) : b < w.heap.size := by
  rcases Nat.lt_or_ge b w.heap.size with h1 | h1
  · exact h1
  · exfalso
    unfold World.cell? at h
    rw [Array.getElem?_eq_none (by simpa using h1)] at h
    cases h
theorem Counts.below {w w' : World} (h : Counts w) (hb : Below w.heap.size w w') : Counts w' := fun k hk => by
  obtain ⟨h1, h2⟩ := h k hk
  exact ⟨by rw [hb.cell (p := ⟨_, k * 2, none⟩) (cell_lt h1)]; exact h1, by rw [hb.cell (p := ⟨_, k * 2 + 1, none⟩) (cell_lt h2)]; exact h2⟩
theorem kids_tab (k n : Nat) (hk : k < 33) (hn : n ≤ 2000) : (decide ((CT.getD k (0, 0)).1 ≤ n) && decide ((n : Int) ≤ (CT.getD k (0, 0)).2)) = kidsOk k n := by
  rw [Bool.eq_iff_iff]
  match k, hk with
  | 0, _ => simp [kidsOk, hasB, CT] <;> omega
  | 1, _ => simp [kidsOk, hasB, CT] <;> omega
  | 2, _ => simp [kidsOk, hasB, CT] <;> omega
  | 3, _ => simp [kidsOk, hasB, CT] <;> omega
  | 4, _ => simp [kidsOk, hasB, CT] <;> omega
  | 5, _ => simp [kidsOk, hasB, CT] <;> omega
  | 6, _ => simp [kidsOk, hasB, CT] <;> omega
  | 7, _ => simp [kidsOk, hasB, CT] <;> omega
  | 8, _ => simp [kidsOk, hasB, CT] <;> omega
  | 9, _ => simp [kidsOk, hasB, CT] <;> omega
  | 10, _ => simp [kidsOk, hasB, CT] <;> omega
  | 11, _ => simp [kidsOk, hasB, CT] <;> omega
  | 12, _ => simp [kidsOk, hasB, CT] <;> omega
  | 13, _ => simp [kidsOk, hasB, CT] <;> omega
  | 14, _ => simp [kidsOk, hasB, CT] <;> omega
  | 15, _ => simp [kidsOk, hasB, CT] <;> omega
  | 16, _ => simp [kidsOk, hasB, CT] <;> omega
  | 17, _ => simp [kidsOk, hasB, CT] <;> omega
  | 18, _ => simp [kidsOk, hasB, CT] <;> omega
  | 19, _ => simp [kidsOk, hasB, CT] <;> omega
  | 20, _ => simp [kidsOk, hasB, CT] <;> omega
  | 21, _ => simp [kidsOk, hasB, CT] <;> omega
  | 22, _ => simp [kidsOk, hasB, CT] <;> omega
  | 23, _ => simp [kidsOk, hasB, CT] <;> omega
  | 24, _ => simp [kidsOk, hasB, CT] <;> omega
  | 25, _ => simp [kidsOk, hasB, CT] <;> omega
  | 26, _ => simp [kidsOk, hasB, CT] <;> omega
  | 27, _ => simp [kidsOk, hasB, CT] <;> omega
  | 28, _ => simp [kidsOk, hasB, CT] <;> omega
  | 29, _ => simp [kidsOk, hasB, CT] <;> omega
  | 30, _ => simp [kidsOk, hasB, CT] <;> omega
  | 31, _ => simp [kidsOk, hasB, CT] <;> omega
  | 32, _ => simp [kidsOk, hasB, CT] <;> omega
  | k + 33, h => exact absurd h (by omega)
/-- A node that may be, but for where its kids are. -/
def aloneB (n : Nd) : Bool := decide (0 ≤ n.kind ∧ n.kind ≤ 32 ∧ 0 ≤ n.place ∧ n.place ≤ 4000) && kidsOk n.kind n.kids.length
theorem block4 {w : World} {x y z u : Value} {t : TypeId} : (w.alloc (.cells #[x, y, z, u] t)).cell? ⟨w.heap.size, 0, none⟩ = some x ∧ (w.alloc (.cells #[x, y, z, u] t)).cell? ⟨w.heap.size, 1, none⟩ = some y ∧ (w.alloc (.cells #[x, y, z, u] t)).cell? ⟨w.heap.size, 2, none⟩ = some z ∧ (w.alloc (.cells #[x, y, z, u] t)).cell? ⟨w.heap.size, 3, none⟩ = some u :=
  ⟨World.cell?_alloc_at _ _ _ _ rfl, World.cell?_alloc_at _ _ _ _ rfl, World.cell?_alloc_at _ _ _ _ rfl, World.cell?_alloc_at _ _ _ _ rfl⟩
set_option maxHeartbeats 4000000 in
theorem alone_any (kd : Int) (tx : ByteArray) (ks : List Int) (pl : Int) (ka : Option Addr) (kc : Nat) (w : World) (hC : Counts w) (hl : ks.length ≤ 2000) :
    Calls Tryd.prog 17 #[.agg #[.int .i64 kd, .string tx, .slice ka ks.length kc, .int .i64 pl]] w fun e w' => e = .returned (.bool (aloneB ⟨kd, tx, ks, pl⟩)) ∧ Below w.heap.size w w' := by
  obtain ⟨r, hr⟩ : ∃ r, aloneB ⟨kd, tx, ks, pl⟩ = r := ⟨_, rfl⟩
  have hr2 : r = (decide (0 ≤ kd ∧ kd ≤ 32 ∧ 0 ≤ pl ∧ pl ≤ 4000) && kidsOk kd ks.length) := hr.symm
  rw [hr]
  clear hr
  generalize ks.length = len at *
  have Hr := Lib.hid hr2
  clear hr2
  have B : Below w.heap.size w (w.alloc (.cells #[.int .i64 kd, .string tx, .slice ka len kc, .int .i64 pl] 37)) := (Below.refl _ _).alloc (Nat.le_refl _) _
  have hC2 := hC.below B
  obtain ⟨c0, c1, c2, c3⟩ := block4 (w := w) (x := .int .i64 kd) (y := .string tx) (z := .slice ka len kc) (u := .int .i64 pl) (t := 37)
  clear hC
  have no : ¬ (0 ≤ kd ∧ kd ≤ 32 ∧ 0 ≤ pl ∧ pl ≤ 4000) → r = false := fun h => by rw [Hr.out, decide_eq_false h, Bool.false_and]
  have No := Lib.hid no
  clear no
  rcases Int.lt_or_le kd 0 with h1 | h1
  · have hn := Lib.hid (No.out (by omega))
    go_enter Tryd.func17, Tryd.ntmps17
    go_wp2_with fail
    go_ret
    exact ⟨ret_bool hn.out.symm, B⟩
  rcases Int.lt_or_le 32 kd with h2 | h2
  · have hn := Lib.hid (No.out (by omega))
    go_enter Tryd.func17, Tryd.ntmps17
    go_wp2_with fail
    go_ret
    exact ⟨ret_bool hn.out.symm, B⟩
  rcases Int.lt_or_le pl 0 with h3 | h3
  · have hn := Lib.hid (No.out (by omega))
    go_enter Tryd.func17, Tryd.ntmps17
    go_wp2_with fail
    go_ret
    exact ⟨ret_bool hn.out.symm, B⟩
  rcases Int.lt_or_le 4000 pl with h4 | h4
  · have hn := Lib.hid (No.out (by omega))
    go_enter Tryd.func17, Tryd.ntmps17
    go_wp2_with fail
    go_ret
    exact ⟨ret_bool hn.out.symm, B⟩
  obtain ⟨k, rfl⟩ : ∃ k : Nat, kd = (k : Int) := ⟨kd.toNat, by omega⟩
  have hk : k < 33 := by omega
  obtain ⟨g0, g1⟩ := hC2 k hk
  have hres : r = (decide ((CT.getD k (0, 0)).1 ≤ len) && decide ((len : Int) ≤ (CT.getD k (0, 0)).2)) := by
    rw [kids_tab k len hk hl, Hr.out, decide_eq_true ⟨h1, h2, h3, h4⟩, Bool.true_and]
  generalize (CT.getD k (0, 0)).1 = lo at *
  generalize (CT.getD k (0, 0)).2 = hi at *
  have Hres := Lib.hid hres
  clear hres hC2
  by_cases h5 : lo ≤ (len : Int)
  · go_enter Tryd.func17, Tryd.ntmps17
    go_wp2_with fail
    go_ret
    exact ⟨ret_bool (by rw [Hres.out, decide_eq_true h5, Bool.true_and]), B.trans (((Below.refl _ _).alloc (Nat.le_refl _) _).mono B.size)⟩
  · go_enter Tryd.func17, Tryd.ntmps17
    go_wp2_with fail
    go_ret
    exact ⟨ret_bool (by rw [Hres.out, decide_eq_false (by omega), Bool.false_and]), B.trans (((Below.refl _ _).alloc (Nat.le_refl _) _).mono B.size)⟩
end Go.Proofs.YtfcoelnibpinmaaDoor
