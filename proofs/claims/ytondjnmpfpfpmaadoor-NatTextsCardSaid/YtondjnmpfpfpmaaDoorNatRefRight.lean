/- The reference's Right. -/
import Derived.Test.YtondjnmpfpfpmaaDoorNatRefMul
namespace Go.Proofs.YtondjnmpfpfpmaaDoor
open Go.RowKit NM

set_option maxHeartbeats 400000 in
theorem refright_any (ao : Option Addr) (cap : Nat) (xs : List Int) (w : World) (hr : Row w ao xs) (ux : U32s xs) (hm : xs.length ≤ 9223372036854775807) :
    Calls Tryd.prog 14 #[.slice ao xs.length cap] w fun e w' => e = .returned (.bool (rightB xs)) ∧ w = w' := by
  by_cases h0 : xs.length = 0
  · have hz := Lib.hid (show rightB xs = true by simp [rightB, h0])
    rw [h0]
    clear hr h0 hm
    go_enter Tryd.func14, Tryd.ntmps14
    go_wp2_with fail
    go_ret
    exact ⟨ret_bool hz.out.symm, rfl⟩
  obtain ⟨b, off, rfl, _, hc⟩ := hr.cells (by omega)
  have hc0 := hc (xs.length - 1) (by omega)
  have hx := lb_range ux (xs.length - 1)
  clear hc
  obtain ⟨n, hn⟩ : ∃ n, xs.length = n + 1 := ⟨xs.length - 1, by omega⟩
  have hz := Lib.hid (show rightB xs = decide (n + 1 ≤ 16 ∧ lb xs n ≠ 0) by simp [rightB, hn])
  rw [hn] at hc0 hx ⊢
  rw [hn] at hm
  simp only [Nat.add_sub_cancel] at hc0 hx
  clear hn h0 hr
  obtain ⟨t, ht⟩ : ∃ t, lb xs n = t := ⟨_, rfl⟩
  rw [ht] at hc0 hx hz
  by_cases h16 : n + 1 ≤ 16
  · by_cases ht0 : 0 < t
    · have hd := Lib.hid (show decide (n + 1 ≤ 16 ∧ t ≠ 0) = true by rw [decide_eq_true_iff]; omega)
      have e0 : (((n : Nat) : Int) + 1 == 0) = false := by rw [beq_eq_false_iff_ne]; omega
      go_enter Tryd.func14, Tryd.ntmps14
      go_wp2_with fail
      go_ret
      exact ⟨ret_bool (by rw [hz.out, hd.out]), rfl⟩
    · have hd := Lib.hid (show decide (n + 1 ≤ 16 ∧ t ≠ 0) = false by rw [decide_eq_false_iff_not]; omega)
      have e0 : (((n : Nat) : Int) + 1 == 0) = false := by rw [beq_eq_false_iff_ne]; omega
      go_enter Tryd.func14, Tryd.ntmps14
      go_wp2_with fail
      go_ret
      exact ⟨ret_bool (by rw [hz.out, hd.out]), rfl⟩
  · have hd := Lib.hid (show decide (n + 1 ≤ 16 ∧ t ≠ 0) = false by rw [decide_eq_false_iff_not]; omega)
    go_enter Tryd.func14, Tryd.ntmps14
    go_wp2_with fail
    go_ret
    exact ⟨ret_bool (by rw [hz.out, hd.out]), rfl⟩

theorem refright_sl {w : World} {v : Value} {xs : List Int} (h : Sl w v xs) :
    Calls Tryd.prog 14 #[v] w fun e w' => e = .returned (.bool (rightB xs)) ∧ w = w' := by
  obtain ⟨ao, cap, rfl, h2, h3, h4, h5, _⟩ := h
  exact refright_any ao cap xs w h3 h4 (by omega)
theorem refright_num {w : World} {v : Value} {N : Int} (h : Num w v N) :
    Calls Tryd.prog 14 #[v] w fun e w' => e = .returned (.bool true) ∧ w = w' := by
  obtain ⟨xs, h1, h2, h3⟩ := h
  have := refright_sl h1
  rw [h2] at this
  exact this
theorem refright_bad {w : World} {v : Value} (h : Bad1 w v) :
    Calls Tryd.prog 14 #[v] w fun e w' => e = .returned (.bool false) ∧ w = w' := by
  obtain ⟨xs, h1, h2⟩ := h
  have := refright_sl h1
  rw [h2] at this
  exact this
theorem reftext_num {w : World} {v : Value} {N : Int} (h : Num w v N) :
    Calls Tryd.prog 16 #[v] w fun e w' => (∃ s, e = .returned (.string s) ∧ DecStr s N) ∧ Below w.heap.size w w' := by
  obtain ⟨xs, h1, h2, rfl⟩ := h
  have hl := (rightB_canon h1.choose_spec.choose_spec.2.2.2.1 h2).2
  exact reftext_sl v xs w h1 (by omega)
end Go.Proofs.YtondjnmpfpfpmaaDoor
