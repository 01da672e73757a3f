/- Numbers in memory; the small functions of nat that only read: Right, trim, compare. -/
import Derived.Test.YtondjnmpfpfpmaaDoorRows
import Derived.Test.YtondjnmpfpfpmaaDoorNatMath
import Derived.WalkKit
import Derived.WalkSpells
import Derived.WalkLawsBesides
import Derived.WalkSmall
import Derived.Deep.QuietTactic
import Derived.BigQuiet
import Derived.Lib.Hide
import Derived.Below
namespace Go.Proofs.YtondjnmpfpfpmaaDoor
open Go.RowKit NM

theorem ret_bool {a b : Bool} (h : a = b) : Ending.returned (.bool a) = .returned (.bool b) := by rw [h]
theorem ret_int {k : IntKind} {a b : Int} (h : a = b) : Ending.returned (.int k a) = .returned (.int k b) := by rw [h]

/-- A slice of limbs in memory: empty, or its cells lie in one row. -/
def Row (w : World) (ao : Option Addr) (xs : List Int) : Prop :=
  xs = [] ∨ ∃ b off, ao = some ⟨b, off, none⟩ ∧ b < w.heap.size ∧ ∀ i, i < xs.length → w.cell? ⟨b, off + i, none⟩ = some (.int .u32 (lb xs i))

theorem Row.below {w w' : World} {ao : Option Addr} {xs : List Int} (h : Row w ao xs) (hb : Below w.heap.size w w') : Row w' ao xs := by
  rcases h with h | ⟨b, off, h1, h2, h3⟩
  · exact .inl h
  · exact .inr ⟨b, off, h1, Nat.lt_of_lt_of_le h2 hb.size, fun i hi => by rw [hb.cell (p := ⟨b, off + i, none⟩) h2]; exact h3 i hi⟩
theorem Row.take {w : World} {ao : Option Addr} {xs : List Int} (h : Row w ao xs) (k : Nat) : Row w ao (xs.take k) := by
  rcases h with h | ⟨b, off, h1, h2, h3⟩
  · exact .inl (by rw [h]; simp)
  · refine .inr ⟨b, off, h1, h2, fun i hi => ?_⟩
    rw [List.length_take] at hi
    rw [h3 i (by omega), lb_take (by omega)]
theorem Row.cells {w : World} {ao : Option Addr} {xs : List Int} (h : Row w ao xs) (hn : 0 < xs.length) : ∃ b off, ao = some ⟨b, off, none⟩ ∧ b < w.heap.size ∧ ∀ i, i < xs.length → w.cell? ⟨b, off + i, none⟩ = some (.int .u32 (lb xs i)) := by
  rcases h with h | h
  · rw [h] at hn; exact absurd hn (by simp)
  · exact h

set_option maxHeartbeats 400000 in
theorem right_any (ao : Option Addr) (cap : Nat) (xs : List Int) (w : World) (hr : Row w ao xs) (hm : xs.length ≤ 9223372036854775807) :
    Calls Tryd.prog 13 #[.slice ao xs.length cap] w fun e w' => e = .returned (.bool (rightB xs)) ∧ w = w' := by
  by_cases h0 : xs.length = 0
  · have hz := Lib.hid (show rightB xs = true by simp [rightB, h0])
    rw [h0]
    clear hr h0 hm
    go_enter Tryd.func13, Tryd.ntmps13
    go_wp2_with fail
    go_ret
    exact ⟨ret_bool hz.out.symm, rfl⟩
  obtain ⟨b, off, rfl, _, hc⟩ := hr.cells (by omega)
  have hc0 := hc (xs.length - 1) (by omega)
  clear hc
  obtain ⟨n, hn⟩ : ∃ n, xs.length = n + 1 := ⟨xs.length - 1, by omega⟩
  have hz := Lib.hid (show rightB xs = decide (n + 1 ≤ 16 ∧ lb xs n ≠ 0) by simp [rightB, hn])
  rw [hn] at hc0 ⊢
  rw [hn] at hm
  simp only [Nat.add_sub_cancel] at hc0
  clear hn h0 hr
  by_cases h16 : n + 1 ≤ 16
  · go_enter Tryd.func13, Tryd.ntmps13
    go_wp2_with fail
    go_ret
    refine ⟨ret_bool ?_, rfl⟩
    have e0 : (((n : Nat) : Int) + 1 == 0) = false := by simp; omega
    rw [hz.out, Bool.eq_iff_iff]
    simp only [e0, Bool.false_or, bne_iff_ne, decide_eq_true_iff]
    exact ⟨fun h => ⟨h16, h⟩, And.right⟩
  · go_enter Tryd.func13, Tryd.ntmps13
    go_wp2_with fail
    go_ret
    exact ⟨ret_bool (by rw [hz.out]; simp; omega), rfl⟩
set_option maxHeartbeats 400000 in
theorem trim_any (ao : Option Addr) (cap : Nat) (xs : List Int) (w : World) (hr : Row w ao xs) (hm : xs.length ≤ 9223372036854775807) (hcap : xs.length ≤ cap) :
    Calls Tryd.prog 37 #[.slice ao xs.length cap] w fun e w' => e = .returned (.slice ao (tl xs xs.length) cap) ∧ w = w' := by
  by_cases h0 : xs.length = 0
  · rw [h0]
    clear hr h0 hm hcap
    go_enter Tryd.func37, Tryd.ntmps37
    go_wp2_with fail
    go_loop [0] (fun v => v = .slice ao 0 cap) (fun _ => 0)
    case atStart => exact rfl
    case round =>
      subst hrel
      go_wp2_with fail
      go_ret
      exact ⟨rfl, rfl⟩
  obtain ⟨b, off, rfl, _, hc⟩ := hr.cells (by omega)
  obtain ⟨n, hn⟩ : ∃ n, n = xs.length := ⟨_, rfl⟩
  rw [← hn] at hm hcap hc ⊢
  clear hn h0 hr
  go_enter Tryd.func37, Tryd.ntmps37
  go_wp2_with fail
  go_loop [0] (fun v => ∃ k : Nat, k ≤ n ∧ v = .slice (some ⟨b, off, none⟩) k cap ∧ Hid (tl xs k = tl xs n)) (fun v => match v with | .slice _ k _ => k | _ => 0)
  case atStart => exact ⟨n, Nat.le_refl _, rfl, Lib.hid rfl⟩
  case round =>
    obtain ⟨k, hk, rfl, ht⟩ := hrel
    cases k with
    | zero =>
      have Hc := Lib.hid hc
      clear hc
      go_wp2_with fail
      go_ret
      exact ⟨by rw [← ht.out]; rfl, rfl⟩
    | succ k =>
      have hck := hc k (by omega)
      have Hc := Lib.hid hc
      clear hc
      by_cases hz : lb xs k = 0
      · have ht2 := Lib.hid (show tl xs k = tl xs n by rw [← ht.out, tl, if_pos hz])
        have hz2 : (lb xs k == 0) = true := by simpa using hz
        have Hz := Lib.hid hz
        clear hz
        go_wp2_with fail
        go_round
        case rel => exact ⟨k, by omega, rfl, ht2⟩
        case measure => simp
      · have ht2 := Lib.hid (show k + 1 = tl xs n by rw [← ht.out, tl, if_neg hz])
        have hz2 : (lb xs k == 0) = false := by simpa using hz
        clear hz
        go_wp2_with fail
        go_ret
        exact ⟨congrArg (fun j => Ending.returned (Value.slice (some ⟨b, off, none⟩) j cap)) ht2.out, rfl⟩

set_option maxHeartbeats 1000000 in
set_option maxRecDepth 100000 in
theorem compare_len (ao bo : Option Addr) (ca cb : Nat) (n m : Nat) (w : World) (h : n ≠ m) (_hn : n ≤ 16) (_hm : m ≤ 16) :
    Calls Tryd.prog 35 #[.slice ao n ca, .slice bo m cb] w fun e w' => e = .returned (.int .i64 (if n < m then -1 else 1)) ∧ Below w.heap.size w w' := by
  have hb : (((n : Nat) : Int) != ((m : Nat) : Int)) = true := by simp; omega
  by_cases hlt : n < m
  · rw [if_pos hlt]
    go_enter Tryd.func35, Tryd.ntmps35
    go_wp2_with fail
    go_ret
    exact ⟨rfl, Below.refl _ _⟩
  · rw [if_neg hlt]
    go_enter Tryd.func35, Tryd.ntmps35
    go_wp2_with fail
    go_ret
    exact ⟨rfl, Below.refl _ _⟩

set_option maxHeartbeats 1000000 in
set_option maxRecDepth 100000 in
theorem compare_same (ao bo : Option Addr) (ca cb : Nat) (xs ys : List Int) (w : World) (ra : Row w ao xs) (rb : Row w bo ys) (ux : U32s xs) (uy : U32s ys) (hl : xs.length = ys.length) (hn : xs.length ≤ 16) :
    Calls Tryd.prog 35 #[.slice ao xs.length ca, .slice bo ys.length cb] w fun e w' => e = .returned (.int .i64 (sgn (val xs) (val ys))) ∧ Below w.heap.size w w' := by
  rw [← hl]
  obtain ⟨n, hn'⟩ : ∃ n, n = xs.length := ⟨_, rfl⟩
  rw [← hn'] at hn ⊢
  have Hn := Lib.hid hn'
  have hne : (((n : Nat) : Int) != ((n : Nat) : Int)) = false := by simp
  go_enter Tryd.func35, Tryd.ntmps35
  clear hn'
  go_wp2_with fail
  go_loopw [5] (fun v wr => ∃ k : Nat, k ≤ n ∧ v = .int .i64 ((k : Int) - 1) ∧ Hid (xs.drop k = ys.drop k) ∧ Below w.heap.size w wr) (fun v _ => (intOf v + 1).toNat)
  case atStart => exact ⟨n, Nat.le_refl _, rfl, Lib.hid (by rw [Hn.out, List.drop_length, hl, List.drop_length]), Below.refl _ _⟩
  case round =>
    obtain ⟨k, hk, rfl, hd, hb⟩ := hrel
    cases k with
    | zero =>
      have he := Lib.hid (show sgn (val xs) (val ys) = 0 by
        have := hd.out
        simp only [List.drop_zero] at this
        rw [this, sgn, if_neg (by omega), if_neg (by omega)])
      go_wp2_with fail
      go_ret
      exact ⟨ret_int he.out.symm, hb⟩
    | succ k =>
      rename_i wr
      have e1 : ((k + 1 : Nat) : Int) - 1 = k := by omega
      rw [e1]
      clear e1
      obtain ⟨b, off, rfl, hbs, hc⟩ := (ra.below hb).cells (by rw [← Hn.out]; omega)
      obtain ⟨b2, off2, rfl, hbs2, hc2⟩ := (rb.below hb).cells (by rw [← hl, ← Hn.out]; omega)
      have hck := hc k (by rw [← Hn.out]; omega)
      have hck2 := hc2 k (by rw [← hl, ← Hn.out]; omega)
      obtain ⟨x0, x1⟩ := lb_range ux k
      obtain ⟨y0, y1⟩ := lb_range uy k
      have Hl := Lib.hid hl
      clear hc hc2 hl
      rcases Int.lt_trichotomy (lb xs k) (lb ys k) with h | h | h
      · have he := Lib.hid (show sgn (val xs) (val ys) = -1 by
          rw [sgn, if_pos (val_less ux uy Hl.out (by rw [← Hn.out]; omega) hd.out h)])
        go_wp2_with fail
        go_quiet (fail)
        go_wp2_with fail
        go_ret
        exact ⟨ret_int he.out.symm, below_drewN hb _⟩
      · have hd2 := Lib.hid (drop_step Hl.out (by rw [← Hn.out]; omega) hd.out h)
        have h1 : ¬ lb xs k < lb ys k := by omega
        have h2 : ¬ lb ys k < lb xs k := by omega
        have H := Lib.hid h
        clear h
        go_wp2_with fail
        go_quiet (fail)
        go_wp2_with fail
        go_quiet (fail)
        go_wp2_with fail
        go_roundw
        case rel => exact ⟨k, by omega, rfl, hd2, below_drewN hb _⟩
        case measure => simp [intOf]
      · have he := Lib.hid (show sgn (val xs) (val ys) = 1 by
          have := val_less uy ux Hl.out.symm (by rw [← Hl.out, ← Hn.out]; omega) hd.out.symm h
          rw [sgn, if_neg (by omega), if_pos this])
        have h1 : ¬ lb xs k < lb ys k := by omega
        go_wp2_with fail
        go_quiet (fail)
        go_wp2_with fail
        go_quiet (fail)
        go_wp2_with fail
        go_ret
        exact ⟨ret_int he.out.symm, below_drewN (below_drewN hb _) _⟩
end Go.Proofs.YtondjnmpfpfpmaaDoor
