/- Numbers in memory by what they stand for; fit, Cmp, Bits, Of. -/
import Derived.Test.YtondjnmpfpfpmaaDoorNatBase
namespace Go.Proofs.YtondjnmpfpfpmaaDoor
open Go.RowKit NM

/-- A slice of limbs. -/
def Sl (w : World) (v : Value) (xs : List Int) : Prop :=
  ∃ ao cap, v = .slice ao xs.length cap ∧ xs.length ≤ cap ∧ Row w ao xs ∧ U32s xs ∧ xs.length ≤ 4611686018427387904 ∧ (ao = none → cap = 0)
/-- A slice that is the number N. -/
def Num (w : World) (v : Value) (N : Int) : Prop := ∃ xs, Sl w v xs ∧ rightB xs = true ∧ val xs = N

theorem Sl.below {w w' : World} {v : Value} {xs : List Int} (h : Sl w v xs) (hb : Below w.heap.size w w') : Sl w' v xs := by
  obtain ⟨ao, cap, h1, h2, h3, h4, h5⟩ := h
  exact ⟨ao, cap, h1, h2, h3.below hb, h4, h5⟩
theorem Num.below {w w' : World} {v : Value} {N : Int} (h : Num w v N) (hb : Below w.heap.size w w') : Num w' v N := by
  obtain ⟨xs, h1, h2, h3⟩ := h
  exact ⟨xs, h1.below hb, h2, h3⟩
theorem val_lt16 {xs : List Int} (hu : U32s xs) (hr : rightB xs = true) : val xs < pw 16 := by
  have h := rightB_canon hu hr
  have h1 := val_lt hu
  have h2 := pw_mono h.2
  omega
theorem Num.range {w : World} {v : Value} {N : Int} (h : Num w v N) : 0 ≤ N ∧ N < pw 16 := by
  obtain ⟨xs, ⟨_, _, _, _, _, hu, _⟩, h2, rfl⟩ := h
  exact ⟨val_nonneg hu, val_lt16 hu h2⟩
theorem Num_nil (w : World) : Num w (.slice none 0 0) 0 :=
  ⟨[], ⟨none, 0, rfl, Nat.zero_le _, .inl rfl, U32s_nil, by simp, fun _ => rfl⟩, rfl, rfl⟩

/-- What is told of a number that was reckoned: the number, or that it is too great. -/
def Told (N : Int) (e : Ending) (w' : World) : Prop :=
  (N < pw 16 ∧ ∃ v, e = .returned (.tuple #[v, .int .i64 0]) ∧ Num w' v N) ∨ (pw 16 ≤ N ∧ e = .returned (.tuple #[.slice none 0 0, .int .i64 2]))

theorem trimmed_num {w : World} {ad : Addr} {cap : Nat} {xs : List Int} (hr : Row w (some ad) xs) (hu : U32s xs) (hc : xs.length ≤ cap) (h16 : tl xs xs.length ≤ 16) :
    Num w (.slice (some ad) (tl xs xs.length) cap) (val xs) := by
  have h1 := tl_le xs xs.length
  have hl : (xs.take (tl xs xs.length)).length = tl xs xs.length := by simp; omega
  refine ⟨xs.take (tl xs xs.length), ⟨some ad, cap, by rw [hl], by omega, hr.take _, U32s_take hu _, by omega, fun h => by cases h⟩, canon_rightB (tl_canon hu) (by omega), ?_⟩
  rw [tl_val xs _ (Nat.le_refl _), List.take_length]
theorem tl_small {xs : List Int} (hu : U32s xs) : tl xs xs.length ≤ 16 ↔ val xs < pw 16 := by
  have hc := tl_canon hu
  have h1 := tl_le xs xs.length
  have hl : (xs.take (tl xs xs.length)).length = tl xs xs.length := by simp; omega
  have hv := tl_val xs _ (Nat.le_refl _)
  rw [List.take_length] at hv
  constructor
  · intro h
    have := val_lt hc.u
    have := pw_mono h
    rw [hl] at *
    omega
  · intro h
    by_cases h16 : tl xs xs.length ≤ 16
    · exact h16
    · have h2 := val_ge_of_last hc (by intro e; rw [e] at hl; simp at hl; omega)
      rw [hl] at h2
      have := pw_mono (show 16 ≤ tl xs xs.length - 1 by omega)
      omega

set_option maxHeartbeats 400000 in
theorem fit_any (ao : Option Addr) (cap : Nat) (xs : List Int) (w : World) (hr : Row w ao xs) (hao : ao.isSome = true) (hu : U32s xs) (hm : xs.length ≤ 1000000) (hcap : xs.length ≤ cap) :
    Calls Tryd.prog 36 #[.slice ao xs.length cap] w fun e w' => Told (val xs) e w' ∧ w = w' := by
  obtain ⟨ad, rfl⟩ := Option.isSome_iff_exists.1 hao
  clear hao
  have hs := tl_small hu
  have ht := tl_le xs xs.length
  by_cases h : tl xs xs.length ≤ 16
  · have hn := Lib.hid (trimmed_num hr hu hcap h)
    have hv := Lib.hid (hs.1 h)
    clear hs
    go_enter Tryd.func36, Tryd.ntmps36
    go_wp2_with (go_at_call 37; refine (trim_any (some ad) cap xs _ hr (by omega) hcap).mono ?_; rintro e w' ⟨rfl, rfl⟩)
    go_ret2
    exact ⟨.inl ⟨hv.out, _, rfl, hn.out⟩, rfl⟩
  · have hv := Lib.hid (show pw 16 ≤ val xs from Int.not_lt.1 fun h' => h (hs.2 h'))
    clear hs
    go_enter Tryd.func36, Tryd.ntmps36
    go_wp2_with (go_at_call 37; refine (trim_any (some ad) cap xs _ hr (by omega) hcap).mono ?_; rintro e w' ⟨rfl, rfl⟩)
    go_ret2
    exact ⟨.inr ⟨hv.out, rfl⟩, rfl⟩

/-- Right, of a slice. -/
theorem right_sl {w : World} {v : Value} {xs : List Int} (h : Sl w v xs) :
    Calls Tryd.prog 13 #[v] w fun e w' => e = .returned (.bool (rightB xs)) ∧ w = w' := by
  obtain ⟨ao, cap, rfl, h2, h3, h4, h5, _⟩ := h
  exact right_any ao cap xs w h3 (by omega)
theorem right_num {w : World} {v : Value} {N : Int} (h : Num w v N) :
    Calls Tryd.prog 13 #[v] w fun e w' => e = .returned (.bool true) ∧ w = w' := by
  obtain ⟨xs, h1, h2, h3⟩ := h
  have := right_sl h1
  rw [h2] at this
  exact this

theorem compare_num {w : World} {v u : Value} {N M : Int} (h1 : Num w v N) (h2 : Num w u M) :
    Calls Tryd.prog 35 #[v, u] w fun e w' => e = .returned (.int .i64 (sgn N M)) ∧ Below w.heap.size w w' := by
  obtain ⟨xs, ⟨ao, ca, rfl, _, ra, ux, _⟩, rx, rfl⟩ := h1
  obtain ⟨ys, ⟨bo, cb, rfl, _, rb, uy, _⟩, ry, rfl⟩ := h2
  obtain ⟨cx, lx⟩ := rightB_canon ux rx
  obtain ⟨cy, ly⟩ := rightB_canon uy ry
  by_cases hl : xs.length = ys.length
  · exact compare_same ao bo ca cb xs ys w ra rb ux uy hl lx
  · have h := compare_len ao bo ca cb xs.length ys.length w hl lx ly
    by_cases hlt : xs.length < ys.length
    · rw [if_pos hlt, ← sgn_len cx cy hlt] at h; exact h
    · rw [if_neg hlt, ← sgn_len' cx cy (by omega)] at h; exact h

set_option maxHeartbeats 400000 in
theorem cmp_num {w : World} {v u : Value} {N M : Int} (h1 : Num w v N) (h2 : Num w u M) :
    Calls Tryd.prog 9 #[v, u] w fun e w' => e = .returned (.tuple #[.int .i64 (sgn N M), .int .i64 0]) ∧ Below w.heap.size w w' := by
  have H1 := Lib.hid h1
  have H2 := Lib.hid h2
  clear h1 h2
  go_enter Tryd.func9, Tryd.ntmps9
  go_wp2_with fail
  refine (right_num H1.out).mono ?_
  rintro e w' ⟨rfl, rfl⟩
  go_wp2_with fail
  refine (right_num H2.out).mono ?_
  rintro e w' ⟨rfl, rfl⟩
  go_wp2_with fail
  refine (compare_num H1.out H2.out).mono ?_
  rintro e w1 ⟨rfl, hb⟩
  go_wp2_with fail
  go_ret2
  exact ⟨rfl, hb⟩
end Go.Proofs.YtondjnmpfpfpmaaDoor
