/- Same, few; digits: the small readers. -/
import Derived.Test.YtondjnmpfpfpmaaDoorNatShiftBy
namespace Go.Proofs.YtondjnmpfpfpmaaDoor
open Go.RowKit NM

/-- The first k limbs are the same. -/
def SameTo (xs ys : List Int) (k : Nat) : Prop := ∀ j, j < k → lb xs j = lb ys j
theorem same_all {xs ys : List Int} (hl : xs.length = ys.length) (h : SameTo xs ys xs.length) : xs = ys := by
  apply List.ext_getElem hl
  intro i h1 h2
  have := h i h1
  rwa [lb_eq h1, lb_eq h2] at this

set_option maxHeartbeats 1600000 in
set_option maxRecDepth 100000 in
theorem same_sl (v u : Value) (xs ys : List Int) (w : World) (h1 : Sl w v xs) (h2 : Sl w u ys) :
    Calls Tryd.prog 34 #[v, u] w fun e w' => e = .returned (.bool (decide (xs = ys))) ∧ Below w.heap.size w w' := by
  obtain ⟨ao, ca, rfl, _, ra, ux, lx, _⟩ := h1
  obtain ⟨bo, cb, rfl, _, rb, uy, ly, _⟩ := h2
  by_cases hl : xs.length = ys.length
  · obtain ⟨n, hn⟩ : ∃ n, n = xs.length := ⟨_, rfl⟩
    rw [← hl, ← hn]
    rw [← hn] at lx
    have Hn := Lib.hid hn
    have Hl := Lib.hid hl
    have hne : (((n : Nat) : Int) != ((n : Nat) : Int)) = false := by simp
    clear hn hl ly
    go_enter Tryd.func34, Tryd.ntmps34
    go_wp2_with fail
    go_loopw [5, 13] (fun _ i wr => ∃ k : Nat, k ≤ n ∧ i = .int .i64 k ∧ Hid (SameTo xs ys k) ∧ Below w.heap.size w wr) (fun _ i _ => n - (intOf i).toNat)
    case atStart => exact ⟨0, Nat.zero_le _, rfl, Lib.hid (fun j h => absurd h (Nat.not_lt_zero _)), Below.refl _ _⟩
    case round =>
      obtain ⟨k, hk, rfl, hs, hb⟩ := hrel
      rename_i wr
      by_cases hkn : k < n
      · obtain ⟨b, off, rfl, hbs, hc⟩ := (ra.below hb).cells (by rw [← Hn.out]; omega)
        obtain ⟨b2, off2, rfl, hbs2, hc2⟩ := (rb.below hb).cells (by rw [← Hl.out, ← Hn.out]; omega)
        have hck := hc k (by rw [← Hn.out]; omega)
        have hck2 := hc2 k (by rw [← Hl.out, ← Hn.out]; omega)
        clear hc hc2
        by_cases h : lb xs k = lb ys k
        · have hs2 := Lib.hid (show SameTo xs ys (k + 1) from fun j hj => by
            by_cases e : j = k
            · rw [e]; exact h
            · exact hs.out j (by omega))
          have hq : (lb xs k != lb ys k) = false := by rw [bne_eq_false_iff_eq]; exact h
          have H := Lib.hid h
          clear h
          go_wp2_with fail
          go_quiet (fail)
          go_wp2_with fail
          go_roundw
          case rel => exact ⟨k + 1, by omega, by go_num, hs2, below_drewN hb _⟩
          case measure => simp [intOf]; omega
        · have hne2 := Lib.hid (show decide (xs = ys) = false by
            rw [decide_eq_false_iff_not]
            intro e
            rw [e] at h
            exact h rfl)
          have hq : (lb xs k != lb ys k) = true := by rw [bne_iff_ne]; exact h
          clear h
          go_wp2_with fail
          go_quiet (fail)
          go_wp2_with fail
          go_ret
          exact ⟨ret_bool hne2.out.symm, below_drewN hb _⟩
      · have hk2 : k = n := by omega
        subst hk2
        have heq := Lib.hid (show decide (xs = ys) = true by
          rw [decide_eq_true_iff]
          exact same_all Hl.out (by rw [← Hn.out]; exact hs.out))
        go_wp2_with fail
        go_ret
        exact ⟨ret_bool heq.out.symm, hb⟩
  · have hne := Lib.hid (show decide (xs = ys) = false by
      rw [decide_eq_false_iff_not]
      intro e
      rw [e] at hl
      exact hl rfl)
    have hb : ((xs.length : Int) != (ys.length : Int)) = true := by rw [bne_iff_ne]; omega
    go_enter Tryd.func34, Tryd.ntmps34
    go_wp2_with fail
    go_ret
    exact ⟨ret_bool hne.out.symm, Below.refl _ _⟩

theorem same_num (v u : Value) (N M : Int) (w : World) (h1 : Num w v N) (h2 : Num w u M) :
    Calls Tryd.prog 34 #[v, u] w fun e w' => e = .returned (.bool (decide (N = M))) ∧ Below w.heap.size w w' := by
  obtain ⟨xs, hx, rx, rfl⟩ := h1
  obtain ⟨ys, hy, ry, rfl⟩ := h2
  have cx := (rightB_canon hx.choose_spec.choose_spec.2.2.2.1 rx).1
  have cy := (rightB_canon hy.choose_spec.choose_spec.2.2.2.1 ry).1
  have e : decide (val xs = val ys) = decide (xs = ys) := by
    rw [decide_eq_decide]
    exact ⟨fun h => cx.inj cy h, fun h => by rw [h]⟩
  rw [e]
  exact same_sl v u xs ys w hx hy
theorem Num.sl {w : World} {v : Value} {N : Int} (h : Num w v N) : ∃ xs, Sl w v xs := ⟨h.choose, h.choose_spec.1⟩
/-- Two empty slices are the same. -/
theorem same_nil (w : World) :
    Calls Tryd.prog 34 #[.slice none 0 0, .slice none 0 0] w fun e w' => e = .returned (.bool true) ∧ Below w.heap.size w w' := by
  have h := same_num _ _ 0 0 w (Num_nil w) (Num_nil w)
  simpa using h

/-- A slice that came in, as the frame hands it over. -/
def IsRow (k : IntKind) (w : World) (a : Option Addr) (len cap : Nat) (zs : List Int) : Prop :=
  (a = none ∧ len = 0 ∧ cap = 0 ∧ zs = []) ∨
  ∃ x, a = some x ∧ len ≤ cap ∧ cap ≤ maxLen ∧ zs.length = cap ∧ (∀ i, i < zs.length → w.cell? (x.add i) = some (.int k (zs.getD i 0))) ∧ ∀ n ∈ zs, (Lit.int k n).wf = true

theorem u32_of_wf {n : Int} (h : (Lit.int .u32 n).wf = true) : 0 ≤ n ∧ n < 4294967296 := by
  simp [Lit.wf, IntKind.min, IntKind.max, IntKind.signed, IntKind.bits] at h
  omega

set_option maxHeartbeats 800000 in
set_option maxRecDepth 100000 in
theorem few_row (a : Option Addr) (len cap : Nat) (zs : List Int) (w : World) (h : IsRow .u32 w a len cap zs) :
    Calls Tryd.prog 8 #[.slice a len cap] w fun e w' => (∃ v xs, e = .returned v ∧ Sl w v xs ∧ xs.length ≤ 18) ∧ w = w' := by
  rcases h with ⟨rfl, rfl, rfl, rfl⟩ | ⟨x, rfl, hl, hm, hz, hc, hwf⟩
  · go_enter Tryd.func8, Tryd.ntmps8
    go_wp2_with fail
    go_ret
    exact ⟨⟨_, [], rfl, ⟨none, 0, rfl, Nat.le_refl _, .inl rfl, U32s_nil, by simp, fun _ => rfl⟩, by simp⟩, rfl⟩
  · unfold maxLen at hm
    have hu : U32s zs := fun n hn => u32_of_wf (hwf n hn)
    have hsl : ∀ k, k ≤ len → k ≤ 18 → Sl w (.slice (some x) k cap) (zs.take k) := by
      intro k hk h18
      have hlen : (zs.take k).length = k := by simp; omega
      refine ⟨some x, cap, by rw [hlen], by omega, ?_, U32s_take hu k, by omega, fun h => by cases h⟩
      by_cases h0 : zs.take k = []
      · exact .inl h0
      · have hk0 : 0 < k := by
          rcases Nat.eq_zero_or_pos k with h | h
          · subst h; simp at h0
          · exact h
        obtain ⟨b, off, spot⟩ := x
        have h1 := hc 0 (by omega)
        have hspot : spot = none := by simpa [Addr.add] using World.cell?_spot h1
        subst hspot
        refine .inr ⟨b, off, rfl, ?_, fun i hi => ?_⟩
        · by_cases hb : b < w.heap.size
          · exact hb
          · simp only [Addr.add] at h1
            rw [World.cell?, Array.getElem?_eq_none (by simp; omega)] at h1
            cases h1
        · rw [hlen] at hi
          have h2 := hc i (by omega)
          rw [lb_take hi, lb]
          by_cases hi0 : i = 0
          · subst hi0; simpa [Addr.add] using h2
          · simpa [Addr.add, hi0] using h2
    have Hsl := Lib.hid hsl
    clear hsl hc hwf hu hz
    go_enter Tryd.func8, Tryd.ntmps8
    go_wp2_with fail
    go_ret
    exact ⟨⟨_, _, rfl, Hsl.out (min (len : Int) 18).toNat (by omega) (by omega), by rw [List.length_take]; omega⟩, rfl⟩
end Go.Proofs.YtondjnmpfpfpmaaDoor
