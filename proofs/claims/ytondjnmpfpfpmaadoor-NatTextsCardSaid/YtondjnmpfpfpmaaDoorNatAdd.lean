/- Add. -/
import Derived.Test.YtondjnmpfpfpmaaDoorNatNum
import Derived.Deep.OwnRows
import Derived.Laws.NewBlocks
import Derived.Laws.OwnMore
import Derived.LoopTactic
import Derived.Deep.DeepCutAuto
namespace Go.Proofs.YtondjnmpfpfpmaaDoor
open Go.RowKit NM

/-- The cells of a row of limbs. -/
def arr (zs : List Int) : Array Value := (zs.map (Value.int .u32)).toArray
theorem arr_made (n : Nat) : madeCells #[.int .u32 0] n = arr (List.replicate n 0) := by
  apply Array.toList_inj.1
  rw [toList_madeCells_one]
  simp [arr]
theorem arr_set (zs : List Int) (k : Nat) (x : Int) : (arr zs).setIfInBounds k (.int .u32 x) = arr (zs.set k x) := by
  apply Array.toList_inj.1
  simp [arr, List.map_set]
theorem arr_size (zs : List Int) : (arr zs).size = zs.length := by simp [arr]
theorem arr_cell (w : World) (zs : List Int) (t : TypeId) (k : Nat) (h : k < zs.length) : (w.alloc (.cells (arr zs) t)).cell? ⟨w.heap.size, k, none⟩ = some (.int .u32 (lb zs k)) := by
  rw [World.cell?_alloc_new]
  simp [arr, lb, h]
theorem arr_at (zs : List Int) (k : Nat) (h : k < zs.length) : (arr zs)[k]? = some (.int .u32 (lb zs k)) := by
  simp [arr, lb, h]
theorem arr_row (w : World) (zs : List Int) (t : TypeId) : Row (w.alloc (.cells (arr zs) t)) (some ⟨w.heap.size, 0, none⟩) zs := by
  by_cases h : zs = []
  · exact .inl h
  · exact .inr ⟨w.heap.size, 0, rfl, by simp, fun i hi => by rw [Nat.zero_add]; exact arr_cell w zs t i hi⟩

/-- A store into a row of the call's own, behind draws. -/
theorem own_set (w : World) (zs : List Int) (t : TypeId) (nd k : Nat) (x : Int) :
    ((w.alloc (.cells (arr zs) t)).drewN nd).setCell ⟨w.heap.size, k, none⟩ (.int .u32 x) = (w.alloc (.cells (arr (zs.set k x)) t)).drewN nd := by
  rw [← arr_set, ← World.setCell_alloc_at (w := w) (arr zs) t w.heap.size k (.int .u32 x) rfl]
  rfl

theorem info_u32 : (Tryd.prog.info? 59).map (fun i => (i.zero, i.size, i.bytes)) = some (some (.int .u32 0), 1, 4) := by kernel_rfl
theorem make_nat (n : Nat) (hn : n ≤ 1000000) (w : World) :
    (Instr.makeSlice 23 (.int .i64 (n : Int)) (.int .i64 (n : Int))).run Tryd.prog w = .ok (.slice (some ⟨w.heap.size, 0, none⟩) n n) (w.alloc (.cells (arr (List.replicate n 0)) 59)) := by
  rw [← arr_made]
  exact run_make_row' 23 59 (.int .u32 0) 4 Tryd.underlying23 info_u32 rfl .i64 .i64 n (by omega) (by omega) w

set_option maxHeartbeats 2000000 in
set_option maxRecDepth 100000 in
theorem add_num (v u : Value) (N M : Int) (w : World) (h1 : Num w v N) (h2 : Num w u M) :
    Calls Tryd.prog 10 #[v, u] w fun e w' => Told (N + M) e w' ∧ Below w.heap.size w w' := by
  have R1 := Lib.hid (right_num h1)
  have R2 := Lib.hid (right_num h2)
  obtain ⟨xs0, ⟨ao0, ca0, rfl, hca0, ra0, ux0, _⟩, rx0, hvx⟩ := h1
  obtain ⟨ys0, ⟨bo0, cb0, rfl, hcb0, rb0, uy0, _⟩, ry0, hvy⟩ := h2
  obtain ⟨cx0, lx0⟩ := rightB_canon ux0 rx0
  obtain ⟨cy0, ly0⟩ := rightB_canon uy0 ry0
  have Hvx := Lib.hid hvx
  have Hvy := Lib.hid hvy
  clear hvx hvy rx0 ry0
  go_enter Tryd.func10, Tryd.ntmps10
  go_wp2_with fail
  refine R1.out.mono ?_
  rintro e w' ⟨rfl, rfl⟩
  go_wp2_with fail
  refine R2.out.mono ?_
  rintro e w' ⟨rfl, rfl⟩
  go_upto_if 21 with fail
  go_cut [0, 1] (fun v0 v1 wx => w = wx ∧ ∃ ao bo ca cb, ∃ xs ys : List Int, v0 = .slice ao xs.length ca ∧ v1 = .slice bo ys.length cb ∧ Row w ao xs ∧ Row w bo ys ∧ U32s xs ∧ U32s ys ∧ ys.length ≤ xs.length ∧ xs.length ≤ 16 ∧ Hid (val xs + val ys = N + M))
  case first =>
    by_cases hl : xs0.length < ys0.length
    · go_wp2_with fail
      go_meet
      exact ⟨rfl, bo0, ao0, cb0, ca0, ys0, xs0, rfl, rfl, rb0, ra0, uy0, ux0, by omega, ly0, Lib.hid (by rw [Hvx.out, Hvy.out]; omega)⟩
    · go_wp2_with fail
      go_meet
      exact ⟨rfl, ao0, bo0, ca0, cb0, xs0, ys0, rfl, rfl, ra0, rb0, ux0, uy0, by omega, lx0, Lib.hid (by rw [Hvx.out, Hvy.out])⟩
  case rest =>
    obtain ⟨rfl, ao, bo, ca, cb, xs, ys, rfl, rfl, ra, rb, ux, uy, hl, lx, hs⟩ := hcut
    clear ra0 rb0 ux0 uy0 cx0 cy0 lx0 ly0 R1 R2 Hvx Hvy hca0 hcb0
    obtain ⟨n, hn⟩ : ∃ n, n = xs.length := ⟨_, rfl⟩
    obtain ⟨m, hm⟩ : ∃ m, m = ys.length := ⟨_, rfl⟩
    rw [← hn] at lx hl ⊢
    rw [← hm] at hl ⊢
    have Hn := Lib.hid hn
    have Hm := Lib.hid hm
    clear hn hm
    have hmk : ∀ wx, (Instr.makeSlice 23 (.int .i64 ((n : Int) + 1)) (.int .i64 ((n : Int) + 1))).run Tryd.prog wx = .ok (.slice (some ⟨wx.heap.size, 0, none⟩) (n + 1) (n + 1)) (wx.alloc (.cells (arr (List.replicate (n + 1) 0)) 59)) := make_nat (n + 1) (by omega)
    go_wp2_with fail
    go_loopw [7, 30] (fun c i wr => ∃ k : Nat, ∃ zs : List Int, ∃ c0 : Int, k ≤ n ∧ i = .int .i64 k ∧ c = .int .u64 c0 ∧ 0 ≤ c0 ∧ c0 ≤ 1 ∧ zs.length = n + 1 ∧ U32s zs ∧ Hid (val (zs.take k) + pw k * c0 = val (xs.take k) + val (ys.take k)) ∧ wr = w.alloc (.cells (arr zs) 59)) (fun _ i _ => n - (intOf i).toNat)
    case atStart => exact ⟨0, List.replicate (n + 1) 0, 0, Nat.zero_le _, rfl, rfl, by omega, by omega, by simp, U32s_replicate _, Lib.hid (by simp [val]), rfl⟩
    case round =>
      obtain ⟨k, zs, c0, hk, rfl, rfl, hc0, hc1, hz, uz, hv, rfl⟩ := hrel
      have hzk := arr_at zs k (by omega)
      by_cases hkn : k < n
      · obtain ⟨b, off, rfl, hbs, hc⟩ := ra.cells (by rw [← Hn.out]; omega)
        have hck := hc k (by rw [← Hn.out]; omega)
        obtain ⟨x0, x1⟩ := lb_range ux k
        have Hc := Lib.hid hc
        clear hc
        by_cases hkm : k < m
        · obtain ⟨b2, off2, rfl, hbs2, hc2⟩ := rb.cells (by rw [← Hm.out]; omega)
          have hck2 := hc2 k (by rw [← Hm.out]; omega)
          obtain ⟨y0, y1⟩ := lb_range uy k
          have Hc2 := Lib.hid hc2
          clear hc2
          go_wp2_with fail
          go_roundw
          case rel =>
            refine ⟨k + 1, zs.set k ((c0 + lb xs k + lb ys k) % 4294967296), _, by omega, by go_num, rfl, by omega, by omega, by simpa using hz, U32s_set uz _ (by omega) (by omega), Lib.hid ?_, by rw [arr_set]⟩
            rw [carry_step (by omega) hv.out (s := lb xs k + lb ys k) (by omega), val_step (by rw [← Hn.out]; omega), val_step (by rw [← Hm.out]; omega), Int.mul_add]
            omega
          case measure => simp [intOf]; omega
        · go_wp2_with fail
          go_roundw
          case rel =>
            refine ⟨k + 1, zs.set k ((c0 + lb xs k) % 4294967296), _, by omega, by go_num, rfl, by omega, by omega, by simpa using hz, U32s_set uz _ (by omega) (by omega), Lib.hid ?_, by rw [arr_set]⟩
            rw [carry_step (by omega) hv.out (s := lb xs k) (by omega), val_step (by rw [← Hn.out]; omega), val_take_all (xs := ys) (k := k) (by rw [← Hm.out]; omega), val_take_all (xs := ys) (k := k + 1) (by rw [← Hm.out]; omega)]
            omega
          case measure => simp [intOf]; omega
      · have hkn' : k = n := by omega
        subst hkn'
        have hf := fit_any (some ⟨w.heap.size, 0, none⟩) (k + 1) (zs.set k c0) (w.alloc (.cells (arr (zs.set k c0)) 59)) (arr_row _ _ _) rfl (U32s_set uz _ (by omega) (by omega)) (by simp; omega) (by simp; omega)
        have hval : val (zs.set k c0) = N + M := by
          have h1 := carry_step (zs := zs) (k := k) (by omega) hv.out (d := c0) (q := 0) (s := 0) (by omega)
          rw [val_take_all (by simp; omega)] at h1
          rw [val_take_all (xs := xs) (by rw [← Hn.out]; omega), val_take_all (xs := ys) (by rw [← Hm.out]; omega), hs.out] at h1
          omega
        rw [hval, show (zs.set k c0).length = k + 1 by simpa using hz, ← arr_set] at hf
        have Hf := Lib.hid hf
        clear hf hval
        go_wp2_with fail
        refine Hf.out.mono ?_
        rintro e w1 ⟨ht, rfl⟩
        rcases ht with ⟨hlt, v, rfl, hn⟩ | ⟨hge, rfl⟩
        · have HN := Lib.hid hn
          have HL := Lib.hid hlt
          clear hn hlt
          go_wp2_with fail
          go_ret2
          exact ⟨.inl ⟨HL.out, v, rfl, HN.out⟩, (Below.refl _ _).alloc (Nat.le_refl _) _⟩
        · have HL := Lib.hid hge
          clear hge
          go_wp2_with fail
          go_ret2
          exact ⟨.inr ⟨HL.out, rfl⟩, (Below.refl _ _).alloc (Nat.le_refl _) _⟩

/-- Two slices of which one is no number: refused. -/
def Bad2 (w : World) (v u : Value) : Prop := ∃ xs ys, Sl w v xs ∧ Sl w u ys ∧ (rightB xs && rightB ys) = false

set_option maxHeartbeats 400000 in
theorem add_bad (v u : Value) (w : World) (h : Bad2 w v u) :
    Calls Tryd.prog 10 #[v, u] w fun e w' => e = .returned (.tuple #[.slice none 0 0, .int .i64 1]) ∧ w = w' := by
  obtain ⟨xs, ys, h1, h2, hb⟩ := h
  have R1 := Lib.hid (right_sl h1)
  have R2 := Lib.hid (right_sl h2)
  cases hx : rightB xs
  · have Hx := Lib.hid hx
    clear h1 h2 hb hx
    go_enter Tryd.func10, Tryd.ntmps10
    go_wp2_with fail
    refine R1.out.mono ?_
    rintro e w' ⟨rfl, rfl⟩
    rw [Hx.out]
    go_wp2_with fail
    go_ret2
    exact ⟨rfl, rfl⟩
  · have hy : rightB ys = false := by simpa [hx] using hb
    have Hx := Lib.hid hx
    have Hy := Lib.hid hy
    clear h1 h2 hb hx hy
    go_enter Tryd.func10, Tryd.ntmps10
    go_wp2_with fail
    refine R1.out.mono ?_
    rintro e w' ⟨rfl, rfl⟩
    rw [Hx.out]
    go_wp2_with fail
    refine R2.out.mono ?_
    rintro e w' ⟨rfl, rfl⟩
    rw [Hy.out]
    go_wp2_with fail
    go_ret2
    exact ⟨rfl, rfl⟩
end Go.Proofs.YtondjnmpfpfpmaaDoor
