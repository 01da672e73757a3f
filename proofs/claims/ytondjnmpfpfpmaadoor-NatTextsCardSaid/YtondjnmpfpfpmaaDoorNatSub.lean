/- Sub; short division; small numbers. -/
import Derived.Test.YtondjnmpfpfpmaaDoorNatMul
namespace Go.Proofs.YtondjnmpfpfpmaaDoor
open Go.RowKit NM

theorem wrap_below {x : Int} (h0 : -18446744073709551616 ≤ x) (h1 : x < 0) : IntKind.u64.wrap x = x + 18446744073709551616 := by
  simp only [IntKind.wrap, IntKind.signed, IntKind.bits]
  simp
  omega

set_option maxHeartbeats 400000 in
theorem sub_less (v u : Value) (N M : Int) (w : World) (h1 : Num w v N) (h2 : Num w u M) (hlt : N < M) :
    Calls Tryd.prog 11 #[v, u] w fun e w' => e = .returned (.tuple #[.slice none 0 0, .int .i64 3]) ∧ Below w.heap.size w w' := by
  have R1 := Lib.hid (right_num h1)
  have R2 := Lib.hid (right_num h2)
  have C := Lib.hid (compare_num h1 h2)
  have Hs := Lib.hid (show sgn N M = -1 by rw [sgn, if_pos hlt])
  clear h1 h2 hlt
  go_enter Tryd.func11, Tryd.ntmps11
  go_wp2_with fail
  refine R1.out.mono ?_
  rintro e w' ⟨rfl, rfl⟩
  go_wp2_with fail
  refine R2.out.mono ?_
  rintro e w' ⟨rfl, rfl⟩
  go_wp2_with fail
  refine C.out.mono ?_
  rintro e w1 ⟨rfl, hb⟩
  rw [Hs.out]
  go_wp2_with fail
  go_ret2
  exact ⟨rfl, hb⟩

set_option maxHeartbeats 2000000 in
set_option maxRecDepth 100000 in
theorem sub_num (v u : Value) (N M : Int) (w : World) (h1 : Num w v N) (h2 : Num w u M) (hle : M ≤ N) :
    Calls Tryd.prog 11 #[v, u] w fun e w' => (∃ r, e = .returned (.tuple #[r, .int .i64 0]) ∧ Num w' r (N - M)) ∧ Below w.heap.size w w' := by
  have R1 := Lib.hid (right_num h1)
  have R2 := Lib.hid (right_num h2)
  have C := Lib.hid (compare_num h1 h2)
  have hsg : 0 ≤ sgn N M := by rw [sgn]; split <;> (try split) <;> omega
  have hrng := h1.range
  have hrng2 := h2.range
  obtain ⟨xs, ⟨ao, ca, rfl, hca, ra0, ux, _⟩, rx, hvx⟩ := h1
  obtain ⟨ys, ⟨bo, cb, rfl, hcb, rb0, uy, _⟩, ry, hvy⟩ := h2
  obtain ⟨cx, lx⟩ := rightB_canon ux rx
  obtain ⟨cy, ly⟩ := rightB_canon uy ry
  have hl : ys.length ≤ xs.length := by
    by_cases h : ys.length ≤ xs.length
    · exact h
    · have := val_lt_of_len ux cy (by omega)
      omega
  have Hvx := Lib.hid hvx
  have Hvy := Lib.hid hvy
  clear hvx hvy rx ry
  go_enter Tryd.func11, Tryd.ntmps11
  go_wp2_with fail
  refine R1.out.mono ?_
  rintro e w' ⟨rfl, rfl⟩
  go_wp2_with fail
  refine R2.out.mono ?_
  rintro e w' ⟨rfl, rfl⟩
  go_wp2_with fail
  refine C.out.mono ?_
  rintro e w1 ⟨rfl, hb⟩
  have ra := ra0.below hb
  have rb := rb0.below hb
  clear R1 R2 C ra0 rb0
  obtain ⟨n, hn⟩ : ∃ n, n = xs.length := ⟨_, rfl⟩
  obtain ⟨m, hm⟩ : ∃ m, m = ys.length := ⟨_, rfl⟩
  rw [← hn] at lx hl ⊢
  rw [← hm] at ly hl ⊢
  have Hn := Lib.hid hn
  have Hm := Lib.hid hm
  clear hn hm
  have hmk : ∀ wx, (Instr.makeSlice 23 (.int .i64 (n : Int)) (.int .i64 (n : Int))).run Tryd.prog wx = .ok (.slice (some ⟨wx.heap.size, 0, none⟩) n n) (wx.alloc (.cells (arr (List.replicate n 0)) 59)) := make_nat n (by omega)
  go_wp2_with fail
  go_loopw [7, 28] (fun c i wr => ∃ k : Nat, ∃ zs : List Int, ∃ c0 : Int, k ≤ n ∧ i = .int .i64 k ∧ c = .int .u64 c0 ∧ 0 ≤ c0 ∧ c0 ≤ 1 ∧ zs.length = n ∧ U32s zs ∧ Hid (val (zs.take k) + pw k * (0 - c0) = val (xs.take k) - val (ys.take k)) ∧ wr = w1.alloc (.cells (arr zs) 59)) (fun _ i _ => n - (intOf i).toNat)
  case atStart => exact ⟨0, List.replicate n 0, 0, Nat.zero_le _, rfl, rfl, by omega, by omega, by simp, U32s_replicate _, Lib.hid (by simp [val]), rfl⟩
  case round =>
    obtain ⟨k, zs, c0, hk, rfl, rfl, hc0, hc1, hz, uz, hv, rfl⟩ := hrel
    by_cases hkn : k < n
    · have hzk := arr_at zs k (by omega)
      obtain ⟨b, off, rfl, hbs, hc⟩ := ra.cells (by rw [← Hn.out]; omega)
      have hck := hc k (by rw [← Hn.out]; omega)
      obtain ⟨x0, x1⟩ := lb_range ux k
      have Hc := Lib.hid hc
      clear hc
      by_cases hkm : k < m
      · obtain ⟨b2, off2, rfl, hbs2, hc2⟩ := rb.cells (by rw [← Hm.out]; omega)
        have hck2 := hc2 k (by rw [← Hm.out]; omega)
        obtain ⟨y0, y1⟩ := lb_range uy k
        have Hc2 := Lib.hid hc2
        clear hc2
        by_cases hge : c0 + lb ys k ≤ lb xs k
        · go_wp2_with fail
          go_roundw
          case rel =>
            refine ⟨k + 1, zs.set k (lb xs k - (c0 + lb ys k)), _, by omega, by go_num, rfl, by omega, by omega, by simpa using hz, U32s_set uz _ (by omega) (by omega), Lib.hid ?_, by rw [arr_set]⟩
            rw [carry_step (c := 0 - c0) (s := lb xs k - lb ys k) (by omega) hv.out (by omega), val_step (by rw [← Hn.out]; omega), val_step (by rw [← Hm.out]; omega), Int.mul_sub]
            omega
          case measure => simp [intOf]; omega
        · have hw := wrap_below (show -18446744073709551616 ≤ lb xs k - (c0 + lb ys k) by omega) (by omega)
          have Hw := Lib.hid hw
          clear hw
          go_wp2_with fail
          go_roundw
          case rel =>
            refine ⟨k + 1, zs.set k (IntKind.u64.wrap (lb xs k - (c0 + lb ys k)) % 4294967296), _, by omega, by go_num, rfl, ?_, ?_, by simpa using hz, U32s_set uz _ (by omega) (by omega), Lib.hid ?_, by rw [arr_set]⟩
            · rw [Hw.out]; omega
            · rw [Hw.out]; omega
            · rw [carry_step (c := 0 - c0) (s := lb xs k - lb ys k) (by omega) hv.out (by rw [Hw.out]; omega), val_step (by rw [← Hn.out]; omega), val_step (by rw [← Hm.out]; omega), Int.mul_sub]
              omega
          case measure => simp [intOf]; omega
      · by_cases hge : c0 ≤ lb xs k
        · go_wp2_with fail
          go_roundw
          case rel =>
            refine ⟨k + 1, zs.set k (lb xs k - c0), _, by omega, by go_num, rfl, by omega, by omega, by simpa using hz, U32s_set uz _ (by omega) (by omega), Lib.hid ?_, by rw [arr_set]⟩
            rw [carry_step (c := 0 - c0) (s := lb xs k) (by omega) hv.out (by omega), val_step (by rw [← Hn.out]; omega), val_take_all (xs := ys) (k := k) (by rw [← Hm.out]; omega), val_take_all (xs := ys) (k := k + 1) (by rw [← Hm.out]; omega)]
            omega
          case measure => simp [intOf]; omega
        · have hw := wrap_below (show -18446744073709551616 ≤ lb xs k - c0 by omega) (by omega)
          have Hw := Lib.hid hw
          clear hw
          go_wp2_with fail
          go_roundw
          case rel =>
            refine ⟨k + 1, zs.set k (IntKind.u64.wrap (lb xs k - c0) % 4294967296), _, by omega, by go_num, rfl, ?_, ?_, by simpa using hz, U32s_set uz _ (by omega) (by omega), Lib.hid ?_, by rw [arr_set]⟩
            · rw [Hw.out]; omega
            · rw [Hw.out]; omega
            · rw [carry_step (c := 0 - c0) (s := lb xs k) (by omega) hv.out (by rw [Hw.out]; omega), val_step (by rw [← Hn.out]; omega), val_take_all (xs := ys) (k := k) (by rw [← Hm.out]; omega), val_take_all (xs := ys) (k := k + 1) (by rw [← Hm.out]; omega)]
              omega
          case measure => simp [intOf]; omega
    · have hkn' : k = n := by omega
      subst hkn'
      have h1 := hv.out
      rw [List.take_of_length_le (by omega), val_take_all (xs := xs) (by rw [← Hn.out]; omega), val_take_all (xs := ys) (by rw [← Hm.out]; omega), Hvx.out, Hvy.out] at h1
      have hlt := val_lt uz
      have hc00 : c0 = 0 := by
        rcases (show c0 = 0 ∨ c0 = 1 by omega) with h | h
        · exact h
        · rw [h] at h1; rw [hz] at hlt; omega
      rw [hc00] at h1
      have hval : val zs = N - M := by omega
      have hsm : tl zs zs.length ≤ 16 := by have := tl_le zs zs.length; omega
      have hnum := trimmed_num (arr_row w1 zs 59) uz (cap := k) (by omega) hsm
      rw [hval, hz] at hnum
      have Hnum := Lib.hid hnum
      have htr := trim_any (some ⟨w1.heap.size, 0, none⟩) k zs (w1.alloc (.cells (arr zs) 59)) (arr_row _ _ _) (by omega) (by omega)
      rw [hz] at htr
      have Htr := Lib.hid htr
      clear hnum htr hval h1 hc00 hlt hsm
      go_wp2_with fail
      refine Htr.out.mono ?_
      rintro e w2 ⟨rfl, rfl⟩
      go_wp2_with fail
      go_ret2
      exact ⟨⟨_, rfl, Hnum.out⟩, hb.trans ((Below.refl _ _).alloc hb.size _)⟩
end Go.Proofs.YtondjnmpfpfpmaaDoor
