/- Mul and Sub. -/
import Derived.Test.YtondjnmpfpfpmaaDoorNatAdd
namespace Go.Proofs.YtondjnmpfpfpmaaDoor
open Go.RowKit NM

theorem arr_now (w : World) (zs : List Int) (t : TypeId) (k : Nat) (h : k < zs.length) : (w.alloc (.cells (arr zs) t)).cell? ⟨w.heap.size, k, none⟩ = some (.int .u32 (lb zs k)) := arr_cell w zs t k h

set_option maxHeartbeats 4000000 in
set_option maxRecDepth 100000 in
theorem mul_num (v u : Value) (N M : Int) (w : World) (h1 : Num w v N) (h2 : Num w u M) :
    Calls Tryd.prog 12 #[v, u] w fun e w' => Told (N * M) e w' ∧ Below w.heap.size w w' := by
  have R1 := Lib.hid (right_num h1)
  have R2 := Lib.hid (right_num h2)
  obtain ⟨xs, ⟨ao, ca, rfl, _, ra, ux, _⟩, rx, hvx⟩ := h1
  obtain ⟨ys, ⟨bo, cb, rfl, _, rb, uy, _⟩, ry, hvy⟩ := h2
  obtain ⟨_, lx⟩ := rightB_canon ux rx
  obtain ⟨_, ly⟩ := rightB_canon uy ry
  have Hvx := Lib.hid hvx
  have Hvy := Lib.hid hvy
  clear hvx hvy rx ry
  go_enter Tryd.func12, Tryd.ntmps12
  go_wp2_with fail
  refine R1.out.mono ?_
  rintro e w' ⟨rfl, rfl⟩
  go_wp2_with fail
  refine R2.out.mono ?_
  rintro e w' ⟨rfl, rfl⟩
  clear R1 R2
  obtain ⟨n, hn⟩ : ∃ n, n = xs.length := ⟨_, rfl⟩
  obtain ⟨m, hm⟩ : ∃ m, m = ys.length := ⟨_, rfl⟩
  rw [← hn] at lx ⊢
  rw [← hm] at ly ⊢
  have Hn := Lib.hid hn
  have Hm := Lib.hid hm
  clear hn hm
  have hmk : ∀ wx, (Instr.makeSlice 23 (.int .i64 ((n : Int) + (m : Int))) (.int .i64 ((n : Int) + (m : Int)))).run Tryd.prog wx = .ok (.slice (some ⟨wx.heap.size, 0, none⟩) (n + m) (n + m)) (wx.alloc (.cells (arr (List.replicate (n + m) 0)) 59)) := make_nat (n + m) (by omega)
  go_wp2_with fail
  go_loopw [8, 9, 26] (fun _ _ i wr => ∃ k : Nat, ∃ zs : List Int, ∃ nd : Nat, k ≤ n ∧ i = .int .i64 k ∧ zs.length = n + m ∧ U32s zs ∧ Hid (val zs = val (xs.take k) * val ys) ∧ Hid (∀ j, k + m ≤ j → lb zs j = 0) ∧ wr = (w.alloc (.cells (arr zs) 59)).drewN nd) (fun _ _ i _ => n - (intOf i).toNat)
  case atStart => exact ⟨0, List.replicate (n + m) 0, 0, Nat.zero_le _, rfl, by simp, U32s_replicate _, Lib.hid (by rw [val_replicate]; simp [val]), Lib.hid (fun j _ => lb_replicate _ _), rfl⟩
  case round =>
    obtain ⟨k, zs, nd, hk, rfl, hz, uz, hv, hz0, rfl⟩ := hrel
    by_cases hkn : k < n
    · obtain ⟨b, off, rfl, hbs, hc⟩ := ra.cells (by rw [← Hn.out]; omega)
      have hck := hc k (by rw [← Hn.out]; omega)
      obtain ⟨x0, x1⟩ := lb_range ux k
      have Hc := Lib.hid hc
      clear hc
      go_wp2_with fail
      go_loopw [8, 9, 31] (fun c _ j wr => ∃ l : Nat, ∃ zt : List Int, ∃ c0 : Int, ∃ nt : Nat, l ≤ m ∧ j = .int .i64 l ∧ c = .int .u64 c0 ∧ 0 ≤ c0 ∧ c0 ≤ 4294967295 ∧ zt.length = n + m ∧ U32s zt ∧ Hid (val zt + pw (k + l) * c0 = val (xs.take k) * val ys + pw k * (lb xs k * val (ys.take l))) ∧ Hid (∀ j, k + m ≤ j → lb zt j = 0) ∧ wr = (w.alloc (.cells (arr zt) 59)).drewN nt) (fun _ _ j _ => m - (intOf j).toNat)
      case atStart => exact ⟨0, zs, 0, nd, Nat.zero_le _, rfl, rfl, by omega, by omega, hz, uz, Lib.hid (by rw [hv.out]; simp [val]), hz0, rfl⟩
      case round =>
        obtain ⟨l, zt, c0, nt, hl, rfl, rfl, hc0, hc1, hzt, uzt, hvt, hz0t, rfl⟩ := hrel
        by_cases hlm : l < m
        · obtain ⟨b2, off2, rfl, hbs2, hc2⟩ := rb.cells (by rw [← Hm.out]; omega)
          have hck2 := hc2 l (by rw [← Hm.out]; omega)
          obtain ⟨y0, y1⟩ := lb_range uy l
          obtain ⟨z0, z1⟩ := lb_range uzt (k + l)
          obtain ⟨p0, p1⟩ := NM.prod_bound x0 x1 y0 y1
          have hzk := arr_at zt (k + l) (by omega)
          have Hc2 := Lib.hid hc2
          clear hc2
          go_wp2_with fail
          go_quiet (fail)
          go_wp2_with fail
          go_roundw
          case rel =>
            refine ⟨l + 1, zt.set (k + l) ((c0 + (lb xs k * lb ys l + lb zt (k + l))) % 4294967296), _, _, by omega, by go_num, rfl, by omega, by omega, by simpa using hzt, U32s_set uzt _ (by omega) (by omega), Lib.hid ?_, Lib.hid ?_, by rw [own_set]⟩
            · have h1 := mul_step (zs := zt) (k := k + l) (by omega) (c := c0) (s := lb xs k * lb ys l) (d := (c0 + (lb xs k * lb ys l + lb zt (k + l))) % 4294967296) (q := (c0 + (lb xs k * lb ys l + lb zt (k + l))) / 4294967296) (by omega)
              rw [← Nat.add_assoc, h1, hvt.out, val_step (by rw [← Hm.out]; omega), pw_add, Int.mul_add (lb xs k), Int.mul_add (pw k), Int.mul_assoc (pw k), ← Int.mul_assoc (lb xs k), Int.mul_comm (lb xs k) (pw l), Int.mul_assoc (pw l)]
              omega
            · intro j hj
              rw [lb_set_ne (by omega)]
              exact hz0t.out j hj
          case measure => simp [intOf]; omega
        · have : l = m := by omega
          subst this
          have hzk := arr_at zt (k + l) (by omega)
          go_wp2_with fail
          go_roundw
          case rel =>
            refine ⟨k + 1, zt.set (k + l) c0, _, by omega, by go_num, by simpa using hzt, U32s_set uzt _ (by omega) (by omega), Lib.hid ?_, Lib.hid ?_, by rw [own_set]⟩
            · rw [val_set _ _ _ (by omega), hz0t.out (k + l) (by omega), Int.sub_zero, hvt.out, val_take_all (xs := ys) (by rw [← Hm.out]; omega), val_step (by rw [← Hn.out]; omega), Int.add_mul, Int.mul_assoc]
            · intro j hj
              rw [lb_set_ne (by omega)]
              exact hz0t.out j (by omega)
          case measure => simp [intOf]; omega
    · have : k = n := by omega
      subst this
      have hf := fit_any (some ⟨w.heap.size, 0, none⟩) (k + m) zs ((w.alloc (.cells (arr zs) 59)).drewN nd) ((arr_row _ _ _).below (below_drewN (Below.refl _ _) _)) rfl uz (by omega) (by omega)
      have hval : val zs = N * M := by rw [hv.out, val_take_all (by rw [← Hn.out]; omega), Hvx.out, Hvy.out]
      rw [hval, hz] at hf
      have Hf := Lib.hid hf
      clear hf hval
      have hbl : Below w.heap.size w ((w.alloc (.cells (arr zs) 59)).drewN nd) := below_drewN ((Below.refl _ _).alloc (Nat.le_refl _) _) _
      go_wp2_with fail
      refine Hf.out.mono ?_
      rintro e w1 ⟨ht, rfl⟩
      rcases ht with ⟨hlt, v, rfl, hn⟩ | ⟨hge, rfl⟩
      · have HN := Lib.hid hn
        have HL := Lib.hid hlt
        clear hn hlt
        go_wp2_with fail
        go_ret2
        exact ⟨.inl ⟨HL.out, v, rfl, HN.out⟩, hbl⟩
      · have HL := Lib.hid hge
        clear hge
        go_wp2_with fail
        go_ret2
        exact ⟨.inr ⟨HL.out, rfl⟩, hbl⟩

set_option maxHeartbeats 400000 in
theorem mul_bad (v u : Value) (w : World) (h : Bad2 w v u) :
    Calls Tryd.prog 12 #[v, u] w fun e w' => e = .returned (.tuple #[.slice none 0 0, .int .i64 1]) ∧ w = w' := by
  obtain ⟨xs, ys, h1, h2, hb⟩ := h
  have R1 := Lib.hid (right_sl h1)
  have R2 := Lib.hid (right_sl h2)
  cases hx : rightB xs
  · have Hx := Lib.hid hx
    clear h1 h2 hb hx
    go_enter Tryd.func12, Tryd.ntmps12
    go_wp2_with fail
    refine R1.out.mono ?_
    rintro e w' ⟨rfl, rfl⟩
    rw [Hx.out]
    go_wp2_with fail
    go_ret2
    exact ⟨rfl, rfl⟩
  · have hy : rightB ys = false := by simpa [hx] using hb
    have Hx := Lib.hid hx
    have Hy := Lib.hid hy
    clear h1 h2 hb hx hy
    go_enter Tryd.func12, Tryd.ntmps12
    go_wp2_with fail
    refine R1.out.mono ?_
    rintro e w' ⟨rfl, rfl⟩
    rw [Hx.out]
    go_wp2_with fail
    refine R2.out.mono ?_
    rintro e w' ⟨rfl, rfl⟩
    rw [Hy.out]
    go_wp2_with fail
    go_ret2
    exact ⟨rfl, rfl⟩

set_option maxHeartbeats 400000 in
theorem sub_bad (v u : Value) (w : World) (h : Bad2 w v u) :
    Calls Tryd.prog 11 #[v, u] w fun e w' => e = .returned (.tuple #[.slice none 0 0, .int .i64 1]) ∧ w = w' := by
  obtain ⟨xs, ys, h1, h2, hb⟩ := h
  have R1 := Lib.hid (right_sl h1)
  have R2 := Lib.hid (right_sl h2)
  cases hx : rightB xs
  · have Hx := Lib.hid hx
    clear h1 h2 hb hx
    go_enter Tryd.func11, Tryd.ntmps11
    go_wp2_with fail
    refine R1.out.mono ?_
    rintro e w' ⟨rfl, rfl⟩
    rw [Hx.out]
    go_wp2_with fail
    go_ret2
    exact ⟨rfl, rfl⟩
  · have hy : rightB ys = false := by simpa [hx] using hb
    have Hx := Lib.hid hx
    have Hy := Lib.hid hy
    clear h1 h2 hb hx hy
    go_enter Tryd.func11, Tryd.ntmps11
    go_wp2_with fail
    refine R1.out.mono ?_
    rintro e w' ⟨rfl, rfl⟩
    rw [Hx.out]
    go_wp2_with fail
    refine R2.out.mono ?_
    rintro e w' ⟨rfl, rfl⟩
    rw [Hy.out]
    go_wp2_with fail
    go_ret2
    exact ⟨rfl, rfl⟩

set_option maxHeartbeats 400000 in
theorem cmp_bad (v u : Value) (w : World) (h : Bad2 w v u) :
    Calls Tryd.prog 9 #[v, u] w fun e w' => e = .returned (.tuple #[.int .i64 0, .int .i64 1]) ∧ w = w' := by
  obtain ⟨xs, ys, h1, h2, hb⟩ := h
  have R1 := Lib.hid (right_sl h1)
  have R2 := Lib.hid (right_sl h2)
  cases hx : rightB xs
  · have Hx := Lib.hid hx
    clear h1 h2 hb hx
    go_enter Tryd.func9, Tryd.ntmps9
    go_wp2_with fail
    refine R1.out.mono ?_
    rintro e w' ⟨rfl, rfl⟩
    rw [Hx.out]
    go_wp2_with fail
    go_ret2
    exact ⟨rfl, rfl⟩
  · have hy : rightB ys = false := by simpa [hx] using hb
    have Hx := Lib.hid hx
    have Hy := Lib.hid hy
    clear h1 h2 hb hx hy
    go_enter Tryd.func9, Tryd.ntmps9
    go_wp2_with fail
    refine R1.out.mono ?_
    rintro e w' ⟨rfl, rfl⟩
    rw [Hx.out]
    go_wp2_with fail
    refine R2.out.mono ?_
    rintro e w' ⟨rfl, rfl⟩
    rw [Hy.out]
    go_wp2_with fail
    go_ret2
    exact ⟨rfl, rfl⟩

set_option maxHeartbeats 400000 in
theorem div_bad (v u : Value) (w : World) (h : Bad2 w v u) :
    Calls Tryd.prog 22 #[v, u] w fun e w' => e = .returned (.tuple #[.slice none 0 0, .slice none 0 0, .int .i64 1]) ∧ w = w' := by
  obtain ⟨xs, ys, h1, h2, hb⟩ := h
  have R1 := Lib.hid (right_sl h1)
  have R2 := Lib.hid (right_sl h2)
  cases hx : rightB xs
  · have Hx := Lib.hid hx
    clear h1 h2 hb hx
    go_enter Tryd.func22, Tryd.ntmps22
    go_wp2_with fail
    refine R1.out.mono ?_
    rintro e w' ⟨rfl, rfl⟩
    rw [Hx.out]
    go_wp2_with fail
    go_ret3
    exact ⟨rfl, rfl⟩
  · have hy : rightB ys = false := by simpa [hx] using hb
    have Hx := Lib.hid hx
    have Hy := Lib.hid hy
    clear h1 h2 hb hx hy
    go_enter Tryd.func22, Tryd.ntmps22
    go_wp2_with fail
    refine R1.out.mono ?_
    rintro e w' ⟨rfl, rfl⟩
    rw [Hx.out]
    go_wp2_with fail
    refine R2.out.mono ?_
    rintro e w' ⟨rfl, rfl⟩
    rw [Hy.out]
    go_wp2_with fail
    go_ret3
    exact ⟨rfl, rfl⟩
end Go.Proofs.YtondjnmpfpfpmaaDoor
