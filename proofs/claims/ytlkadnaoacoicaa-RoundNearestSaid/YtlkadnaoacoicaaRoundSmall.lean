/- small: a number below 2^64. -/
import Derived.Test.YtlkadnaoacoicaaNE
namespace Go.Proofs.Ytlkadnaoacoicaa
open Go.RowKit NM

theorem val_drop_le : ∀ {xs : List Int}, U32s xs → ∀ k, val (xs.drop k) ≤ val xs
  | [], _, k => by simp
  | x :: xs, h, 0 => by simp
  | x :: xs, h, k + 1 => by
    have h2 : U32s xs := fun d hd => h d (List.mem_cons_of_mem _ hd)
    have h3 := val_drop_le h2 k
    have h4 := h x (List.mem_cons_self ..)
    have h5 := val_nonneg h2
    rw [List.drop_succ_cons, val]
    omega
set_option maxHeartbeats 1600000 in
set_option maxRecDepth 100000 in
theorem small_num (v : Value) (N : Int) (w : World) (h : Num w v N) (hN : N < 18446744073709551616) :
    Calls Try.prog 35 #[v] w fun e w' => e = .returned (.int .u64 N) ∧ w = w' := by
  obtain ⟨xs, ⟨ao, ca, rfl, hca, ra, ux, _⟩, rx, hvx⟩ := h
  obtain ⟨cx, lx⟩ := rightB_canon ux rx
  obtain ⟨n, hn⟩ : ∃ n, n = xs.length := ⟨_, rfl⟩
  rw [← hn] at lx ⊢
  have Hn := Lib.hid hn
  have Hvx := Lib.hid hvx
  clear hn hvx rx
  go_enter Try.func35, Try.ntmps35
  go_wp2_with fail
  go_loop [3, 4] (fun x i => ∃ k : Nat, k ≤ n ∧ i = .int .i64 ((k : Int) - 1) ∧ x = .int .u64 (val (xs.drop k))) (fun _ i => (intOf i + 1).toNat)
  case atStart => exact ⟨n, Nat.le_refl _, rfl, by rw [List.drop_of_length_le (by rw [← Hn.out]; omega)]; rfl⟩
  case round =>
    obtain ⟨k, hk, rfl, rfl⟩ := hrel
    cases k with
    | zero =>
      rw [List.drop_zero, Hvx.out]
      go_wp2_with fail
      go_ret
      exact ⟨rfl, rfl⟩
    | succ k =>
      have e1 : ((k + 1 : Nat) : Int) - 1 = k := by omega
      rw [e1]
      have hkx : k < xs.length := by rw [← Hn.out]; omega
      obtain ⟨b, off, rfl, hb, hc⟩ := ra.cells (by omega)
      have hck := hc k hkx
      have hv1 := val_drop hkx
      obtain ⟨V, hV⟩ : ∃ V, val (xs.drop (k + 1)) = V := ⟨_, rfl⟩
      have hV0 : 0 ≤ V := by rw [← hV]; exact val_nonneg (fun x hx => ux x (List.mem_of_mem_drop hx))
      have hx0 := lb_range ux k
      have hdl := val_drop_le ux k
      rw [hV] at hv1 ⊢
      rw [Hvx.out] at hdl
      have hV1 : V < 4294967296 := by omega
      obtain ⟨x, hx⟩ : ∃ x, lb xs k = x := ⟨_, rfl⟩
      rw [hx] at hck hx0 hv1
      have hor := or_u64 hV0 hV1 hx0.1 hx0.2
      have Hv := Lib.hid hv1
      have hw := wrap_in (x := V * 4294967296) (by omega) (by omega)
      clear hc hv1 hV hdl e1
      go_wp2_with fail
      go_round
      case rel => exact ⟨k, by omega, rfl, by rw [Hv.out]; congr 1; omega⟩
      case measure => simp [intOf]
end Go.Proofs.Ytlkadnaoacoicaa
