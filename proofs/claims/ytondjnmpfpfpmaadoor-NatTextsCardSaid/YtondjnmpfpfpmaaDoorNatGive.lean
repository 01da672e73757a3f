/- giveBack. -/
import Derived.Test.YtondjnmpfpfpmaaDoorNatRows
namespace Go.Proofs.YtondjnmpfpfpmaaDoor
open Go.RowKit NM

/-- What giveBack leaves. -/
def GiveOk (us vs : List Int) (off m : Nat) (co : Int) (us' : List Int) : Prop :=
  us'.length = us.length ∧ U32s us' ∧ (co = 0 ∨ co = 1) ∧ val us' = val us + pw off * (0 - (-1) * val vs + pw (m + 1) * (-co + 0)) ∧ ∀ j, off + (m + 1) ≤ j → lb us' j = lb us j

set_option maxHeartbeats 4000000 in
set_option maxRecDepth 100000 in
theorem give_any (ub off cu cv : Nat) (vo : Option Addr) (us vs : List Int) (m : Nat) (w : World) (hu : RowAt w ub us) (rv : Row w vo vs) (hne : ∀ b o, vo = some ⟨b, o, none⟩ → b ≠ ub) (uu : U32s us) (uv : U32s vs)
    (hlv : vs.length = m) (hm : m ≤ 40) (hlu : off + (m + 1) ≤ us.length) (_hlu2 : us.length ≤ 1000) :
    Calls Tryd.prog 54 #[.slice (some ⟨ub, off, none⟩) (m + 1) cu, .slice vo m cv] w fun e w' => ∃ co us', e = .returned (.tuple #[]) ∧ GiveOk us vs off m co us' ∧ RowAt w' ub us' ∧ OnlyB ub w w' := by
  go_enter Tryd.func54, Tryd.ntmps54
  go_wp2_with fail
  go_loopw [4, 8] (fun c i wr => ∃ k : Nat, ∃ zs : List Int, ∃ c0 : Int, k ≤ m + 1 ∧ i = .int .i64 k ∧ c = .int .u64 c0 ∧ 0 ≤ c0 ∧ c0 ≤ 1 ∧ zs.length = us.length ∧ U32s zs ∧ Hid (val zs = val us + pw off * (0 - (-1) * val (vs.take k) + pw k * (-c0 + 0))) ∧ Hid (∀ j, off + k ≤ j → lb zs j = lb us j) ∧ RowAt wr ub zs ∧ OnlyB ub w wr) (fun _ i _ => m + 1 - (intOf i).toNat)
  case atStart => exact ⟨0, us, 0, Nat.zero_le _, rfl, rfl, by omega, by omega, rfl, uu, Lib.hid (by simp [val]), Lib.hid (fun _ _ => rfl), hu, OnlyB.refl _ _⟩
  case round =>
    obtain ⟨k, zs, c0, hk, rfl, rfl, hc0, hc1, hz, uz, hv, hs, hrow, ho⟩ := hrel
    rename_i wr
    by_cases hkn : k < m + 1
    · have hck := hrow.cell (k := off + k) (by omega)
      have hfk := hrow.free (off + k)
      obtain ⟨x0, x1⟩ := lb_range uz (off + k)
      by_cases hkm : k < m
      · obtain ⟨vb, voff, rfl, hvb, hcv⟩ := rv.cells (by omega)
        have hcv0 := hcv k (by omega)
        have hvne := hne vb voff rfl
        have kv0 : wr.cell? ⟨vb, voff + k, none⟩ = some (.int .u32 (lb vs k)) := by
          rw [← hcv0]
          exact World.cell?_of_block (w := w) (ho.block vb hvb hvne)
        obtain ⟨y0, y1⟩ := lb_range uv k
        have Hcv := Lib.hid hcv
        clear hcv hcv0
        go_wp2_with fail
        go_roundw
        case rel =>
          refine ⟨k + 1, zs.set (off + k) ((c0 + lb zs (off + k) + lb vs k) % 4294967296), _, by omega, by go_num, rfl, by omega, by omega, by simpa using hz, U32s_set uz _ (by omega) (by omega), Lib.hid ?_, Lib.hid ?_, hrow.set _ _, ho.set _ _⟩
          · exact take_step (by omega) hv.out (s := -1 * lb vs k) (by rw [val_step (by omega), Int.mul_add, show -1 * (pw k * lb vs k) = pw k * (-1 * lb vs k) by ac_rfl]) (by omega)
          · intro j hj
            rw [lb_set_ne (by omega)]
            exact hs.out j (by omega)
        case measure => simp [intOf]; omega
      · have hkm' : k = m := by omega
        subst hkm'
        go_wp2_with fail
        go_roundw
        case rel =>
          refine ⟨k + 1, zs.set (off + k) ((c0 + lb zs (off + k)) % 4294967296), _, by omega, by go_num, rfl, by omega, by omega, by simpa using hz, U32s_set uz _ (by omega) (by omega), Lib.hid ?_, Lib.hid ?_, hrow.set _ _, ho.set _ _⟩
          · exact take_step (by omega) hv.out (s := 0) (by rw [val_take_all (xs := vs) (k := k) (by omega), val_take_all (xs := vs) (k := k + 1) (by omega)]; omega) (by omega)
          · intro j hj
            rw [lb_set_ne (by omega)]
            exact hs.out j (by omega)
        case measure => simp [intOf]
    · have hk2 : k = m + 1 := by omega
      subst hk2
      have hok := Lib.hid (show GiveOk us vs off m c0 zs from ⟨hz, uz, by omega, by
        rw [hv.out, val_take_all (xs := vs) (by omega)], hs.out⟩)
      go_wp2_with fail
      go_end0
      exact ⟨c0, zs, rfl, hok.out, hrow, ho⟩

/-! ### One limb of the quotient: plain facts -/
/-- Before a limb: the row, from place i on, is less than 2^32 times V. After: less than V. -/
theorem seg_val {us : List Int} (uu : U32s us) (i m : Nat) (hl : i + (m + 1) ≤ us.length) (hz : ∀ j, i + (m + 1) ≤ j → lb us j = 0) :
    val us = val (us.take i) + pw i * val ((us.drop i).take (m + 1)) ∧ 0 ≤ val (us.take i) ∧ val (us.take i) < pw i ∧ U32s ((us.drop i).take (m + 1)) ∧ ((us.drop i).take (m + 1)).length = m + 1 := by
  have h1 := val_split us i (by omega)
  have h2 := val_split (us.drop i) (m + 1) (by simp; omega)
  have h3 : val ((us.drop i).drop (m + 1)) = 0 := by
    have : ∀ (l : List Int), (∀ j, lb l j = 0) → val l = 0 := by
      intro l
      induction l with
      | nil => intro _; rfl
      | cons x l ih =>
        intro h
        have h0 := h 0
        have h1 : val l = 0 := ih (fun j => by have := h (j + 1); simpa [lb] using this)
        simp [lb] at h0
        simp [val, h0, h1]
    apply this
    intro j
    rw [lb_drop, lb_drop]
    exact hz _ (by omega)
  rw [h3] at h2
  refine ⟨by rw [h1, h2]; simp, val_nonneg (U32s_take uu i), ?_, U32s_take (U32s_drop uu i) _, by simp; omega⟩
  have := val_lt (U32s_take uu i)
  rw [List.length_take, Nat.min_eq_left (by omega)] at this
  exact this
end Go.Proofs.YtondjnmpfpfpmaaDoor
