/- Rows that are written in place; take and giveBack. -/
import Derived.Test.YtondjnmpfpfpmaaDoorNatGuess
import Derived.OneCell
namespace Go.Proofs.YtondjnmpfpfpmaaDoor
open Go.RowKit NM

/-- Block b is a row of limbs of its own. -/
def RowAt (w : World) (b : Nat) (us : List Int) : Prop := w.heap[b]? = some (.cells (arr us) 59 (0, 0))
/-- Nothing that was there has changed but block b. -/
structure OnlyB (b : Nat) (w w' : World) : Prop where
  os : w'.os = w.os
  tape : w'.tape = w.tape
  output : w'.output = w.output
  size : w.heap.size ≤ w'.heap.size
  block : ∀ k, k < w.heap.size → k ≠ b → w'.heap[k]? = w.heap[k]?

theorem OnlyB.refl (b : Nat) (w : World) : OnlyB b w w := ⟨rfl, rfl, rfl, Nat.le_refl _, fun _ _ _ => rfl⟩
theorem OnlyB.trans {b : Nat} {x y z : World} (h : OnlyB b x y) (k : OnlyB b y z) : OnlyB b x z :=
  ⟨k.os.trans h.os, k.tape.trans h.tape, k.output.trans h.output, Nat.le_trans h.size k.size, fun i hi hn => (k.block i (Nat.lt_of_lt_of_le hi h.size) hn).trans (h.block i hi hn)⟩
theorem OnlyB.set {b : Nat} {w w' : World} (h : OnlyB b w w') (k : Nat) (v : Value) : OnlyB b w (w'.setCell ⟨b, k, none⟩ v) :=
  h.trans ⟨rfl, rfl, rfl, by simp [World.setCell], fun i _ hn => Below.heap_setCell _ _ _ _ hn⟩
theorem OnlyB.drewN {b : Nat} {w w' : World} (h : OnlyB b w w') (n : Nat) : OnlyB b w (w'.drewN n) :=
  h.trans ⟨rfl, rfl, rfl, Nat.le_refl _, fun _ _ _ => rfl⟩
theorem OnlyB.of_below {b : Nat} {w w' : World} (h : Below w.heap.size w w') : OnlyB b w w' :=
  ⟨h.os, h.tape, h.output, h.size, fun k hk _ => h.block k hk⟩
theorem OnlyB.below {b B : Nat} {w w' : World} (h : OnlyB b w w') (hB : B ≤ b) (hs : B ≤ w.heap.size) : Below B w w' :=
  ⟨h.os, h.tape, h.output, h.size, fun k hk => h.block k (by omega) (by omega)⟩

theorem RowAt.lt {w : World} {b : Nat} {us : List Int} (h : RowAt w b us) : b < w.heap.size := lt_of_block h
theorem RowAt.cell {w : World} {b : Nat} {us : List Int} (h : RowAt w b us) {k : Nat} (hk : k < us.length) : w.cell? ⟨b, k, none⟩ = some (.int .u32 (lb us k)) := by
  unfold RowAt at h
  simp only [World.cell?, h]
  exact arr_at us k hk
theorem RowAt.free {w : World} {b : Nat} {us : List Int} (h : RowAt w b us) (k : Nat) : w.frozen? ⟨b, k, none⟩ = false := by
  unfold RowAt at h
  simp [World.frozen?, h]
theorem RowAt.set {w : World} {b : Nat} {us : List Int} (h : RowAt w b us) (k : Nat) (d : Int) : RowAt (w.setCell ⟨b, k, none⟩ (.int .u32 d)) b (us.set k d) := by
  have hlt := h.lt
  unfold RowAt at h ⊢
  have h' : w.heap[b] = .cells (arr us) 59 (0, 0) := by simpa [Array.getElem?_eq_getElem hlt] using h
  show (w.heap.modify b _)[b]? = _
  rw [Array.getElem?_eq_getElem (by simpa using hlt), Array.getElem_modify_self, h', ← arr_set]
  rfl
theorem RowAt.other {w w' : World} {b j : Nat} {us : List Int} (h : RowAt w j us) (ho : OnlyB b w w') (hn : j ≠ b) : RowAt w' j us := by
  have hlt := h.lt
  unfold RowAt at h ⊢
  rw [ho.block j hlt hn]
  exact h
theorem RowAt.below {w w' : World} {j : Nat} {us : List Int} (h : RowAt w j us) (hb : Below w.heap.size w w') : RowAt w' j us := by
  have hlt := h.lt
  unfold RowAt at h ⊢
  rw [hb.block j hlt]
  exact h
theorem RowAt.new (w : World) (us : List Int) : RowAt (w.alloc (.cells (arr us) 59)) w.heap.size us := by
  unfold RowAt
  show (w.heap.push _)[w.heap.size]? = _
  simp
theorem RowAt.row {w : World} {b : Nat} {us : List Int} (h : RowAt w b us) (off : Nat) : Row w (some ⟨b, off, none⟩) (us.drop off) := by
  by_cases he : us.drop off = []
  · exact .inl he
  · refine .inr ⟨b, off, rfl, h.lt, fun i hi => ?_⟩
    rw [List.length_drop] at hi
    rw [lb_drop]
    exact h.cell (by omega)

/-- What take leaves: the row of u, and whether it was once too often. -/
def TakeOk (us vs : List Int) (off m : Nat) (g : Int) (bo : Int) (us' : List Int) : Prop :=
  us'.length = us.length ∧ U32s us' ∧ (bo = 0 ∨ bo = 1) ∧ val us' = val us + pw off * (0 - g * val vs + pw (m + 1) * bo) ∧ ∀ j, off + (m + 1) ≤ j → lb us' j = lb us j

/-- One limb taken off. -/
theorem take_step {zs us vs : List Int} {off k : Nat} {g c0 b0 c1 b1 d s : Int} (hk : off + k < zs.length)
    (hv : val zs = val us + pw off * (0 - g * val (vs.take k) + pw k * (c0 + b0))) (ht : g * val (vs.take (k + 1)) = g * val (vs.take k) + pw k * s)
    (hd : d - lb zs (off + k) + c0 + b0 + s = 4294967296 * (c1 + b1)) :
    val (zs.set (off + k) d) = val us + pw off * (0 - g * val (vs.take (k + 1)) + pw (k + 1) * (c1 + b1)) := by
  rw [val_set _ _ _ hk, hv, ht, pw_add, pw_succ', Int.mul_assoc (pw off), Int.add_assoc, ← Int.mul_add]
  congr 2
  have e1 : pw k * 4294967296 * (c1 + b1) = pw k * (4294967296 * (c1 + b1)) := by ac_rfl
  rw [e1, ← hd]
  have e2 : pw k * (d - lb zs (off + k) + c0 + b0 + s) = pw k * (c0 + b0) + pw k * (d - lb zs (off + k)) + pw k * s := by
    rw [← Int.mul_add, ← Int.mul_add]
    congr 1
    omega
  rw [e2]
  omega

set_option maxHeartbeats 4000000 in
set_option maxRecDepth 100000 in
theorem take_any (ub off cu cv : Nat) (vo : Option Addr) (us vs : List Int) (m : Nat) (g : Int) (w : World) (hu : RowAt w ub us) (rv : Row w vo vs) (hne : ∀ b o, vo = some ⟨b, o, none⟩ → b ≠ ub) (uu : U32s us) (uv : U32s vs)
    (hlv : vs.length = m) (hm : m ≤ 40) (hlu : off + (m + 1) ≤ us.length) (_hlu2 : us.length ≤ 1000) (g0 : 0 ≤ g) (g1 : g < 4294967296) :
    Calls Tryd.prog 53 #[.slice (some ⟨ub, off, none⟩) (m + 1) cu, .slice vo m cv, .int .u64 g] w fun e w' => ∃ bo us', e = .returned (.bool (bo != 0)) ∧ TakeOk us vs off m g bo us' ∧ RowAt w' ub us' ∧ OnlyB ub w w' := by
  go_enter Tryd.func53, Tryd.ntmps53
  go_wp2_with fail
  go_loopw [7, 8, 13] (fun c bo i wr => ∃ k : Nat, ∃ zs : List Int, ∃ c0 b0 : Int, k ≤ m + 1 ∧ i = .int .i64 k ∧ c = .int .u64 c0 ∧ bo = .int .u64 b0 ∧ 0 ≤ c0 ∧ c0 < 4294967296 ∧ 0 ≤ b0 ∧ b0 ≤ 1 ∧ (k = m + 1 → c0 = 0) ∧ zs.length = us.length ∧ U32s zs ∧ Hid (val zs = val us + pw off * (0 - g * val (vs.take k) + pw k * (c0 + b0))) ∧ Hid (∀ j, off + k ≤ j → lb zs j = lb us j) ∧ RowAt wr ub zs ∧ OnlyB ub w wr) (fun _ _ i _ => m + 1 - (intOf i).toNat)
  case atStart => exact ⟨0, us, 0, 0, Nat.zero_le _, rfl, rfl, rfl, by omega, by omega, by omega, by omega, fun _ => rfl, rfl, uu, Lib.hid (by simp [val]), Lib.hid (fun _ _ => rfl), hu, OnlyB.refl _ _⟩
  case round =>
    obtain ⟨k, zs, c0, b0, hk, rfl, rfl, rfl, hc0, hc1, hb0, hb1, hlast, hz, uz, hv, hs, hrow, ho⟩ := hrel
    rename_i wr
    by_cases hkn : k < m + 1
    · have hck := hrow.cell (k := off + k) (by omega)
      have hfk := hrow.free (off + k)
      obtain ⟨x0, x1⟩ := lb_range uz (off + k)
      have Hl := Lib.hid hlast
      clear hlast
      by_cases hkm : k < m
      · obtain ⟨vb, voff, rfl, hvb, hcv⟩ := rv.cells (by omega)
        have hcv0 := hcv k (by omega)
        have hvne := hne vb voff rfl
        have kv0 : wr.cell? ⟨vb, voff + k, none⟩ = some (.int .u32 (lb vs k)) := by
          rw [← hcv0]
          exact World.cell?_of_block (w := w) (ho.block vb hvb hvne)
        obtain ⟨y0, y1⟩ := lb_range uv k
        obtain ⟨p0, p1⟩ := NM.prod_bound g0 g1 y0 y1
        have Hcv := Lib.hid hcv
        clear hcv hcv0
        obtain ⟨P, hP⟩ : ∃ P, c0 + g * lb vs k = P := ⟨_, rfl⟩
        have P0 : 0 ≤ P := by omega
        have P1 : P ≤ 18446744069414584320 := by omega
        have HP := Lib.hid hP
        by_cases hge : P % 4294967296 + b0 ≤ lb zs (off + k)
        · go_wp2_with fail
          go_roundw
          case rel =>
            refine ⟨k + 1, zs.set (off + k) (lb zs (off + k) - P % 4294967296 - b0), _, _, by omega, by go_num, rfl, rfl, by omega, by omega, by omega, by omega, fun h => by omega, by simpa using hz, U32s_set uz _ (by omega) (by omega), Lib.hid ?_, Lib.hid ?_, hrow.set _ _, ho.set _ _⟩
            · exact take_step (by omega) hv.out (s := g * lb vs k) (by rw [val_step (by omega), Int.mul_add, show g * (pw k * lb vs k) = pw k * (g * lb vs k) by ac_rfl]) (by have h9 := HP.out; omega)
            · intro j hj
              rw [lb_set_ne (by omega)]
              exact hs.out j (by omega)
          case measure => simp [intOf]; omega
        · by_cases hge2 : P % 4294967296 ≤ lb zs (off + k)
          · have hw := wrap_below (show -18446744073709551616 ≤ lb zs (off + k) - P % 4294967296 - b0 by omega) (by omega)
            obtain ⟨W, hW⟩ : ∃ W, IntKind.u64.wrap (lb zs (off + k) - P % 4294967296 - b0) = W := ⟨_, rfl⟩
            rw [hW] at hw
            have W0 : 9223372036854775808 ≤ W := by omega
            have W1 : W < 18446744073709551616 := by omega
            have HW := Lib.hid hw
            clear hw
            go_wp2_with fail
            go_roundw
            case rel =>
              refine ⟨k + 1, zs.set (off + k) (W % 4294967296), _, _, by omega, by go_num, rfl, rfl, by omega, by omega, by omega, by omega, fun h => by omega, by simpa using hz, U32s_set uz _ (by omega) (by omega), Lib.hid ?_, Lib.hid ?_, hrow.set _ _, ho.set _ _⟩
              · exact take_step (by omega) hv.out (s := g * lb vs k) (by rw [val_step (by omega), Int.mul_add, show g * (pw k * lb vs k) = pw k * (g * lb vs k) by ac_rfl]) (by have h9 := HP.out; have h := HW.out; omega)
              · intro j hj
                rw [lb_set_ne (by omega)]
                exact hs.out j (by omega)
            case measure => simp [intOf]; omega
          · have hw := wrap_below (show -18446744073709551616 ≤ lb zs (off + k) - P % 4294967296 by omega) (by omega)
            obtain ⟨W, hW⟩ : ∃ W, IntKind.u64.wrap (lb zs (off + k) - P % 4294967296) = W := ⟨_, rfl⟩
            rw [hW] at hw
            have W0 : 9223372036854775809 ≤ W := by omega
            have W1 : W < 18446744073709551616 := by omega
            have HW := Lib.hid hw
            clear hw
            go_wp2_with fail
            go_roundw
            case rel =>
              refine ⟨k + 1, zs.set (off + k) ((W - b0) % 4294967296), _, _, by omega, by go_num, rfl, rfl, by omega, by omega, by omega, by omega, fun h => by omega, by simpa using hz, U32s_set uz _ (by omega) (by omega), Lib.hid ?_, Lib.hid ?_, hrow.set _ _, ho.set _ _⟩
              · exact take_step (by omega) hv.out (s := g * lb vs k) (by rw [val_step (by omega), Int.mul_add, show g * (pw k * lb vs k) = pw k * (g * lb vs k) by ac_rfl]) (by have h9 := HP.out; have h := HW.out; omega)
              · intro j hj
                rw [lb_set_ne (by omega)]
                exact hs.out j (by omega)
            case measure => simp [intOf]; omega
      · have hkm' : k = m := by omega
        subst hkm'
        by_cases hge : c0 + b0 ≤ lb zs (off + k)
        · go_wp2_with fail
          go_roundw
          case rel =>
            refine ⟨k + 1, zs.set (off + k) (lb zs (off + k) - c0 - b0), _, _, by omega, by go_num, rfl, rfl, by omega, by omega, by omega, by omega, fun h => by omega, by simpa using hz, U32s_set uz _ (by omega) (by omega), Lib.hid ?_, Lib.hid ?_, hrow.set _ _, ho.set _ _⟩
            · exact take_step (by omega) hv.out (s := 0) (by rw [val_take_all (xs := vs) (k := k) (by omega), val_take_all (xs := vs) (k := k + 1) (by omega)]; omega) (by omega)
            · intro j hj
              rw [lb_set_ne (by omega)]
              exact hs.out j (by omega)
          case measure => simp [intOf]
        · by_cases hge2 : c0 ≤ lb zs (off + k)
          · have hw := wrap_below (show -18446744073709551616 ≤ lb zs (off + k) - c0 - b0 by omega) (by omega)
            obtain ⟨W, hW⟩ : ∃ W, IntKind.u64.wrap (lb zs (off + k) - c0 - b0) = W := ⟨_, rfl⟩
            rw [hW] at hw
            have W0 : 9223372036854775808 ≤ W := by omega
            have W1 : W < 18446744073709551616 := by omega
            have HW := Lib.hid hw
            clear hw
            go_wp2_with fail
            go_roundw
            case rel =>
              refine ⟨k + 1, zs.set (off + k) (W % 4294967296), _, _, by omega, by go_num, rfl, rfl, by omega, by omega, by omega, by omega, fun h => by omega, by simpa using hz, U32s_set uz _ (by omega) (by omega), Lib.hid ?_, Lib.hid ?_, hrow.set _ _, ho.set _ _⟩
              · exact take_step (by omega) hv.out (s := 0) (by rw [val_take_all (xs := vs) (k := k) (by omega), val_take_all (xs := vs) (k := k + 1) (by omega)]; omega) (by have h := HW.out; omega)
              · intro j hj
                rw [lb_set_ne (by omega)]
                exact hs.out j (by omega)
            case measure => simp [intOf]
          · have hw := wrap_below (show -18446744073709551616 ≤ lb zs (off + k) - c0 by omega) (by omega)
            obtain ⟨W, hW⟩ : ∃ W, IntKind.u64.wrap (lb zs (off + k) - c0) = W := ⟨_, rfl⟩
            rw [hW] at hw
            have W0 : 9223372036854775809 ≤ W := by omega
            have W1 : W < 18446744073709551616 := by omega
            have HW := Lib.hid hw
            clear hw
            go_wp2_with fail
            go_roundw
            case rel =>
              refine ⟨k + 1, zs.set (off + k) ((W - b0) % 4294967296), _, _, by omega, by go_num, rfl, rfl, by omega, by omega, by omega, by omega, fun h => by omega, by simpa using hz, U32s_set uz _ (by omega) (by omega), Lib.hid ?_, Lib.hid ?_, hrow.set _ _, ho.set _ _⟩
              · exact take_step (by omega) hv.out (s := 0) (by rw [val_take_all (xs := vs) (k := k) (by omega), val_take_all (xs := vs) (k := k + 1) (by omega)]; omega) (by have h := HW.out; omega)
              · intro j hj
                rw [lb_set_ne (by omega)]
                exact hs.out j (by omega)
            case measure => simp [intOf]
    · have hk2 : k = m + 1 := by omega
      have hc00 := hlast hk2
      subst hk2
      have hok := Lib.hid (show TakeOk us vs off m g b0 zs from ⟨hz, uz, by omega, by
        rw [hv.out, hc00, val_take_all (xs := vs) (by omega), Int.zero_add], hs.out⟩)
      clear hlast
      go_wp2_with fail
      go_ret
      exact ⟨b0, zs, rfl, hok.out, hrow, ho⟩
end Go.Proofs.YtondjnmpfpfpmaaDoor
