/- The reference's Text; numbers' sizes. -/
import Derived.Test.YtondjnmpfpfpmaaDoorNatRefSmall
import Derived.Test.YtondjnmpfpfpmaaDoorNatAlive
namespace Go.Proofs.YtondjnmpfpfpmaaDoor
open Go.RowKit NM

/-- Far above all numbers that the laws meet. -/
def big : Int := 10 ^ 1000
theorem pw_big {n : Nat} (h : n ≤ 100) : pw n ≤ big := by
  have h1 := pw_mono h
  have h2 : pw 100 ≤ big := by unfold big; decide +kernel
  omega
theorem dec_small {ds : List Int} {A : Int} (h : Dec ds A) (hA : A < big) : 0 < ds.length ∧ ds.length ≤ 1000 := by
  rcases h.2.2 with ⟨_, rfl⟩ | ⟨h1, h2⟩
  · simp
  · have := ten_inv (show (10 : Int) ^ (ds.length - 1) < 10 ^ 1000 from Int.lt_of_le_of_lt h2 hA)
    omega

theorem small_str (s : ByteArray) (A by_ c0 N : Int) (w : World) (h : DecStr s A) (hA : A < big) (b0 : 0 ≤ by_) (b1 : by_ ≤ 1099511627776) (m0 : 0 ≤ c0) (m1 : c0 ≤ 1099511627776) (hN : c0 + by_ * A = N) :
    Calls Tryd.prog 30 #[.string s, .int .i64 by_, .int .i64 c0] w fun e w' => (∃ s, e = .returned (.string s) ∧ DecStr s N) ∧ Below w.heap.size w w' := by
  obtain ⟨ds, hd, rfl⟩ := h
  have hl := dec_small hd hA
  exact small_dec ds by_ c0 N w hd.1 hl.1 (by omega) b0 b1 m0 m1 (by rw [hd.2.1]; exact hN)

set_option maxHeartbeats 1600000 in
set_option maxRecDepth 100000 in
theorem reftext_sl (v : Value) (xs : List Int) (w : World) (h : Sl w v xs) (hl : xs.length ≤ 100) :
    Calls Tryd.prog 16 #[v] w fun e w' => (∃ s, e = .returned (.string s) ∧ DecStr s (val xs)) ∧ Below w.heap.size w w' := by
  obtain ⟨ao, ca, rfl, _, ra, ux, _⟩ := h
  obtain ⟨n, hn⟩ : ∃ n, xs.length = n := ⟨_, rfl⟩
  rw [hn] at hl ⊢
  have Hn := Lib.hid hn
  clear hn
  go_enter Tryd.func16, Tryd.ntmps16
  go_wp2_with fail
  go_loopw [3, 4] (fun so i wr => ∃ (k : Nat) (s : ByteArray), k ≤ n ∧ i = .int .i64 ((k : Int) - 1) ∧ so = .string s ∧ Hid (DecStr s (val (xs.drop k))) ∧ Hid (Below w.heap.size w wr)) (fun _ i _ => (intOf i + 1).toNat)
  case atStart => exact ⟨n, _, Nat.le_refl _, rfl, rfl, Lib.hid (by rw [List.drop_of_length_le (by rw [Hn.out]; omega)]; exact decStr_zero), Lib.hid (Below.refl _ _)⟩
  case round =>
    obtain ⟨k, s, hk, rfl, rfl, hs, hbl⟩ := hrel
    cases k with
    | zero =>
      have h1 := hs.out
      rw [List.drop_zero] at h1
      have H1 := Lib.hid h1
      clear h1
      go_wp2_with fail
      go_ret
      exact ⟨⟨_, rfl, H1.out⟩, hbl.out⟩
    | succ k =>
      have e1 : ((k + 1 : Nat) : Int) - 1 = k := by omega
      rw [e1]
      clear e1
      have rw' := ra
      obtain ⟨b, off, rfl, hbs, hc⟩ := ra.cells (by rw [Hn.out]; omega)
      have hck : wr.cell? ⟨b, off + k, none⟩ = some (.int .u32 (lb xs k)) := by
        rw [hbl.out.cell (p := ⟨b, off + k, none⟩) hbs]
        exact hc k (by rw [Hn.out]; omega)
      obtain ⟨x0, x1⟩ := lb_range ux k
      have hvd := val_drop (xs := xs) (k := k) (by rw [Hn.out]; omega)
      have hlt : val (xs.drop (k + 1)) < big := by
        have h1 := val_lt (U32s_drop ux (k + 1))
        have h2 := pw_big (n := (xs.drop (k + 1)).length) (by rw [List.length_drop, Hn.out]; omega)
        omega
      have HS := Lib.hid (small_str s _ 4294967296 (lb xs k) _ wr hs.out hlt (by omega) (by omega) x0 (by omega) hvd.symm)
      clear hc rw' hvd hlt
      go_wp2_with fail
      refine HS.out.mono ?_
      rintro e w2 ⟨⟨s', rfl, hs'⟩, hb2⟩
      have hb3 := Lib.hid (hbl.out.trans (hb2.mono hbl.out.size))
      have Hs' := Lib.hid hs'
      clear HS hs' hb2
      go_wp2_with fail
      go_roundw
      case rel => exact ⟨k, s', by omega, by go_num, rfl, Hs', hb3⟩
      case measure => simp [intOf]
end Go.Proofs.YtondjnmpfpfpmaaDoor
