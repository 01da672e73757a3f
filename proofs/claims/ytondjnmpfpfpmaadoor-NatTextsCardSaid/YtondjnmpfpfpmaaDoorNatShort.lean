/- Short division; small numbers. -/
import Derived.Test.YtondjnmpfpfpmaaDoorNatSub
import Derived.Laws.BitsLemmas
namespace Go.Proofs.YtondjnmpfpfpmaaDoor
open Go.RowKit NM

theorem val_drop {xs : List Int} {k : Nat} (hk : k < xs.length) : val (xs.drop k) = lb xs k + 4294967296 * val (xs.drop (k + 1)) := by
  rw [List.drop_eq_getElem_cons hk, val, lb_eq hk]
theorem drop_set {zs : List Int} {k : Nat} (d : Int) (hk : k < zs.length) : (zs.set k d).drop k = d :: zs.drop (k + 1) := by
  rw [List.drop_eq_getElem_cons (by simpa using hk), List.getElem_set_self]
  congr 1
  rw [List.drop_set_of_lt (by omega)]

theorem or_u64 {a x : Int} (h0 : 0 ≤ a) (h1 : a < 4294967296) (x0 : 0 ≤ x) (x1 : x < 4294967296) : bits .or .u64 (a * 4294967296) x = a * 4294967296 + x := by
  refine bits_join .u64 64 (by decide) ?_ 32 _ _ (by omega) (by omega) (by omega) x0 (by omega) (by omega)
  intro n n0 n1
  simp only [IntKind.wrap, IntKind.signed, IntKind.bits]
  simp
  omega
theorem wrap_in {x : Int} (h0 : 0 ≤ x) (h1 : x < 18446744073709551616) : IntKind.u64.wrap x = x := by
  simp only [IntKind.wrap, IntKind.signed, IntKind.bits]
  simp
  omega
/-- One limb of a quotient. -/
theorem quo_step {a x d : Int} (h0 : 0 ≤ a) (h1 : a < d) (x0 : 0 ≤ x) (x1 : x < 4294967296) : 0 ≤ (a * 4294967296 + x) / d ∧ (a * 4294967296 + x) / d < 4294967296 ∧ 0 ≤ (a * 4294967296 + x) % d ∧ (a * 4294967296 + x) % d < d := by
  refine ⟨Int.ediv_nonneg (by omega) (by omega), ?_, Int.emod_nonneg _ (by omega), Int.emod_lt_of_pos _ (by omega)⟩
  apply Int.ediv_lt_of_lt_mul (by omega)
  have : (a + 1) * 4294967296 ≤ d * 4294967296 := by omega
  omega

set_option maxHeartbeats 2000000 in
set_option maxRecDepth 100000 in
theorem short_new (v : Value) (N d : Int) (w : World) (h1 : Num w v N) (hd0 : 0 < d) (hd1 : d < 4294967296) :
    Calls Tryd.prog 42 #[v, .int .u32 d] w fun e w' => (∃ r, e = .returned (.tuple #[r, .int .u32 (N % d)]) ∧ Num w' r (N / d) ∧ r.ownBlock = some w.heap.size ∧ w.heap.size < w'.heap.size) ∧ Below w.heap.size w w' := by
  obtain ⟨xs, ⟨ao, ca, rfl, hca, ra, ux, _⟩, rx, hvx⟩ := h1
  obtain ⟨cx, lx⟩ := rightB_canon ux rx
  obtain ⟨n, hn⟩ : ∃ n, n = xs.length := ⟨_, rfl⟩
  rw [← hn] at lx ⊢
  have Hn := Lib.hid hn
  have Hvx := Lib.hid hvx
  clear hn hvx rx
  have hmk : ∀ wx, (Instr.makeSlice 23 (.int .i64 (n : Int)) (.int .i64 (n : Int))).run Tryd.prog wx = .ok (.slice (some ⟨wx.heap.size, 0, none⟩) n n) (wx.alloc (.cells (arr (List.replicate n 0)) 59)) := make_nat n (by omega)
  go_enter Tryd.func42, Tryd.ntmps42
  go_wp2_with fail
  go_loopw [7, 8] (fun c i wr => ∃ k : Nat, ∃ zs : List Int, ∃ c0 : Int, k ≤ n ∧ i = .int .i64 ((k : Int) - 1) ∧ c = .int .u64 c0 ∧ 0 ≤ c0 ∧ c0 < d ∧ zs.length = n ∧ U32s zs ∧ Hid (val (xs.drop k) = d * val (zs.drop k) + c0) ∧ wr = w.alloc (.cells (arr zs) 59)) (fun _ i _ => (intOf i + 1).toNat)
  case atStart => exact ⟨n, List.replicate n 0, 0, Nat.le_refl _, rfl, rfl, by omega, by omega, by simp, U32s_replicate _, Lib.hid (by rw [List.drop_of_length_le (by rw [← Hn.out]; omega), List.drop_of_length_le (by simp)]; simp [val]), rfl⟩
  case round =>
    obtain ⟨k, zs, c0, hk, rfl, rfl, hc0, hc1, hz, uz, hv, rfl⟩ := hrel
    cases k with
    | zero =>
      have h1 := hv.out
      simp only [List.drop_zero] at h1
      rw [Hvx.out] at h1
      have hdv : val zs = N / d := by
        rw [h1, Int.mul_add_ediv_left _ _ (by omega), Int.ediv_eq_zero_of_lt hc0 hc1, Int.add_zero]
      have hmd : c0 = N % d := by
        rw [h1, Int.mul_add_emod_self_left, Int.emod_eq_of_lt hc0 hc1]
      have hsm : tl zs zs.length ≤ 16 := by have := tl_le zs zs.length; omega
      have hnum := trimmed_num (arr_row w zs 59) uz (cap := n) (by omega) hsm
      rw [hdv, hz] at hnum
      have Hnum := Lib.hid hnum
      have htr := trim_any (some ⟨w.heap.size, 0, none⟩) n zs (w.alloc (.cells (arr zs) 59)) (arr_row _ _ _) (by omega) (by omega)
      rw [hz] at htr
      have Htr := Lib.hid htr
      have Hmd := Lib.hid hmd
      clear hnum htr hdv h1 hmd hsm
      go_wp2_with fail
      refine Htr.out.mono ?_
      rintro e w2 ⟨rfl, rfl⟩
      go_wp2_with fail
      go_ret2
      exact ⟨⟨_, congrArg (fun y => Ending.returned (Value.tuple #[Value.slice (some ⟨w.heap.size, 0, none⟩) (tl zs n) n, Value.int .u32 y])) Hmd.out, Hnum.out, rfl, by simp⟩, (Below.refl _ _).alloc (Nat.le_refl _) _⟩
    | succ k =>
      have e1 : ((k + 1 : Nat) : Int) - 1 = k := by omega
      rw [e1]
      clear e1
      have hzk := arr_at zs k (by omega)
      obtain ⟨b, off, rfl, hbs, hc⟩ := ra.cells (by rw [← Hn.out]; omega)
      have hck := hc k (by rw [← Hn.out]; omega)
      obtain ⟨x0, x1⟩ := lb_range ux k
      obtain ⟨q0, q1, r0, r1⟩ := quo_step hc0 hc1 x0 x1
      have hor := or_u64 hc0 (by omega) x0 x1
      obtain ⟨T, hT⟩ : ∃ T, c0 * 4294967296 + lb xs k = T := ⟨_, rfl⟩
      have T0 : 0 ≤ T := by omega
      rw [hT] at q0 q1 r0 r1 hor
      have HT := Lib.hid hT
      have Hc := Lib.hid hc
      have htd : T.tdiv d = T / d := Int.tdiv_eq_ediv_of_nonneg T0
      have hwr : IntKind.u64.wrap (T / d) = T / d := wrap_in q0 (by omega)
      have hmd : (T / d) % 4294967296 = T / d := Int.emod_eq_of_lt q0 q1
      clear hc hT
      go_wp2_with fail
      go_roundw
      case rel =>
        refine ⟨k, zs.set k (T / d), _, by omega, by go_num, rfl, r0, r1, by simpa using hz, U32s_set uz _ q0 q1, Lib.hid ?_, by rw [arr_set]⟩
        rw [val_drop (by rw [← Hn.out]; omega), drop_set _ (by omega), val, hv.out]
        have h3 := Int.mul_ediv_add_emod T d
        have h4 := HT.out
        have h5 : d * (T / d + 4294967296 * val (zs.drop (k + 1))) = d * (T / d) + 4294967296 * (d * val (zs.drop (k + 1))) := by
          rw [Int.mul_add, ← Int.mul_assoc, ← Int.mul_assoc, Int.mul_comm d 4294967296]
        omega
      case measure => simp [intOf]

theorem short_num (v : Value) (N d : Int) (w : World) (h1 : Num w v N) (hd0 : 0 < d) (hd1 : d < 4294967296) :
    Calls Tryd.prog 42 #[v, .int .u32 d] w fun e w' => (∃ r, e = .returned (.tuple #[r, .int .u32 (N % d)]) ∧ Num w' r (N / d)) ∧ Below w.heap.size w w' := by
  refine (short_new v N d w h1 hd0 hd1).mono ?_
  rintro e w' ⟨⟨r, he, hn, _, _⟩, hb⟩
  exact ⟨⟨r, he, hn⟩, hb⟩

set_option maxHeartbeats 400000 in
set_option maxRecDepth 100000 in
theorem of_num (x : Int) (w : World) (x0 : 0 ≤ x) (x1 : x < 18446744073709551616) :
    Calls Tryd.prog 29 #[.int .u64 x] w fun e w' => (∃ r, e = .returned r ∧ Num w' r x) ∧ Below w.heap.size w w' := by
  have a0 : 0 ≤ x / 4294967296 := by omega
  have a1 : x / 4294967296 < 4294967296 := by omega
  have b0 : 0 ≤ x % 4294967296 := by omega
  have b1 : x % 4294967296 < 4294967296 := by omega
  have hu : U32s [x % 4294967296, x / 4294967296] := by
    intro y hy
    simp at hy
    omega
  have hv : val [x % 4294967296, x / 4294967296] = x := by simp [val]; omega
  have hrow := arr_row w [x % 4294967296, x / 4294967296] 59
  have hsm : tl [x % 4294967296, x / 4294967296] 2 ≤ 16 := by have := tl_le [x % 4294967296, x / 4294967296] 2; omega
  have hnum := trimmed_num hrow hu (cap := 2) (Nat.le_refl _) hsm
  rw [hv] at hnum
  have htr := trim_any (some ⟨w.heap.size, 0, none⟩) 2 [x % 4294967296, x / 4294967296] _ hrow (by simp) (Nat.le_refl _)
  have Hnum := Lib.hid hnum
  have Htr := Lib.hid htr
  clear hnum htr hsm hrow hv hu a0 a1 b0 b1
  go_enter Tryd.func29, Tryd.ntmps29
  go_wp2_with fail
  refine Htr.out.mono ?_
  rintro e w' ⟨rfl, rfl⟩
  go_wp2_with fail
  go_ret
  exact ⟨⟨_, rfl, Hnum.out⟩, (Below.refl _ _).alloc (Nat.le_refl _) _⟩
end Go.Proofs.YtondjnmpfpfpmaaDoor
