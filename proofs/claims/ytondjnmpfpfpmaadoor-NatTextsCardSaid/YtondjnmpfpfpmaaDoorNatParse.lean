/- Parse. -/
import Derived.Test.YtondjnmpfpfpmaaDoorNatDigit
namespace Go.Proofs.YtondjnmpfpfpmaaDoor
open Go.RowKit NM

/-- The variable 'bases' holds what its initialiser lays. -/
def Bases (w : World) : Prop := w.cell? ⟨0, 0, none⟩ = some (.int .i64 2) ∧ w.cell? ⟨0, 1, none⟩ = some (.int .i64 8) ∧ w.cell? ⟨0, 2, none⟩ = some (.int .i64 10) ∧ w.cell? ⟨0, 3, none⟩ = some (.int .i64 16)

theorem cell_lt {w : World} {b o : Nat} {v : Value} (h : w.cell? ⟨b, o, none⟩ = some v) : b < w.heap.size := by
  by_cases hb : b < w.heap.size
  · exact hb
  · rw [World.cell?, Array.getElem?_eq_none (show w.heap.size ≤ b by omega)] at h
    cases h
theorem Bases.below {w w' : World} (h : Bases w) (hb : Below w.heap.size w w') : Bases w' := by
  obtain ⟨h0, h1, h2, h3⟩ := h
  have hl := cell_lt h0
  exact ⟨by rw [hb.cell (p := ⟨_, 0, none⟩) hl]; exact h0, by rw [hb.cell (p := ⟨_, 1, none⟩) hl]; exact h1, by rw [hb.cell (p := ⟨_, 2, none⟩) hl]; exact h2, by rw [hb.cell (p := ⟨_, 3, none⟩) hl]; exact h3⟩

/-- A base that Parse reads. -/
def baseB (b : Int) : Bool := decide (b = 2 ∨ b = 8 ∨ b = 10 ∨ b = 16)

/-- Whether one of the first k bases is b. -/
def knB (b : Int) (k : Nat) : Bool := decide ((0 < k ∧ b = 2) ∨ (1 < k ∧ b = 8) ∨ (2 < k ∧ b = 10) ∨ (3 < k ∧ b = 16))
theorem knB_end (b : Int) : knB b 4 = baseB b := by
  unfold knB baseB
  rw [decide_eq_decide]
  omega
theorem knB_zero (b : Int) : knB b 0 = false := by
  unfold knB
  rw [decide_eq_false_iff_not]
  omega

/-- The number that the first k digits tell. -/
def pv (s : ByteArray) (b : Int) : Nat → Int
  | 0 => 0
  | k + 1 => pv s b k * b + dAt s k

theorem dg_nonneg (c : Int) : 0 ≤ dg c := by
  unfold dg
  (repeat' split) <;> omega
theorem pv_nonneg (s : ByteArray) {b : Int} (hb : 2 ≤ b) : ∀ k, 0 ≤ pv s b k
  | 0 => Int.le_refl _
  | k + 1 => by
    have h1 := pv_nonneg s hb k
    have h2 : 0 ≤ pv s b k * b := Int.mul_nonneg h1 (by omega)
    have h3 := dg_nonneg (byteAt s k)
    rw [pv, dAt]
    omega
theorem pv_mono (s : ByteArray) {b : Int} (hb : 2 ≤ b) (k : Nat) : ∀ j, pv s b k ≤ pv s b (k + j)
  | 0 => Int.le_refl _
  | j + 1 => by
    have h1 := pv_mono s hb k j
    have h0 := pv_nonneg s hb (k + j)
    have h2 : pv s b (k + j) * 1 ≤ pv s b (k + j) * b := Int.mul_le_mul_of_nonneg_left (by omega) h0
    have h3 := dg_nonneg (byteAt s (k + j))
    rw [← Nat.add_assoc, pv, dAt]
    omega

/-- What Parse answers. -/
def ParseOk (s : ByteArray) (b : Int) (e : Ending) (w' : World) : Prop :=
  (baseB b = false ∧ e = .returned (.tuple #[.slice none 0 0, .int .i64 1])) ∨
  (baseB b = true ∧ toldB s b = false ∧ e = .returned (.tuple #[.slice none 0 0, .int .i64 5])) ∨
  (baseB b = true ∧ toldB s b = true ∧ Told (pv s b s.size) e w')

theorem toldB_iff {s : ByteArray} {b : Int} : toldB s b = true ↔ 0 < s.size ∧ ∀ k, k < s.size → dAt s k < b := by
  unfold toldB
  rw [decide_eq_true_iff]
theorem baseB_iff {b : Int} : baseB b = true ↔ b = 2 ∨ b = 8 ∨ b = 10 ∨ b = 16 := by
  unfold baseB
  rw [decide_eq_true_iff]

set_option maxHeartbeats 4000000 in
set_option maxRecDepth 100000 in
theorem parse_any (s : ByteArray) (b : Int) (w : World) (hB : Bases w) (hs : s.size ≤ 1000000) :
    Calls Tryd.prog 28 #[.string s, .int .i64 b] w fun e w' => ParseOk s b e w' ∧ Below w.heap.size w w' := by
  obtain ⟨h0, h1, h2, h3⟩ := hB
  have i0 : ∀ w, (Instr.index 73 (.agg #[.int .i64 2, .int .i64 8, .int .i64 10, .int .i64 16]) (.int .i64 0)).run Tryd.prog w = .ok (.int .i64 2) w := fun _ => by kernel_rfl
  have i1 : ∀ w, (Instr.index 73 (.agg #[.int .i64 2, .int .i64 8, .int .i64 10, .int .i64 16]) (.int .i64 1)).run Tryd.prog w = .ok (.int .i64 8) w := fun _ => by kernel_rfl
  have i2 : ∀ w, (Instr.index 73 (.agg #[.int .i64 2, .int .i64 8, .int .i64 10, .int .i64 16]) (.int .i64 2)).run Tryd.prog w = .ok (.int .i64 10) w := fun _ => by kernel_rfl
  have i3 : ∀ w, (Instr.index 73 (.agg #[.int .i64 2, .int .i64 8, .int .i64 10, .int .i64 16]) (.int .i64 3)).run Tryd.prog w = .ok (.int .i64 16) w := fun _ => by kernel_rfl
  go_enter Tryd.func28, Tryd.ntmps28
  go_wp2_with fail
  go_loop [6, 8, 14] (fun kn _ i => ∃ k : Nat, k ≤ 4 ∧ i = .int .i64 k ∧ kn = .bool (knB b k)) (fun _ _ i => 4 - (intOf i).toNat)
  case atStart => exact ⟨0, by omega, rfl, by rw [knB_zero]⟩
  case round =>
    obtain ⟨k, hk, rfl, rfl⟩ := hrel
    by_cases hk4 : k < 4
    · have hnx : ∀ (d : Int), (k = 0 ∧ d = 2 ∨ k = 1 ∧ d = 8 ∨ k = 2 ∧ d = 10 ∨ k = 3 ∧ d = 16) → knB b (k + 1) = (knB b k || d == b) := by
        intro d hd
        unfold knB
        rw [Bool.eq_iff_iff]
        simp only [Bool.or_eq_true, decide_eq_true_iff, beq_iff_eq]
        omega
      rcases (show k = 0 ∨ k = 1 ∨ k = 2 ∨ k = 3 by omega) with rfl | rfl | rfl | rfl
      · have hn := Lib.hid (hnx 2 (by omega))
        clear hnx
        cases hkn : knB b 0
        all_goals
          go_wp2_with fail
          go_round
          case rel => exact ⟨1, by omega, rfl, by rw [hn.out, hkn]; rfl⟩
          case measure => simp [intOf]
      · have hn := Lib.hid (hnx 8 (by omega))
        clear hnx
        cases hkn : knB b 1
        all_goals
          go_wp2_with fail
          go_round
          case rel => exact ⟨2, by omega, rfl, by rw [hn.out, hkn]; rfl⟩
          case measure => simp [intOf]
      · have hn := Lib.hid (hnx 10 (by omega))
        clear hnx
        cases hkn : knB b 2
        all_goals
          go_wp2_with fail
          go_round
          case rel => exact ⟨3, by omega, rfl, by rw [hn.out, hkn]; rfl⟩
          case measure => simp [intOf]
      · have hn := Lib.hid (hnx 16 (by omega))
        clear hnx
        cases hkn : knB b 3
        all_goals
          go_wp2_with fail
          go_round
          case rel => exact ⟨4, by omega, rfl, by rw [hn.out, hkn]; rfl⟩
          case measure => simp [intOf]
    · have hk44 : k = 4 := by omega
      subst hk44
      rw [knB_end]
      cases hbb : baseB b
      · have Hbb := Lib.hid hbb
        clear hbb
        go_wp2_with fail
        go_ret2
        exact ⟨.inl ⟨Hbb.out, rfl⟩, Below.refl _ _⟩
      · have hbase := baseB_iff.1 hbb
        have Hbb := Lib.hid hbb
        clear hbb i0 i1 i2 i3 h0 h1 h2 h3
        have b2 : 2 ≤ b := by omega
        have b16 : b ≤ 16 := by omega
        cases htt : toldB s b
        · have Htt := Lib.hid htt
          clear hbase
          go_wp2_with (go_at_call 48; refine (told_any s b _ hs).mono ?_; rintro e w' ⟨rfl, rfl⟩)
          go_ret2
          exact ⟨.inr (.inl ⟨Hbb.out, Htt.out, rfl⟩), Below.refl _ _⟩
        · have hdig := Lib.hid (toldB_iff.1 htt).2
          have Htt := Lib.hid htt
          clear hbase
          have hmk : ∀ wx, (Instr.makeSlice 23 (.int .i64 16) (.int .i64 16)).run Tryd.prog wx = .ok (.slice (some ⟨wx.heap.size, 0, none⟩) 16 16) (wx.alloc (.cells (arr (List.replicate 16 0)) 59)) := make_nat 16 (by omega)
          go_wp2_with (go_at_call 48; refine (told_any s b _ hs).mono ?_; rintro e w' ⟨rfl, rfl⟩)
          clear htt
          go_loopw [10, 11, 12, 33] (fun _ _ _ i wr => ∃ k : Nat, ∃ zs : List Int, k ≤ s.size ∧ i = .int .i64 k ∧ zs.length = 16 ∧ U32s zs ∧ Hid (val zs = pv s b k) ∧ wr = w.alloc (.cells (arr zs) 59)) (fun _ _ _ i _ => s.size - (intOf i).toNat)
          case atStart => exact ⟨0, List.replicate 16 0, Nat.zero_le _, rfl, rfl, U32s_replicate _, Lib.hid rfl, rfl⟩
          case round =>
            obtain ⟨k, zs, hk, rfl, hz, uz, hv, rfl⟩ := hrel
            by_cases hlt : k < s.size
            · have hby := Lib.hid (byteAt_eq hlt)
              have hbb : (s[k].toNat : Int) < 256 := by have := UInt8.toNat_lt s[k]; omega
              have hd := Lib.hid (show dAt s k = dg (s[k].toNat : Int) by unfold dAt; rw [hby.out])
              have hd1 : dg (s[k].toNat : Int) < b := by rw [← hd.out]; exact hdig.out k hlt
              have hd0 := dg_nonneg (s[k].toNat : Int)
              obtain ⟨D, hD⟩ : ∃ D, dg (s[k].toNat : Int) = D := ⟨_, rfl⟩
              have HD := Lib.hid hD
              go_wp2_with (go_at_call 49; refine (digit_any _ _ (by omega) hbb).mono ?_; rintro e w' ⟨rfl, rfl⟩)
              rw [hD] at hd0 hd1
              clear hD
              go_loopw [11, 12, 43] (fun c _ i wr => ∃ j : Nat, ∃ zt : List Int, ∃ c0 : Int, j ≤ 16 ∧ i = .int .i64 j ∧ c = .int .u64 c0 ∧ 0 ≤ c0 ∧ c0 < b ∧ zt.length = 16 ∧ U32s zt ∧ Hid (val (zt.take j) + pw j * c0 = val (zs.take j) * b + D) ∧ Hid (∀ i, j ≤ i → lb zt i = lb zs i) ∧ wr = w.alloc (.cells (arr zt) 59)) (fun _ _ i _ => 16 - (intOf i).toNat)
              case atStart => exact ⟨0, zs, D, Nat.zero_le _, rfl, rfl, hd0, hd1, hz, uz, Lib.hid (by simp [val, pw]), Lib.hid (fun _ _ => rfl), rfl⟩
              case round =>
                obtain ⟨j, zt, c0, hj, rfl, rfl, hc0, hc1, hzt, uzt, hvt, hsame, rfl⟩ := hrel
                by_cases hj16 : j < 16
                · have hzk := arr_at zt j (by omega)
                  obtain ⟨z0, z1⟩ := lb_range uzt j
                  obtain ⟨P, hP⟩ : ∃ P, lb zt j * b = P := ⟨_, rfl⟩
                  have p0 : 0 ≤ P := by rw [← hP]; exact Int.mul_nonneg z0 (by omega)
                  have p1 : P ≤ 4294967295 * b := by rw [← hP]; exact Int.mul_le_mul_of_nonneg_right (by omega) (by omega)
                  have HP := Lib.hid hP
                  go_wp2_with fail
                  go_roundw
                  case rel =>
                    refine ⟨j + 1, zt.set j ((c0 + P) % 4294967296), (c0 + P) / 4294967296, by omega, by go_num, by rw [← HP.out], by omega, by omega, by simpa using hzt, U32s_set uzt _ (by omega) (by omega), Lib.hid ?_, Lib.hid ?_, by rw [arr_set, ← HP.out]⟩
                    · have h1 := carry_step (zs := zt) (k := j) (by omega) (s := P) (d := (c0 + P) % 4294967296) (q := (c0 + P) / 4294967296) hvt.out (by omega)
                      rw [h1, val_step (by omega), ← HP.out, hsame.out j (Nat.le_refl _), Int.add_mul, Int.mul_assoc]
                      omega
                    · intro i hi
                      rw [lb_set_ne (by omega)]
                      exact hsame.out i (by omega)
                  case measure => simp [intOf]; omega
                · have hj2 : j = 16 := by omega
                  subst hj2
                  have hvv := hvt.out
                  rw [val_take_all (by omega), val_take_all (by omega), hv.out, ← HD.out, ← hd.out] at hvv
                  by_cases hc : c0 = 0
                  · subst hc
                    have hv2 := Lib.hid (show val zt = pv s b (k + 1) by rw [pv]; omega)
                    clear hvv
                    go_wp2_with fail
                    go_roundw
                    case rel => exact ⟨k + 1, zt, by omega, by go_num, hzt, uzt, hv2, rfl⟩
                    case measure => simp [intOf]; omega
                  · have hge := Lib.hid (show pw 16 ≤ pv s b s.size by
                      have h1 := pv_mono s b2 (k + 1) (s.size - (k + 1))
                      have h2 : k + 1 + (s.size - (k + 1)) = s.size := by omega
                      rw [h2] at h1
                      refine Int.le_trans ?_ h1
                      rw [pv]
                      have h3 := val_nonneg uzt
                      have h4 : pw 16 * 1 ≤ pw 16 * c0 := Int.mul_le_mul_of_nonneg_left (by omega) (by decide)
                      omega)
                    clear hvv
                    go_wp2_with fail
                    go_ret2
                    exact ⟨.inr (.inr ⟨Hbb.out, Htt.out, .inr ⟨hge.out, rfl⟩⟩), (Below.refl _ _).alloc (Nat.le_refl _) _⟩
            · have hkk : k = s.size := by omega
              subst hkk
              have hsm : tl zs zs.length ≤ 16 := by have := tl_le zs zs.length; omega
              have hnum := trimmed_num (arr_row w zs 59) uz (cap := 16) (by omega) hsm
              have hrg := val_lt uz
              rw [hz] at hrg
              rw [hv.out, hz] at hnum
              rw [hv.out] at hrg
              have Hnum := Lib.hid hnum
              have Hrg := Lib.hid hrg
              have htr := trim_any (some ⟨w.heap.size, 0, none⟩) 16 zs (w.alloc (.cells (arr zs) 59)) (arr_row _ _ _) (by omega) (by omega)
              rw [hz] at htr
              have Htr := Lib.hid htr
              clear hnum htr hsm hrg
              go_wp2_with (go_at_call 37; refine Htr.out.mono ?_; rintro e w2 ⟨rfl, rfl⟩)
              go_ret2
              exact ⟨.inr (.inr ⟨Hbb.out, Htt.out, .inl ⟨Hrg.out, _, rfl, Hnum.out⟩⟩), (Below.refl _ _).alloc (Nat.le_refl _) _⟩
end Go.Proofs.YtondjnmpfpfpmaaDoor
