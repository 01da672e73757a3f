/- The numbers of nat and of its reference, for this seat: XNatShift, XNatShiftBy, XNatSame, XNatDigit, XNatParse, XNatDec, XNatRev, XNatText, XNatAlive. -/
import Derived.Test.YtkafkcmhekgheaaGreatDoorNB
import Derived.Shelf.SlicesE.Reverse
import Derived.Maps.AppendAt
import Derived.Deep.LoopGhost
import Derived.Laws.BytesArg
namespace Go.Proofs.YtkafkcmhekgheaaGreatDoor.Q
open Go.RowKit NM

theorem pw_pow (n : Nat) : pw n = 2 ^ (32 * n) := by
  induction n with
  | zero => rfl
  | succ n ih =>
    rw [pw_succ', ih, show 32 * (n + 1) = 32 * n + 32 by omega, Int.pow_add]
    rfl

/-- The least number of bits. -/
def IsBits (N : Int) (k : Nat) : Prop := (N = 0 ∧ k = 0) ∨ (0 < N ∧ 1 ≤ k ∧ 2 ^ (k - 1) ≤ N ∧ N < 2 ^ k)

theorem top_bits {xs : List Int} (cx : Canon xs) {n : Nat} (hl : xs.length = n + 1) {k : Nat} (k1 : 1 ≤ k) (h0 : (2 : Int) ^ (k - 1) ≤ lb xs n) (h1 : lb xs n < 2 ^ k) : IsBits (val xs) (n * 32 + k) := by
  have h2 := val_step (xs := xs) (k := n) (by omega)
  rw [val_take_all (by omega)] at h2
  have t0 := val_nonneg (U32s_take cx.u n)
  have t1 := val_lt (U32s_take cx.u n)
  rw [List.length_take, Nat.min_eq_left (by omega)] at t1
  have hp := pw_pos n
  have e : pw n = 2 ^ (n * 32) := by rw [pw_pow, Nat.mul_comm]
  have a1 : pw n * 2 ^ (k - 1) ≤ pw n * lb xs n := Int.mul_le_mul_of_nonneg_left h0 (by omega)
  have a2 : pw n * (lb xs n + 1) ≤ pw n * 2 ^ k := Int.mul_le_mul_of_nonneg_left (by omega) (by omega)
  rw [Int.mul_add] at a2
  have b1 : pw n * 2 ^ (k - 1) = 2 ^ (n * 32 + k - 1) := by rw [e, ← Int.pow_add, show n * 32 + (k - 1) = n * 32 + k - 1 by omega]
  have b2 : pw n * 2 ^ k = 2 ^ (n * 32 + k) := by rw [e, ← Int.pow_add]
  rw [b1] at a1
  rw [b2] at a2
  have := pow_pos2 (n * 32 + k - 1)
  exact .inr ⟨by omega, by omega, by omega, by omega⟩

/-- A slice that is no number. -/
def Bad1 (w : World) (v : Value) : Prop := ∃ xs, Sl w v xs ∧ rightB xs = false
theorem right_bad {w : World} {v : Value} (h : Bad1 w v) :
    Calls Tryz.prog 87 #[v] w fun e w' => e = .returned (.bool false) ∧ w = w' := by
  obtain ⟨xs, h1, h2⟩ := h
  have := right_sl h1
  rw [h2] at this
  exact this
end Go.Proofs.YtkafkcmhekgheaaGreatDoor.Q

namespace Go.Proofs.YtkafkcmhekgheaaGreatDoor.Q
open Go.RowKit NM

theorem pow16 : pw 16 = 2 ^ 512 := by rw [pw_pow]
theorem Num.of_zero {w : World} {v : Value} (h : Num w v 0) : ∃ ao cap, v = .slice ao 0 cap := by
  obtain ⟨ao, n, cap, rfl, _, h0, _, _⟩ := h.len
  rw [h0.2 rfl]
  exact ⟨ao, cap, rfl⟩

/-- Shifted down: by limbs, then by bits. -/
theorem down_limbs {xs : List Int} {s : Nat} (ux : U32s xs) (hs : s / 32 ≤ xs.length) : val (xs.drop (s / 32)) / 2 ^ (s % 32) = val xs / 2 ^ s := by
  have h1 := val_split xs (s / 32) hs
  have t0 := val_nonneg (U32s_take ux (s / 32))
  have t1 := val_lt (U32s_take ux (s / 32))
  rw [List.length_take, Nat.min_eq_left hs] at t1
  have hp := pw_pos (s / 32)
  have h2 : val xs / pw (s / 32) = val (xs.drop (s / 32)) := by
    rw [h1, Int.add_mul_ediv_left _ _ (by omega), Int.ediv_eq_zero_of_lt t0 t1, Int.zero_add]
  rw [← h2, Int.ediv_ediv, if_neg (by omega), Int.sub_zero, pw_pow, ← Int.pow_add, show 32 * (s / 32) + s % 32 = s by omega]

theorem make_cap (l c : Nat) (hl : l ≤ c) (hc : c ≤ 1000000) (w : World) :
    (Instr.makeSlice 47 (.int .i64 (l : Int)) (.int .i64 (c : Int))).run Tryz.prog w = .ok (.slice (some ⟨w.heap.size, 0, none⟩) l c) (w.alloc (.cells (arr (List.replicate c 0)) 54)) := by
  obtain ⟨i, hi, hz, hs, hb⟩ := info_parts info_u32
  have h := run_make (P := Tryz.prog) w 47 54 i (.int .u32 0) Tryz.underlying47 hi hz .i64 .i64 l c (by omega) (by omega) (by rw [hb]; omega) (by omega)
  rw [hs, Nat.mul_one, Int.toNat_natCast, Int.toNat_natCast, show (Value.int IntKind.u32 0).cells = #[.int .u32 0] from rfl, arr_made] at h
  exact h

theorem val_zeros (q : Nat) (zs : List Int) : val (List.replicate q 0 ++ zs) = pw q * val zs := by
  rw [val_append, val_replicate, List.length_replicate]
  omega

end Go.Proofs.YtkafkcmhekgheaaGreatDoor.Q

namespace Go.Proofs.YtkafkcmhekgheaaGreatDoor.Q
open Go.RowKit NM

/-- The first k limbs are the same. -/
def SameTo (xs ys : List Int) (k : Nat) : Prop := ∀ j, j < k → lb xs j = lb ys j
theorem same_all {xs ys : List Int} (hl : xs.length = ys.length) (h : SameTo xs ys xs.length) : xs = ys := by
  apply List.ext_getElem hl
  intro i h1 h2
  have := h i h1
  rwa [lb_eq h1, lb_eq h2] at this

theorem Num.sl {w : World} {v : Value} {N : Int} (h : Num w v N) : ∃ xs, Sl w v xs := ⟨h.choose, h.choose_spec.1⟩
/-- A slice that came in, as the frame hands it over. -/
def IsRow (k : IntKind) (w : World) (a : Option Addr) (len cap : Nat) (zs : List Int) : Prop :=
  (a = none ∧ len = 0 ∧ cap = 0 ∧ zs = []) ∨
  ∃ x, a = some x ∧ len ≤ cap ∧ cap ≤ maxLen ∧ zs.length = cap ∧ (∀ i, i < zs.length → w.cell? (x.add i) = some (.int k (zs.getD i 0))) ∧ ∀ n ∈ zs, (Lit.int k n).wf = true

theorem u32_of_wf {n : Int} (h : (Lit.int .u32 n).wf = true) : 0 ≤ n ∧ n < 4294967296 := by
  simp [Lit.wf, IntKind.min, IntKind.max, IntKind.signed, IntKind.bits] at h
  omega

end Go.Proofs.YtkafkcmhekgheaaGreatDoor.Q

namespace Go.Proofs.YtkafkcmhekgheaaGreatDoor.Q
open Go.RowKit NM

/-- What a byte stands for; a great number, if it is no digit. -/
def dg (c : Int) : Int := if 48 ≤ c ∧ c ≤ 57 then c - 48 else if 97 ≤ c ∧ c ≤ 102 then c - 87 else if 65 ≤ c ∧ c ≤ 70 then c - 55 else 512

set_option maxHeartbeats 800000 in
theorem digit_any (c : Int) (w : World) (h0 : 0 ≤ c) (h1 : c < 256) :
    Calls Tryz.prog 62 #[.int .u8 c] w fun e w' => e = .returned (.int .i64 (dg c)) ∧ w = w' := by
  go_enter Tryz.func62, Tryz.ntmps62
  go_wp2_with fail
  all_goals
    go_ret
    refine ⟨ret_int ?_, rfl⟩
    unfold dg
    (repeat' split) <;> omega

/-- The byte of a text at a place, as a number. -/
def byteAt (s : ByteArray) (k : Nat) : Int := ((s.data[k]?.getD 0).toNat : Int)
theorem byteAt_eq {s : ByteArray} {k : Nat} (h : k < s.size) : byteAt s k = (s[k].toNat : Int) := by
  unfold byteAt
  rw [Array.getElem?_eq_getElem (by simpa using h)]
  rfl
/-- The digit at a place of a text. -/
def dAt (s : ByteArray) (k : Nat) : Int := dg (byteAt s k)
/-- A text of a base: one digit or more. -/
def toldB (s : ByteArray) (b : Int) : Bool := decide (0 < s.size ∧ ∀ k, k < s.size → dAt s k < b)

theorem told_bad {s : ByteArray} {b : Int} (k : Nat) (hk : k < s.size) (h : b ≤ dAt s k) : toldB s b = false := by
  unfold toldB
  rw [decide_eq_false_iff_not]
  intro ⟨_, h2⟩
  have := h2 k hk
  omega
theorem list_ne {s : ByteArray} (h : 0 < s.size) : s.toList.isEmpty = false := by
  rw [ByteArray.toList_eq, List.isEmpty_eq_false_iff]
  intro e
  have : s.data.toList.length = 0 := by rw [e]; rfl
  have h2 : s.data.toList.length = s.size := by simp
  omega
theorem list_nil {s : ByteArray} (h : s.size = 0) : s.toList.isEmpty = true := by
  rw [ByteArray.toList_eq, List.isEmpty_iff]
  exact List.eq_nil_of_length_eq_zero (by simpa using h)

set_option maxHeartbeats 800000 in
set_option maxRecDepth 100000 in
theorem told_any (s : ByteArray) (b : Int) (w : World) (hs : s.size ≤ 1000000) :
    Calls Tryz.prog 61 #[.string s, .int .i64 b] w fun e w' => e = .returned (.bool (toldB s b)) ∧ w = w' := by
  go_enter Tryz.func61, Tryz.ntmps61
  go_wp2_with fail
  go_loop [5, 8] (fun _ i => ∃ k : Nat, k ≤ s.size ∧ i = .int .i64 k ∧ Hid (∀ j, j < k → dAt s j < b)) (fun _ i => s.size - (intOf i).toNat)
  case atStart => exact ⟨0, Nat.zero_le _, rfl, Lib.hid (fun j hj => absurd hj (Nat.not_lt_zero _))⟩
  case round =>
    obtain ⟨k, hk, rfl, hok⟩ := hrel
    by_cases hlt : k < s.size
    · have hb := Lib.hid (byteAt_eq hlt)
      have hbb : (s[k].toNat : Int) < 256 := by have := UInt8.toNat_lt s[k]; omega
      have hd : dAt s k = dg (s[k].toNat : Int) := by unfold dAt; rw [hb.out]
      by_cases h : b ≤ dg (s[k].toNat : Int)
      · have hn := Lib.hid (told_bad (b := b) k hlt (by rw [hd]; exact h))
        clear hd
        go_wp2_with (go_at_call 62; refine (digit_any _ _ (by omega) hbb).mono ?_; rintro e w' ⟨rfl, rfl⟩)
        go_ret
        exact ⟨ret_bool hn.out.symm, rfl⟩
      · have hn := Lib.hid (show ∀ j, j < k + 1 → dAt s j < b from fun j hj => by
          by_cases e : j = k
          · rw [e, hd]; omega
          · exact hok.out j (by omega))
        clear hd
        go_wp2_with (go_at_call 62; refine (digit_any _ _ (by omega) hbb).mono ?_; rintro e w' ⟨rfl, rfl⟩)
        go_round
        case rel => exact ⟨k + 1, by omega, by go_num, hn⟩
        case measure => simp [intOf]; omega
    · have hk2 : k = s.size := by omega
      by_cases h0 : 0 < s.size
      · have hn := Lib.hid (show toldB s b = true by
          unfold toldB
          rw [decide_eq_true_iff]
          exact ⟨h0, fun j hj => hok.out j (by omega)⟩)
        have hne := list_ne h0
        go_wp2_with fail
        go_ret
        exact ⟨ret_bool (by rw [hn.out]), rfl⟩
      · have hn := Lib.hid (show toldB s b = false by
          unfold toldB
          rw [decide_eq_false_iff_not]
          exact fun h => h0 h.1)
        have hne := list_nil (s := s) (by omega)
        go_wp2_with fail
        go_ret
        exact ⟨ret_bool (by rw [hn.out]), rfl⟩
end Go.Proofs.YtkafkcmhekgheaaGreatDoor.Q

namespace Go.Proofs.YtkafkcmhekgheaaGreatDoor.Q
open Go.RowKit NM

/-- The variable 'bases' holds what its initialiser lays. -/
def Bases (w : World) : Prop := w.cell? ⟨0, 0, none⟩ = some (.int .i64 2) ∧ w.cell? ⟨0, 1, none⟩ = some (.int .i64 8) ∧ w.cell? ⟨0, 2, none⟩ = some (.int .i64 10) ∧ w.cell? ⟨0, 3, none⟩ = some (.int .i64 16)

theorem cell_lt {w : World} {b o : Nat} {v : Value} (h : w.cell? ⟨b, o, none⟩ = some v) : b < w.heap.size := by
  by_cases hb : b < w.heap.size
  · exact hb
  · rw [World.cell?, Array.getElem?_eq_none (show w.heap.size ≤ b by omega)] at h
    cases h
theorem Bases.below {w w' : World} (h : Bases w) (hb : Below w.heap.size w w') : Bases w' := by
  obtain ⟨h0, h1, h2, h3⟩ := h
  have hl := cell_lt h0
  exact ⟨by rw [hb.cell (p := ⟨_, 0, none⟩) hl]; exact h0, by rw [hb.cell (p := ⟨_, 1, none⟩) hl]; exact h1, by rw [hb.cell (p := ⟨_, 2, none⟩) hl]; exact h2, by rw [hb.cell (p := ⟨_, 3, none⟩) hl]; exact h3⟩

/-- A base that Parse reads. -/
def baseB (b : Int) : Bool := decide (b = 2 ∨ b = 8 ∨ b = 10 ∨ b = 16)

/-- Whether one of the first k bases is b. -/
def knB (b : Int) (k : Nat) : Bool := decide ((0 < k ∧ b = 2) ∨ (1 < k ∧ b = 8) ∨ (2 < k ∧ b = 10) ∨ (3 < k ∧ b = 16))
theorem knB_end (b : Int) : knB b 4 = baseB b := by
  unfold knB baseB
  rw [decide_eq_decide]
  omega
theorem knB_zero (b : Int) : knB b 0 = false := by
  unfold knB
  rw [decide_eq_false_iff_not]
  omega

/-- The number that the first k digits tell. -/
def pv (s : ByteArray) (b : Int) : Nat → Int
  | 0 => 0
  | k + 1 => pv s b k * b + dAt s k

theorem dg_nonneg (c : Int) : 0 ≤ dg c := by
  unfold dg
  (repeat' split) <;> omega
theorem pv_nonneg (s : ByteArray) {b : Int} (hb : 2 ≤ b) : ∀ k, 0 ≤ pv s b k
  | 0 => Int.le_refl _
  | k + 1 => by
    have h1 := pv_nonneg s hb k
    have h2 : 0 ≤ pv s b k * b := Int.mul_nonneg h1 (by omega)
    have h3 := dg_nonneg (byteAt s k)
    rw [pv, dAt]
    omega
theorem pv_mono (s : ByteArray) {b : Int} (hb : 2 ≤ b) (k : Nat) : ∀ j, pv s b k ≤ pv s b (k + j)
  | 0 => Int.le_refl _
  | j + 1 => by
    have h1 := pv_mono s hb k j
    have h0 := pv_nonneg s hb (k + j)
    have h2 : pv s b (k + j) * 1 ≤ pv s b (k + j) * b := Int.mul_le_mul_of_nonneg_left (by omega) h0
    have h3 := dg_nonneg (byteAt s (k + j))
    rw [← Nat.add_assoc, pv, dAt]
    omega

/-- What Parse answers. -/
def ParseOk (s : ByteArray) (b : Int) (e : Ending) (w' : World) : Prop :=
  (baseB b = false ∧ e = .returned (.tuple #[.slice none 0 0, .int .i64 1])) ∨
  (baseB b = true ∧ toldB s b = false ∧ e = .returned (.tuple #[.slice none 0 0, .int .i64 5])) ∨
  (baseB b = true ∧ toldB s b = true ∧ Told (pv s b s.size) e w')

theorem toldB_iff {s : ByteArray} {b : Int} : toldB s b = true ↔ 0 < s.size ∧ ∀ k, k < s.size → dAt s k < b := by
  unfold toldB
  rw [decide_eq_true_iff]
theorem baseB_iff {b : Int} : baseB b = true ↔ b = 2 ∨ b = 8 ∨ b = 10 ∨ b = 16 := by
  unfold baseB
  rw [decide_eq_true_iff]

set_option maxHeartbeats 4000000 in
set_option maxRecDepth 100000 in
theorem parse_any (s : ByteArray) (b : Int) (w : World) (hB : Bases w) (hs : s.size ≤ 1000000) :
    Calls Tryz.prog 36 #[.string s, .int .i64 b] w fun e w' => ParseOk s b e w' ∧ Below w.heap.size w w' := by
  obtain ⟨h0, h1, h2, h3⟩ := hB
  have i0 : ∀ w, (Instr.index 100 (.agg #[.int .i64 2, .int .i64 8, .int .i64 10, .int .i64 16]) (.int .i64 0)).run Tryz.prog w = .ok (.int .i64 2) w := fun _ => by kernel_rfl
  have i1 : ∀ w, (Instr.index 100 (.agg #[.int .i64 2, .int .i64 8, .int .i64 10, .int .i64 16]) (.int .i64 1)).run Tryz.prog w = .ok (.int .i64 8) w := fun _ => by kernel_rfl
  have i2 : ∀ w, (Instr.index 100 (.agg #[.int .i64 2, .int .i64 8, .int .i64 10, .int .i64 16]) (.int .i64 2)).run Tryz.prog w = .ok (.int .i64 10) w := fun _ => by kernel_rfl
  have i3 : ∀ w, (Instr.index 100 (.agg #[.int .i64 2, .int .i64 8, .int .i64 10, .int .i64 16]) (.int .i64 3)).run Tryz.prog w = .ok (.int .i64 16) w := fun _ => by kernel_rfl
  go_enter Tryz.func36, Tryz.ntmps36
  go_wp2_with fail
  go_loop [6, 8, 14] (fun kn _ i => ∃ k : Nat, k ≤ 4 ∧ i = .int .i64 k ∧ kn = .bool (knB b k)) (fun _ _ i => 4 - (intOf i).toNat)
  case atStart => exact ⟨0, by omega, rfl, by rw [knB_zero]⟩
  case round =>
    obtain ⟨k, hk, rfl, rfl⟩ := hrel
    by_cases hk4 : k < 4
    · have hnx : ∀ (d : Int), (k = 0 ∧ d = 2 ∨ k = 1 ∧ d = 8 ∨ k = 2 ∧ d = 10 ∨ k = 3 ∧ d = 16) → knB b (k + 1) = (knB b k || d == b) := by
        intro d hd
        unfold knB
        rw [Bool.eq_iff_iff]
        simp only [Bool.or_eq_true, decide_eq_true_iff, beq_iff_eq]
        omega
      rcases (show k = 0 ∨ k = 1 ∨ k = 2 ∨ k = 3 by omega) with rfl | rfl | rfl | rfl
      · have hn := Lib.hid (hnx 2 (by omega))
        clear hnx
        cases hkn : knB b 0
        all_goals
          go_wp2_with fail
          go_round
          case rel => exact ⟨1, by omega, rfl, by rw [hn.out, hkn]; rfl⟩
          case measure => simp [intOf]
      · have hn := Lib.hid (hnx 8 (by omega))
        clear hnx
        cases hkn : knB b 1
        all_goals
          go_wp2_with fail
          go_round
          case rel => exact ⟨2, by omega, rfl, by rw [hn.out, hkn]; rfl⟩
          case measure => simp [intOf]
      · have hn := Lib.hid (hnx 10 (by omega))
        clear hnx
        cases hkn : knB b 2
        all_goals
          go_wp2_with fail
          go_round
          case rel => exact ⟨3, by omega, rfl, by rw [hn.out, hkn]; rfl⟩
          case measure => simp [intOf]
      · have hn := Lib.hid (hnx 16 (by omega))
        clear hnx
        cases hkn : knB b 3
        all_goals
          go_wp2_with fail
          go_round
          case rel => exact ⟨4, by omega, rfl, by rw [hn.out, hkn]; rfl⟩
          case measure => simp [intOf]
    · have hk44 : k = 4 := by omega
      subst hk44
      rw [knB_end]
      cases hbb : baseB b
      · have Hbb := Lib.hid hbb
        clear hbb
        go_wp2_with fail
        go_ret2
        exact ⟨.inl ⟨Hbb.out, rfl⟩, Below.refl _ _⟩
      · have hbase := baseB_iff.1 hbb
        have Hbb := Lib.hid hbb
        clear hbb i0 i1 i2 i3 h0 h1 h2 h3
        have b2 : 2 ≤ b := by omega
        have b16 : b ≤ 16 := by omega
        cases htt : toldB s b
        · have Htt := Lib.hid htt
          clear hbase
          go_wp2_with (go_at_call 61; refine (told_any s b _ hs).mono ?_; rintro e w' ⟨rfl, rfl⟩)
          go_ret2
          exact ⟨.inr (.inl ⟨Hbb.out, Htt.out, rfl⟩), Below.refl _ _⟩
        · have hdig := Lib.hid (toldB_iff.1 htt).2
          have Htt := Lib.hid htt
          clear hbase
          have hmk : ∀ wx, (Instr.makeSlice 47 (.int .i64 16) (.int .i64 16)).run Tryz.prog wx = .ok (.slice (some ⟨wx.heap.size, 0, none⟩) 16 16) (wx.alloc (.cells (arr (List.replicate 16 0)) 54)) := make_nat 16 (by omega)
          go_wp2_with (go_at_call 61; refine (told_any s b _ hs).mono ?_; rintro e w' ⟨rfl, rfl⟩)
          clear htt
          go_loopw [10, 11, 12, 33] (fun _ _ _ i wr => ∃ k : Nat, ∃ zs : List Int, k ≤ s.size ∧ i = .int .i64 k ∧ zs.length = 16 ∧ U32s zs ∧ Hid (val zs = pv s b k) ∧ wr = w.alloc (.cells (arr zs) 54)) (fun _ _ _ i _ => s.size - (intOf i).toNat)
          case atStart => exact ⟨0, List.replicate 16 0, Nat.zero_le _, rfl, rfl, U32s_replicate _, Lib.hid rfl, rfl⟩
          case round =>
            obtain ⟨k, zs, hk, rfl, hz, uz, hv, rfl⟩ := hrel
            by_cases hlt : k < s.size
            · have hby := Lib.hid (byteAt_eq hlt)
              have hbb : (s[k].toNat : Int) < 256 := by have := UInt8.toNat_lt s[k]; omega
              have hd := Lib.hid (show dAt s k = dg (s[k].toNat : Int) by unfold dAt; rw [hby.out])
              have hd1 : dg (s[k].toNat : Int) < b := by rw [← hd.out]; exact hdig.out k hlt
              have hd0 := dg_nonneg (s[k].toNat : Int)
              obtain ⟨D, hD⟩ : ∃ D, dg (s[k].toNat : Int) = D := ⟨_, rfl⟩
              have HD := Lib.hid hD
              go_wp2_with (go_at_call 62; refine (digit_any _ _ (by omega) hbb).mono ?_; rintro e w' ⟨rfl, rfl⟩)
              rw [hD] at hd0 hd1
              clear hD
              go_loopw [11, 12, 43] (fun c _ i wr => ∃ j : Nat, ∃ zt : List Int, ∃ c0 : Int, j ≤ 16 ∧ i = .int .i64 j ∧ c = .int .u64 c0 ∧ 0 ≤ c0 ∧ c0 < b ∧ zt.length = 16 ∧ U32s zt ∧ Hid (val (zt.take j) + pw j * c0 = val (zs.take j) * b + D) ∧ Hid (∀ i, j ≤ i → lb zt i = lb zs i) ∧ wr = w.alloc (.cells (arr zt) 54)) (fun _ _ i _ => 16 - (intOf i).toNat)
              case atStart => exact ⟨0, zs, D, Nat.zero_le _, rfl, rfl, hd0, hd1, hz, uz, Lib.hid (by simp [val, pw]), Lib.hid (fun _ _ => rfl), rfl⟩
              case round =>
                obtain ⟨j, zt, c0, hj, rfl, rfl, hc0, hc1, hzt, uzt, hvt, hsame, rfl⟩ := hrel
                by_cases hj16 : j < 16
                · have hzk := arr_at zt j (by omega)
                  obtain ⟨z0, z1⟩ := lb_range uzt j
                  obtain ⟨P, hP⟩ : ∃ P, lb zt j * b = P := ⟨_, rfl⟩
                  have p0 : 0 ≤ P := by rw [← hP]; exact Int.mul_nonneg z0 (by omega)
                  have p1 : P ≤ 4294967295 * b := by rw [← hP]; exact Int.mul_le_mul_of_nonneg_right (by omega) (by omega)
                  have HP := Lib.hid hP
                  go_wp2_with fail
                  go_roundw
                  case rel =>
                    refine ⟨j + 1, zt.set j ((c0 + P) % 4294967296), (c0 + P) / 4294967296, by omega, by go_num, by rw [← HP.out], by omega, by omega, by simpa using hzt, U32s_set uzt _ (by omega) (by omega), Lib.hid ?_, Lib.hid ?_, by rw [arr_set, ← HP.out]⟩
                    · have h1 := carry_step (zs := zt) (k := j) (by omega) (s := P) (d := (c0 + P) % 4294967296) (q := (c0 + P) / 4294967296) hvt.out (by omega)
                      rw [h1, val_step (by omega), ← HP.out, hsame.out j (Nat.le_refl _), Int.add_mul, Int.mul_assoc]
                      omega
                    · intro i hi
                      rw [lb_set_ne (by omega)]
                      exact hsame.out i (by omega)
                  case measure => simp [intOf]; omega
                · have hj2 : j = 16 := by omega
                  subst hj2
                  have hvv := hvt.out
                  rw [val_take_all (by omega), val_take_all (by omega), hv.out, ← HD.out, ← hd.out] at hvv
                  by_cases hc : c0 = 0
                  · subst hc
                    have hv2 := Lib.hid (show val zt = pv s b (k + 1) by rw [pv]; omega)
                    clear hvv
                    go_wp2_with fail
                    go_roundw
                    case rel => exact ⟨k + 1, zt, by omega, by go_num, hzt, uzt, hv2, rfl⟩
                    case measure => simp [intOf]; omega
                  · have hge := Lib.hid (show pw 16 ≤ pv s b s.size by
                      have h1 := pv_mono s b2 (k + 1) (s.size - (k + 1))
                      have h2 : k + 1 + (s.size - (k + 1)) = s.size := by omega
                      rw [h2] at h1
                      refine Int.le_trans ?_ h1
                      rw [pv]
                      have h3 := val_nonneg uzt
                      have h4 : pw 16 * 1 ≤ pw 16 * c0 := Int.mul_le_mul_of_nonneg_left (by omega) (by decide)
                      omega)
                    clear hvv
                    go_wp2_with fail
                    go_ret2
                    exact ⟨.inr (.inr ⟨Hbb.out, Htt.out, .inr ⟨hge.out, rfl⟩⟩), (Below.refl _ _).alloc (Nat.le_refl _) _⟩
            · have hkk : k = s.size := by omega
              subst hkk
              have hsm : tl zs zs.length ≤ 16 := by have := tl_le zs zs.length; omega
              have hnum := trimmed_num (arr_row w zs 54) uz (cap := 16) (by omega) hsm
              have hrg := val_lt uz
              rw [hz] at hrg
              rw [hv.out, hz] at hnum
              rw [hv.out] at hrg
              have Hnum := Lib.hid hnum
              have Hrg := Lib.hid hrg
              have htr := trim_any (some ⟨w.heap.size, 0, none⟩) 16 zs (w.alloc (.cells (arr zs) 54)) (arr_row _ _ _) (by omega) (by omega)
              rw [hz] at htr
              have Htr := Lib.hid htr
              clear hnum htr hsm hrg
              go_wp2_with (go_at_call 63; refine Htr.out.mono ?_; rintro e w2 ⟨rfl, rfl⟩)
              go_ret2
              exact ⟨.inr (.inr ⟨Hbb.out, Htt.out, .inl ⟨Hrg.out, _, rfl, Hnum.out⟩⟩), (Below.refl _ _).alloc (Nat.le_refl _) _⟩
end Go.Proofs.YtkafkcmhekgheaaGreatDoor.Q

namespace NM

/-- What digits are worth, the least first. -/
def dv : List Int → Int
  | [] => 0
  | d :: ds => d + 10 * dv ds
def Digs (ds : List Int) : Prop := ∀ d ∈ ds, 0 ≤ d ∧ d < 10
/-- The digits of a number, with no zero ahead. -/
def Dec (ds : List Int) (N : Int) : Prop := Digs ds ∧ dv ds = N ∧ ((N = 0 ∧ ds = [0]) ∨ (0 < ds.length ∧ 10 ^ (ds.length - 1) ≤ N))

theorem ten_pos (n : Nat) : (0 : Int) < 10 ^ n := Int.pow_pos (by omega)
theorem ten_succ (n : Nat) : (10 : Int) ^ (n + 1) = 10 ^ n * 10 := Int.pow_succ _ _
theorem dv_snoc (ds : List Int) (x : Int) : dv (ds ++ [x]) = dv ds + 10 ^ ds.length * x := by
  induction ds with
  | nil => simp [dv]
  | cons d ds ih =>
    rw [List.cons_append, dv, ih, dv, List.length_cons, ten_succ, Int.mul_add, Int.mul_comm (10 ^ ds.length) 10, Int.mul_assoc]
    omega
theorem Digs_snoc {ds : List Int} (h : Digs ds) {x : Int} (h0 : 0 ≤ x) (h1 : x < 10) : Digs (ds ++ [x]) := by
  intro d hd
  rcases List.mem_append.1 hd with hd | hd
  · exact h d hd
  · simp at hd; omega
theorem dv_range {ds : List Int} (h : Digs ds) : 0 ≤ dv ds ∧ dv ds < 10 ^ ds.length := by
  induction ds with
  | nil => simp [dv]
  | cons d ds ih =>
    have h1 := ih (fun x hx => h x (List.mem_cons_of_mem _ hx))
    have h2 := h d (List.mem_cons_self ..)
    rw [dv, List.length_cons, ten_succ]
    omega
/-- One digit more. -/
theorem dec_step {ds : List Int} {N R x R' : Int} (h : dv ds + 10 ^ ds.length * R = N) (hR : R = x + 10 * R') : dv (ds ++ [x]) + 10 ^ (ds ++ [x]).length * R' = N := by
  rw [dv_snoc, List.length_append, List.length_singleton, ten_succ, ← h, hR, Int.mul_add, Int.mul_assoc]
  omega
theorem ten_le {a b : Nat} (h : a ≤ b) : (10 : Int) ^ a ≤ 10 ^ b := by
  obtain ⟨k, rfl⟩ : ∃ k, b = a + k := ⟨b - a, by omega⟩
  rw [Int.pow_add]
  have h1 := ten_pos a
  have h2 := ten_pos k
  have h3 : (10 : Int) ^ a * 1 ≤ 10 ^ a * 10 ^ k := Int.mul_le_mul_of_nonneg_left (by omega) (by omega)
  omega
theorem ten_small {n : Nat} {N : Int} (h : 10 ^ n ≤ N) (hN : N < pw 16) : n ≤ 154 := by
  rcases Nat.lt_or_ge 154 n with hn | hn
  · exfalso
    have h1 := ten_le (show 155 ≤ n by omega)
    have h2 : (pw 16 : Int) ≤ 10 ^ 155 := by decide +kernel
    omega
  · exact hn
theorem rest_le {ds : List Int} {N R : Int} (hd : Digs ds) (h : dv ds + 10 ^ ds.length * R = N) (hR : 0 < R) : 10 ^ ds.length ≤ N := by
  have h1 := dv_range hd
  have h2 := ten_pos ds.length
  have h3 : (10 : Int) ^ ds.length * 1 ≤ 10 ^ ds.length * R := Int.mul_le_mul_of_nonneg_left (by omega) (by omega)
  omega
end NM

namespace Go.Proofs
open Go.Shelf
end Go.Proofs
namespace Go.Proofs.YtkafkcmhekgheaaGreatDoor.Q
open Go.RowKit Go.Lib Go.Sort

theorem onlyB_put (w : World) (n g : Nat) (d : Array Int) : OnlyB g w (putRow (Value.int .u8) (Sort.ahead w n) g 0 d) := by
  refine ⟨rfl, rfl, rfl, by simp, fun k hk hne => ?_⟩
  simp only [putRow, mapBlock, heap_ahead, Array.getElem?_modify, if_neg (Ne.symm hne)]

end Go.Proofs.YtkafkcmhekgheaaGreatDoor.Q

namespace Go.Proofs.YtkafkcmhekgheaaGreatDoor.Q
open Go.RowKit NM

/-- A text that tells a number, with no zero ahead. -/
def DecStr (s : ByteArray) (N : Int) : Prop := ∃ ds, Dec ds N ∧ s = strOfNums (ds.map fun d => 48 + d).reverse

theorem Num.grown {w w' : World} {v : Value} {N : Int} {row : Option Nat} (h : Num w v N) (hg : w.grownBy w' row) (hne : ∀ b, v.ownBlock = some b → row ≠ some b) : Num w' v N := by
  obtain ⟨xs, ⟨ao, cap, rfl, h2, h3, h4, h5⟩, hr, hv⟩ := h
  refine ⟨xs, ⟨ao, cap, rfl, h2, ?_, h4, h5⟩, hr, hv⟩
  rcases h3 with h | ⟨b, off, rfl, hb, hc⟩
  · exact .inl h
  · refine .inr ⟨b, off, rfl, Nat.lt_of_lt_of_le hb hg.size, fun i hi => ?_⟩
    exact hg.cell (a := ⟨b, off + i, none⟩) (hc i hi) (fun e => hne b rfl e.symm)

/-- The slice v is not where the row vd lies. -/
def Apart (w : World) (v vd : Value) : Prop := ∀ b, v.ownBlock = some b → b < w.heap.size ∧ vd.ownBlock ≠ some b

theorem info_u8 : (Tryz.prog.info? 5).map (fun i => (i.zero, i.size, i.bytes)) = some (some (.int .u8 0), 1, 1) := by kernel_rfl
def D8 (ds : List Int) : List Value := ds.map fun d => .int .u8 (48 + d)
theorem D8_snoc (ds : List Int) (x : Int) : D8 (ds ++ [x]) = D8 ds ++ [.int .u8 (48 + x)] := by simp [D8]

theorem own_below {w w' : World} {base : Nat} {e : TypeId} {size : Nat} {v : Value} {n : Nat} {xs : List Value} (h : w.ownsRow base e size v n xs) (hb : Below w.heap.size w w') : w'.ownsRow base e size v n xs :=
  h.kept (row := none) ⟨hb.os, hb.tape, hb.output, hb.size, fun k hk _ => hb.block k hk⟩ (by cases hv : v.ownBlock <;> simp)

/-- One byte more behind the row: what is kept. -/
theorem text_kept {w0 wr w2 : World} {v' u4 va : Value} {es : List Int} {t M1 : Int} (hown : wr.ownsRow w0.heap.size 5 1 u4 es.length (D8 es)) (hnum : Num wr va M1) (hap : Apart wr va u4) (hbl : Below w0.heap.size w0 wr)
    (h3 : w2.ownsRow w0.heap.size 5 1 v' (es.length + 1) (D8 es ++ [.int .u8 (48 + t)])) (hg : (wr.alloc (.cells #[.int .u8 (48 + t)] 5)).grownBy w2 u4.ownBlock)
    (hb : v'.ownBlock = u4.ownBlock ∨ v'.ownBlock = some (wr.heap.size + 1)) :
    w2.ownsRow w0.heap.size 5 1 v' (es ++ [t]).length (D8 (es ++ [t])) ∧ Num w2 va M1 ∧ Apart w2 va v' ∧ Below w0.heap.size w0 w2 := by
  have hs : (wr.alloc (.cells #[.int .u8 (48 + t)] 5)).heap.size = wr.heap.size + 1 := by simp
  have hba := (Below.refl wr.heap.size wr).alloc (Nat.le_refl _) (.cells #[.int .u8 (48 + t)] 5)
  refine ⟨by rw [D8_snoc]; simpa using h3, (hnum.below hba).grown hg (fun b h => (hap b h).2), fun b h => ?_, ?_⟩
  · have h1 := hap b h
    have h2 := hg.size
    refine ⟨by omega, ?_⟩
    rcases hb with hb | hb
    · rw [hb]; exact h1.2
    · rw [hb]; intro e; simp at e; omega
  · exact (hbl.alloc hbl.size _).grown hg (by have := hbl.size; omega) (fun k hk => (hown.lt k hk).1)

/-- What nine digits leave room for, behind k of them. -/
def tn (k : Nat) : Int := 10 ^ (9 - k)
theorem tn_pos (k : Nat) : 0 < tn k := ten_pos _
theorem tn_zero : tn 0 = 1000000000 := by decide +kernel
theorem tn_nine : tn 9 = 1 := by decide +kernel
theorem tn_succ {k : Nat} (h : k < 9) : tn k = 10 * tn (k + 1) := by
  unfold tn
  rw [show 9 - k = (9 - (k + 1)) + 1 by omega, ten_succ, Int.mul_comm]
theorem tn_le (k : Nat) : tn k ≤ 1000000000 := by
  rw [← tn_zero]
  exact ten_le (by omega)
/-- The state of the inner loop: k of nine digits are written; low and M1 are left. -/
structure InText (N M1 : Int) (k : Nat) (low : Int) (ds : List Int) : Prop where
  digs : Digs ds
  low0 : 0 ≤ low
  low1 : low < tn k
  all : dv ds + 10 ^ ds.length * (low + tn k * M1) = N
  lead : 0 < low + tn k * M1 ∨ (0 < ds.length ∧ 10 ^ (ds.length - 1) ≤ N)
theorem InText.rest {N M1 : Int} {k : Nat} {low : Int} {ds : List Int} (h : InText N M1 k low ds) (hM : 0 ≤ M1) (hr : 0 < low ∨ 0 < M1) : 0 < low + tn k * M1 := by
  have h1 := tn_pos k
  have h2 : 0 ≤ tn k * M1 := Int.mul_nonneg (by omega) hM
  have h3 := h.low0
  rcases hr with hr | hr
  · omega
  · have := Int.mul_pos h1 hr
    omega
theorem InText.step {N M1 : Int} {k : Nat} {low : Int} {ds : List Int} (h : InText N M1 k low ds) (hk : k < 9) (hM : 0 ≤ M1) (hr : 0 < low ∨ 0 < M1) : InText N M1 (k + 1) (low / 10) (ds ++ [low % 10]) := by
  have h0 := h.rest hM hr
  have h1 := tn_succ hk
  have h2 := h.low0
  have h3 := h.low1
  have e : low + tn k * M1 = low % 10 + 10 * (low / 10 + tn (k + 1) * M1) := by
    rw [h1, Int.mul_assoc]
    omega
  refine ⟨Digs_snoc h.digs (by omega) (by omega), by omega, by omega, dec_step h.all e, .inr ⟨by simp, ?_⟩⟩
  rw [List.length_append, List.length_singleton, Nat.add_sub_cancel]
  exact rest_le h.digs h.all h0
theorem InText.start {N M : Int} {ds : List Int} (hd : Digs ds) (h : dv ds + 10 ^ ds.length * M = N) (hM : 0 < M) : InText N (M / 1000000000) 0 (M % 1000000000) ds := by
  have e : M % 1000000000 + tn 0 * (M / 1000000000) = M := by rw [tn_zero]; omega
  exact ⟨hd, by omega, by rw [tn_zero]; omega, by rw [e]; exact h, .inl (by rw [e]; exact hM)⟩
theorem InText.small {N M1 : Int} {k : Nat} {low : Int} {ds : List Int} (h : InText N M1 k low ds) (hM : 0 ≤ M1) (hr : 0 < low ∨ 0 < M1) (hN : N < pw 16) : ds.length ≤ 154 :=
  ten_small (rest_le h.digs h.all (h.rest hM hr)) hN
/-- At the inner loop's end: nine digits, or nothing left. -/
theorem InText.done {N M1 : Int} {k : Nat} {low : Int} {ds : List Int} (h : InText N M1 k low ds) (hk : k ≤ 9) (hM : 0 ≤ M1) (he : k = 9 ∨ (low = 0 ∧ M1 = 0)) :
    dv ds + 10 ^ ds.length * M1 = N ∧ (0 < M1 ∨ (0 < ds.length ∧ 10 ^ (ds.length - 1) ≤ N)) := by
  have h1 := h.all
  have h2 := h.low0
  have h3 := h.low1
  have h4 := h.lead
  rcases he with rfl | ⟨rfl, rfl⟩
  · rw [tn_nine] at h1 h3 h4
    have hl : low = 0 := by omega
    subst hl
    simp only [Int.zero_add, Int.one_mul] at h1 h4
    exact ⟨h1, h4⟩
  · simp at h1 h4
    exact ⟨by simpa using h1, .inr h4⟩

theorem decStr_zero : DecStr ⟨#[48]⟩ 0 := ⟨[0], ⟨by intro d hd; simp at hd; omega, rfl, .inl ⟨rfl, rfl⟩⟩, rfl⟩

end Go.Proofs.YtkafkcmhekgheaaGreatDoor.Q

namespace Go.Proofs.YtkafkcmhekgheaaGreatDoor.Q
open Go.RowKit NM

theorem dv_same : ∀ {ds es : List Int}, Digs ds → Digs es → ds.length = es.length → dv ds = dv es → ds = es
  | [], [], _, _, _, _ => rfl
  | [], e :: es, _, _, h, _ => by simp at h
  | d :: ds, [], _, _, h, _ => by simp at h
  | d :: ds, e :: es, hd, he, hl, hv => by
    have h1 := hd d (List.mem_cons_self ..)
    have h2 := he e (List.mem_cons_self ..)
    rw [dv, dv] at hv
    have h3 : d = e := by omega
    have h4 := dv_same (fun x hx => hd x (List.mem_cons_of_mem _ hx)) (fun x hx => he x (List.mem_cons_of_mem _ hx)) (by simpa using hl) (show dv ds = dv es by omega)
    rw [h3, h4]
theorem ten_inv {a b : Nat} (h : (10 : Int) ^ a < 10 ^ b) : a < b := by
  rcases Nat.lt_or_ge a b with h1 | h1
  · exact h1
  · have := ten_le h1; omega
theorem dec_len {ds es : List Int} {N : Int} (h : Dec ds N) (k : Dec es N) : ds.length ≤ es.length := by
  obtain ⟨_, _, h3⟩ := h
  obtain ⟨k1, k2, k3⟩ := k
  have hr := dv_range k1
  rcases h3 with ⟨rfl, rfl⟩ | ⟨h0, h3⟩
  · rcases k3 with ⟨_, rfl⟩ | ⟨k0, _⟩
    · exact Nat.le_refl _
    · simp only [List.length_singleton]; omega
  · have := ten_inv (show (10 : Int) ^ (ds.length - 1) < 10 ^ es.length by omega)
    omega
/-- A number's digits are these and no others. -/
theorem dec_same {ds es : List Int} {N : Int} (h : Dec ds N) (k : Dec es N) : ds = es :=
  dv_same h.1 k.1 (Nat.le_antisymm (dec_len h k) (dec_len k h)) (h.2.1.trans k.2.1.symm)
theorem DecStr.same {s t : ByteArray} {N : Int} (h : DecStr s N) (k : DecStr t N) : s = t := by
  obtain ⟨ds, h1, rfl⟩ := h
  obtain ⟨es, h2, rfl⟩ := k
  rw [dec_same h1 h2]

def aliveText : ByteArray := ⟨#[49, 48, 48, 48, 48, 48, 48, 48, 48, 48, 48]⟩
theorem alive_parse (w : World) (hB : Bases w) :
    Calls Tryz.prog 36 #[.string aliveText, .int .i64 16] w fun e w' => (∃ v, e = .returned (.tuple #[v, .int .i64 0]) ∧ Num w' v 1099511627776) ∧ Below w.heap.size w w' := by
  refine (parse_any aliveText 16 w hB (by decide)).mono ?_
  rintro e w' ⟨h, hb⟩
  refine ⟨?_, hb⟩
  have h1 : baseB 16 = true := by decide
  have h2 : toldB aliveText 16 = true := by decide +kernel
  have h3 : pv aliveText 16 aliveText.size = 1099511627776 := by decide +kernel
  rcases h with ⟨h, _⟩ | ⟨_, h, _⟩ | ⟨_, _, h⟩
  · rw [h1] at h; cases h
  · rw [h2] at h; cases h
  · rw [h3] at h
    rcases h with ⟨_, v, he, hn⟩ | ⟨h, _⟩
    · exact ⟨v, he, hn⟩
    · have : (1099511627776 : Int) < pw 16 := by decide +kernel
      omega

theorem alive_dec : Dec [7, 7, 7, 2, 6, 1, 1, 5, 9, 9, 0, 1] 109951162777 := ⟨by unfold Digs; decide, by decide, .inr ⟨by decide, by decide⟩⟩
theorem alive_str : DecStr ⟨#[49, 48, 57, 57, 53, 49, 49, 54, 50, 55, 55, 55]⟩ 109951162777 := ⟨_, alive_dec, by decide +kernel⟩

end Go.Proofs.YtkafkcmhekgheaaGreatDoor.Q

