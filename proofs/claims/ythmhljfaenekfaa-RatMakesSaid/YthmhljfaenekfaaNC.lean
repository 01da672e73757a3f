/- The numbers of nat and of its reference, for this seat: XNatShift, XNatShiftBy, XNatSame, XNatDigit, XNatParse, XNatDec, XNatRev, XNatText, XNatAlive. -/
import Derived.Test.YthmhljfaenekfaaNB
import Derived.Shelf.SlicesE.Reverse
import Derived.Maps.AppendAt
import Derived.Deep.LoopGhost
import Derived.Laws.BytesArg
namespace Go.Proofs.Ythmhljfaenekfaa
open Go.RowKit NM

theorem pw_pow (n : Nat) : pw n = 2 ^ (32 * n) := by
  induction n with
  | zero => rfl
  | succ n ih =>
    rw [pw_succ', ih, show 32 * (n + 1) = 32 * n + 32 by omega, Int.pow_add]
    rfl

/-- The least number of bits. -/
def IsBits (N : Int) (k : Nat) : Prop := (N = 0 ∧ k = 0) ∨ (0 < N ∧ 1 ≤ k ∧ 2 ^ (k - 1) ≤ N ∧ N < 2 ^ k)

theorem top_bits {xs : List Int} (cx : Canon xs) {n : Nat} (hl : xs.length = n + 1) {k : Nat} (k1 : 1 ≤ k) (h0 : (2 : Int) ^ (k - 1) ≤ lb xs n) (h1 : lb xs n < 2 ^ k) : IsBits (val xs) (n * 32 + k) := by
  have h2 := val_step (xs := xs) (k := n) (by omega)
  rw [val_take_all (by omega)] at h2
  have t0 := val_nonneg (U32s_take cx.u n)
  have t1 := val_lt (U32s_take cx.u n)
  rw [List.length_take, Nat.min_eq_left (by omega)] at t1
  have hp := pw_pos n
  have e : pw n = 2 ^ (n * 32) := by rw [pw_pow, Nat.mul_comm]
  have a1 : pw n * 2 ^ (k - 1) ≤ pw n * lb xs n := Int.mul_le_mul_of_nonneg_left h0 (by omega)
  have a2 : pw n * (lb xs n + 1) ≤ pw n * 2 ^ k := Int.mul_le_mul_of_nonneg_left (by omega) (by omega)
  rw [Int.mul_add] at a2
  have b1 : pw n * 2 ^ (k - 1) = 2 ^ (n * 32 + k - 1) := by rw [e, ← Int.pow_add, show n * 32 + (k - 1) = n * 32 + k - 1 by omega]
  have b2 : pw n * 2 ^ k = 2 ^ (n * 32 + k) := by rw [e, ← Int.pow_add]
  rw [b1] at a1
  rw [b2] at a2
  have := pow_pos2 (n * 32 + k - 1)
  exact .inr ⟨by omega, by omega, by omega, by omega⟩

/-- A slice that is no number. -/
def Bad1 (w : World) (v : Value) : Prop := ∃ xs, Sl w v xs ∧ rightB xs = false
theorem right_bad {w : World} {v : Value} (h : Bad1 w v) :
    Calls Try.prog 36 #[v] w fun e w' => e = .returned (.bool false) ∧ w = w' := by
  obtain ⟨xs, h1, h2⟩ := h
  have := right_sl h1
  rw [h2] at this
  exact this
end Go.Proofs.Ythmhljfaenekfaa

namespace Go.Proofs.Ythmhljfaenekfaa
open Go.RowKit NM

theorem pow16 : pw 16 = 2 ^ 512 := by rw [pw_pow]
theorem Num.of_zero {w : World} {v : Value} (h : Num w v 0) : ∃ ao cap, v = .slice ao 0 cap := by
  obtain ⟨ao, n, cap, rfl, _, h0, _, _⟩ := h.len
  rw [h0.2 rfl]
  exact ⟨ao, cap, rfl⟩

/-- Shifted down: by limbs, then by bits. -/
theorem down_limbs {xs : List Int} {s : Nat} (ux : U32s xs) (hs : s / 32 ≤ xs.length) : val (xs.drop (s / 32)) / 2 ^ (s % 32) = val xs / 2 ^ s := by
  have h1 := val_split xs (s / 32) hs
  have t0 := val_nonneg (U32s_take ux (s / 32))
  have t1 := val_lt (U32s_take ux (s / 32))
  rw [List.length_take, Nat.min_eq_left hs] at t1
  have hp := pw_pos (s / 32)
  have h2 : val xs / pw (s / 32) = val (xs.drop (s / 32)) := by
    rw [h1, Int.add_mul_ediv_left _ _ (by omega), Int.ediv_eq_zero_of_lt t0 t1, Int.zero_add]
  rw [← h2, Int.ediv_ediv, if_neg (by omega), Int.sub_zero, pw_pow, ← Int.pow_add, show 32 * (s / 32) + s % 32 = s by omega]

theorem make_cap (l c : Nat) (hl : l ≤ c) (hc : c ≤ 1000000) (w : World) :
    (Instr.makeSlice 23 (.int .i64 (l : Int)) (.int .i64 (c : Int))).run Try.prog w = .ok (.slice (some ⟨w.heap.size, 0, none⟩) l c) (w.alloc (.cells (arr (List.replicate c 0)) 60)) := by
  obtain ⟨i, hi, hz, hs, hb⟩ := info_parts info_u32
  have h := run_make (P := Try.prog) w 23 60 i (.int .u32 0) Try.underlying23 hi hz .i64 .i64 l c (by omega) (by omega) (by rw [hb]; omega) (by omega)
  rw [hs, Nat.mul_one, Int.toNat_natCast, Int.toNat_natCast, show (Value.int IntKind.u32 0).cells = #[.int .u32 0] from rfl, arr_made] at h
  exact h

theorem val_zeros (q : Nat) (zs : List Int) : val (List.replicate q 0 ++ zs) = pw q * val zs := by
  rw [val_append, val_replicate, List.length_replicate]
  omega

end Go.Proofs.Ythmhljfaenekfaa

namespace Go.Proofs.Ythmhljfaenekfaa
open Go.RowKit NM

/-- The first k limbs are the same. -/
def SameTo (xs ys : List Int) (k : Nat) : Prop := ∀ j, j < k → lb xs j = lb ys j
theorem same_all {xs ys : List Int} (hl : xs.length = ys.length) (h : SameTo xs ys xs.length) : xs = ys := by
  apply List.ext_getElem hl
  intro i h1 h2
  have := h i h1
  rwa [lb_eq h1, lb_eq h2] at this

set_option maxHeartbeats 1600000 in
set_option maxRecDepth 100000 in
theorem same_sl (v u : Value) (xs ys : List Int) (w : World) (h1 : Sl w v xs) (h2 : Sl w u ys) :
    Calls Try.prog 43 #[v, u] w fun e w' => e = .returned (.bool (decide (xs = ys))) ∧ Below w.heap.size w w' := by
  obtain ⟨ao, ca, rfl, _, ra, ux, lx, _⟩ := h1
  obtain ⟨bo, cb, rfl, _, rb, uy, ly, _⟩ := h2
  by_cases hl : xs.length = ys.length
  · obtain ⟨n, hn⟩ : ∃ n, n = xs.length := ⟨_, rfl⟩
    rw [← hl, ← hn]
    rw [← hn] at lx
    have Hn := Lib.hid hn
    have Hl := Lib.hid hl
    have hne : (((n : Nat) : Int) != ((n : Nat) : Int)) = false := by simp
    clear hn hl ly
    go_enter Try.func43, Try.ntmps43
    go_wp2_with fail
    go_loopw [5, 13] (fun _ i wr => ∃ k : Nat, k ≤ n ∧ i = .int .i64 k ∧ Hid (SameTo xs ys k) ∧ Below w.heap.size w wr) (fun _ i _ => n - (intOf i).toNat)
    case atStart => exact ⟨0, Nat.zero_le _, rfl, Lib.hid (fun j h => absurd h (Nat.not_lt_zero _)), Below.refl _ _⟩
    case round =>
      obtain ⟨k, hk, rfl, hs, hb⟩ := hrel
      rename_i wr
      by_cases hkn : k < n
      · obtain ⟨b, off, rfl, hbs, hc⟩ := (ra.below hb).cells (by rw [← Hn.out]; omega)
        obtain ⟨b2, off2, rfl, hbs2, hc2⟩ := (rb.below hb).cells (by rw [← Hl.out, ← Hn.out]; omega)
        have hck := hc k (by rw [← Hn.out]; omega)
        have hck2 := hc2 k (by rw [← Hl.out, ← Hn.out]; omega)
        clear hc hc2
        by_cases h : lb xs k = lb ys k
        · have hs2 := Lib.hid (show SameTo xs ys (k + 1) from fun j hj => by
            by_cases e : j = k
            · rw [e]; exact h
            · exact hs.out j (by omega))
          have hq : (lb xs k != lb ys k) = false := by rw [bne_eq_false_iff_eq]; exact h
          have H := Lib.hid h
          clear h
          go_wp2_with fail
          go_quiet (fail)
          go_wp2_with fail
          go_roundw
          case rel => exact ⟨k + 1, by omega, by go_num, hs2, below_drewN hb _⟩
          case measure => simp [intOf]; omega
        · have hne2 := Lib.hid (show decide (xs = ys) = false by
            rw [decide_eq_false_iff_not]
            intro e
            rw [e] at h
            exact h rfl)
          have hq : (lb xs k != lb ys k) = true := by rw [bne_iff_ne]; exact h
          clear h
          go_wp2_with fail
          go_quiet (fail)
          go_wp2_with fail
          go_ret
          exact ⟨ret_bool hne2.out.symm, below_drewN hb _⟩
      · have hk2 : k = n := by omega
        subst hk2
        have heq := Lib.hid (show decide (xs = ys) = true by
          rw [decide_eq_true_iff]
          exact same_all Hl.out (by rw [← Hn.out]; exact hs.out))
        go_wp2_with fail
        go_ret
        exact ⟨ret_bool heq.out.symm, hb⟩
  · have hne := Lib.hid (show decide (xs = ys) = false by
      rw [decide_eq_false_iff_not]
      intro e
      rw [e] at hl
      exact hl rfl)
    have hb : ((xs.length : Int) != (ys.length : Int)) = true := by rw [bne_iff_ne]; omega
    go_enter Try.func43, Try.ntmps43
    go_wp2_with fail
    go_ret
    exact ⟨ret_bool hne.out.symm, Below.refl _ _⟩

theorem same_num (v u : Value) (N M : Int) (w : World) (h1 : Num w v N) (h2 : Num w u M) :
    Calls Try.prog 43 #[v, u] w fun e w' => e = .returned (.bool (decide (N = M))) ∧ Below w.heap.size w w' := by
  obtain ⟨xs, hx, rx, rfl⟩ := h1
  obtain ⟨ys, hy, ry, rfl⟩ := h2
  have cx := (rightB_canon hx.choose_spec.choose_spec.2.2.2.1 rx).1
  have cy := (rightB_canon hy.choose_spec.choose_spec.2.2.2.1 ry).1
  have e : decide (val xs = val ys) = decide (xs = ys) := by
    rw [decide_eq_decide]
    exact ⟨fun h => cx.inj cy h, fun h => by rw [h]⟩
  rw [e]
  exact same_sl v u xs ys w hx hy
theorem Num.sl {w : World} {v : Value} {N : Int} (h : Num w v N) : ∃ xs, Sl w v xs := ⟨h.choose, h.choose_spec.1⟩
/-- Two empty slices are the same. -/
theorem same_nil (w : World) :
    Calls Try.prog 43 #[.slice none 0 0, .slice none 0 0] w fun e w' => e = .returned (.bool true) ∧ Below w.heap.size w w' := by
  have h := same_num _ _ 0 0 w (Num_nil w) (Num_nil w)
  simpa using h

/-- A slice that came in, as the frame hands it over. -/
def IsRow (k : IntKind) (w : World) (a : Option Addr) (len cap : Nat) (zs : List Int) : Prop :=
  (a = none ∧ len = 0 ∧ cap = 0 ∧ zs = []) ∨
  ∃ x, a = some x ∧ len ≤ cap ∧ cap ≤ maxLen ∧ zs.length = cap ∧ (∀ i, i < zs.length → w.cell? (x.add i) = some (.int k (zs.getD i 0))) ∧ ∀ n ∈ zs, (Lit.int k n).wf = true

theorem u32_of_wf {n : Int} (h : (Lit.int .u32 n).wf = true) : 0 ≤ n ∧ n < 4294967296 := by
  simp [Lit.wf, IntKind.min, IntKind.max, IntKind.signed, IntKind.bits] at h
  omega

end Go.Proofs.Ythmhljfaenekfaa

namespace Go.Proofs.Ythmhljfaenekfaa
open Go.RowKit NM

/-- What a byte stands for; a great number, if it is no digit. -/
def dg (c : Int) : Int := if 48 ≤ c ∧ c ≤ 57 then c - 48 else if 97 ≤ c ∧ c ≤ 102 then c - 87 else if 65 ≤ c ∧ c ≤ 70 then c - 55 else 512

/-- The byte of a text at a place, as a number. -/
def byteAt (s : ByteArray) (k : Nat) : Int := ((s.data[k]?.getD 0).toNat : Int)
theorem byteAt_eq {s : ByteArray} {k : Nat} (h : k < s.size) : byteAt s k = (s[k].toNat : Int) := by
  unfold byteAt
  rw [Array.getElem?_eq_getElem (by simpa using h)]
  rfl
/-- The digit at a place of a text. -/
def dAt (s : ByteArray) (k : Nat) : Int := dg (byteAt s k)
/-- A text of a base: one digit or more. -/
def toldB (s : ByteArray) (b : Int) : Bool := decide (0 < s.size ∧ ∀ k, k < s.size → dAt s k < b)

theorem told_bad {s : ByteArray} {b : Int} (k : Nat) (hk : k < s.size) (h : b ≤ dAt s k) : toldB s b = false := by
  unfold toldB
  rw [decide_eq_false_iff_not]
  intro ⟨_, h2⟩
  have := h2 k hk
  omega
theorem list_ne {s : ByteArray} (h : 0 < s.size) : s.toList.isEmpty = false := by
  rw [ByteArray.toList_eq, List.isEmpty_eq_false_iff]
  intro e
  have : s.data.toList.length = 0 := by rw [e]; rfl
  have h2 : s.data.toList.length = s.size := by simp
  omega
theorem list_nil {s : ByteArray} (h : s.size = 0) : s.toList.isEmpty = true := by
  rw [ByteArray.toList_eq, List.isEmpty_iff]
  exact List.eq_nil_of_length_eq_zero (by simpa using h)

end Go.Proofs.Ythmhljfaenekfaa

namespace Go.Proofs.Ythmhljfaenekfaa
open Go.RowKit NM

theorem cell_lt {w : World} {b o : Nat} {v : Value} (h : w.cell? ⟨b, o, none⟩ = some v) : b < w.heap.size := by
  by_cases hb : b < w.heap.size
  · exact hb
  · rw [World.cell?, Array.getElem?_eq_none (show w.heap.size ≤ b by omega)] at h
    cases h
/-- A base that Parse reads. -/
def baseB (b : Int) : Bool := decide (b = 2 ∨ b = 8 ∨ b = 10 ∨ b = 16)

/-- Whether one of the first k bases is b. -/
def knB (b : Int) (k : Nat) : Bool := decide ((0 < k ∧ b = 2) ∨ (1 < k ∧ b = 8) ∨ (2 < k ∧ b = 10) ∨ (3 < k ∧ b = 16))
theorem knB_end (b : Int) : knB b 4 = baseB b := by
  unfold knB baseB
  rw [decide_eq_decide]
  omega
theorem knB_zero (b : Int) : knB b 0 = false := by
  unfold knB
  rw [decide_eq_false_iff_not]
  omega

/-- The number that the first k digits tell. -/
def pv (s : ByteArray) (b : Int) : Nat → Int
  | 0 => 0
  | k + 1 => pv s b k * b + dAt s k

theorem dg_nonneg (c : Int) : 0 ≤ dg c := by
  unfold dg
  (repeat' split) <;> omega
theorem pv_nonneg (s : ByteArray) {b : Int} (hb : 2 ≤ b) : ∀ k, 0 ≤ pv s b k
  | 0 => Int.le_refl _
  | k + 1 => by
    have h1 := pv_nonneg s hb k
    have h2 : 0 ≤ pv s b k * b := Int.mul_nonneg h1 (by omega)
    have h3 := dg_nonneg (byteAt s k)
    rw [pv, dAt]
    omega
theorem pv_mono (s : ByteArray) {b : Int} (hb : 2 ≤ b) (k : Nat) : ∀ j, pv s b k ≤ pv s b (k + j)
  | 0 => Int.le_refl _
  | j + 1 => by
    have h1 := pv_mono s hb k j
    have h0 := pv_nonneg s hb (k + j)
    have h2 : pv s b (k + j) * 1 ≤ pv s b (k + j) * b := Int.mul_le_mul_of_nonneg_left (by omega) h0
    have h3 := dg_nonneg (byteAt s (k + j))
    rw [← Nat.add_assoc, pv, dAt]
    omega

/-- What Parse answers. -/
def ParseOk (s : ByteArray) (b : Int) (e : Ending) (w' : World) : Prop :=
  (baseB b = false ∧ e = .returned (.tuple #[.slice none 0 0, .int .i64 1])) ∨
  (baseB b = true ∧ toldB s b = false ∧ e = .returned (.tuple #[.slice none 0 0, .int .i64 5])) ∨
  (baseB b = true ∧ toldB s b = true ∧ Told (pv s b s.size) e w')

theorem toldB_iff {s : ByteArray} {b : Int} : toldB s b = true ↔ 0 < s.size ∧ ∀ k, k < s.size → dAt s k < b := by
  unfold toldB
  rw [decide_eq_true_iff]
theorem baseB_iff {b : Int} : baseB b = true ↔ b = 2 ∨ b = 8 ∨ b = 10 ∨ b = 16 := by
  unfold baseB
  rw [decide_eq_true_iff]

end Go.Proofs.Ythmhljfaenekfaa

namespace NM

/-- What digits are worth, the least first. -/
def dv : List Int → Int
  | [] => 0
  | d :: ds => d + 10 * dv ds
def Digs (ds : List Int) : Prop := ∀ d ∈ ds, 0 ≤ d ∧ d < 10
/-- The digits of a number, with no zero ahead. -/
def Dec (ds : List Int) (N : Int) : Prop := Digs ds ∧ dv ds = N ∧ ((N = 0 ∧ ds = [0]) ∨ (0 < ds.length ∧ 10 ^ (ds.length - 1) ≤ N))

theorem ten_pos (n : Nat) : (0 : Int) < 10 ^ n := Int.pow_pos (by omega)
theorem ten_succ (n : Nat) : (10 : Int) ^ (n + 1) = 10 ^ n * 10 := Int.pow_succ _ _
theorem dv_snoc (ds : List Int) (x : Int) : dv (ds ++ [x]) = dv ds + 10 ^ ds.length * x := by
  induction ds with
  | nil => simp [dv]
  | cons d ds ih =>
    rw [List.cons_append, dv, ih, dv, List.length_cons, ten_succ, Int.mul_add, Int.mul_comm (10 ^ ds.length) 10, Int.mul_assoc]
    omega
theorem Digs_snoc {ds : List Int} (h : Digs ds) {x : Int} (h0 : 0 ≤ x) (h1 : x < 10) : Digs (ds ++ [x]) := by
  intro d hd
  rcases List.mem_append.1 hd with hd | hd
  · exact h d hd
  · simp at hd; omega
theorem dv_range {ds : List Int} (h : Digs ds) : 0 ≤ dv ds ∧ dv ds < 10 ^ ds.length := by
  induction ds with
  | nil => simp [dv]
  | cons d ds ih =>
    have h1 := ih (fun x hx => h x (List.mem_cons_of_mem _ hx))
    have h2 := h d (List.mem_cons_self ..)
    rw [dv, List.length_cons, ten_succ]
    omega
/-- One digit more. -/
theorem dec_step {ds : List Int} {N R x R' : Int} (h : dv ds + 10 ^ ds.length * R = N) (hR : R = x + 10 * R') : dv (ds ++ [x]) + 10 ^ (ds ++ [x]).length * R' = N := by
  rw [dv_snoc, List.length_append, List.length_singleton, ten_succ, ← h, hR, Int.mul_add, Int.mul_assoc]
  omega
theorem ten_le {a b : Nat} (h : a ≤ b) : (10 : Int) ^ a ≤ 10 ^ b := by
  obtain ⟨k, rfl⟩ : ∃ k, b = a + k := ⟨b - a, by omega⟩
  rw [Int.pow_add]
  have h1 := ten_pos a
  have h2 := ten_pos k
  have h3 : (10 : Int) ^ a * 1 ≤ 10 ^ a * 10 ^ k := Int.mul_le_mul_of_nonneg_left (by omega) (by omega)
  omega
theorem ten_small {n : Nat} {N : Int} (h : 10 ^ n ≤ N) (hN : N < pw 16) : n ≤ 154 := by
  rcases Nat.lt_or_ge 154 n with hn | hn
  · exfalso
    have h1 := ten_le (show 155 ≤ n by omega)
    have h2 : (pw 16 : Int) ≤ 10 ^ 155 := by decide +kernel
    omega
  · exact hn
theorem rest_le {ds : List Int} {N R : Int} (hd : Digs ds) (h : dv ds + 10 ^ ds.length * R = N) (hR : 0 < R) : 10 ^ ds.length ≤ N := by
  have h1 := dv_range hd
  have h2 := ten_pos ds.length
  have h3 : (10 : Int) ^ ds.length * 1 ≤ 10 ^ ds.length * R := Int.mul_le_mul_of_nonneg_left (by omega) (by omega)
  omega
end NM

namespace Go.Proofs
open Go.Shelf
def Try.laysRev_ren : Go.Shelf.Ren := ⟨fun | 35 => 63 | n => n, fun | 22 => 74 | 23 => 5 | 3 => 3 | 4 => 4 | 0 => 0 | n => n, fun | n => n⟩
theorem Try.laysRev : Go.Proofs.SlLaysE.n35 Try.prog Try.laysRev_ren := {
  mixed := by kernel_rfl
  f35 := ⟨Try.f63.name, by decide, Try.func63.trans (congrArg some (by kernel_rfl))⟩
  t0 := Try.underlying0
  a0 := Try.isAgg0
  z0 := Try.sizeOf0
  v0 := Try.zeroValue0
  t3 := Try.underlying3
  a3 := Try.isAgg3
  z3 := Try.sizeOf3
  v3 := Try.zeroValue3
  t4 := Try.underlying4
  a4 := Try.isAgg4
  z4 := Try.sizeOf4
  v4 := Try.zeroValue4
  t22 := Try.underlying74
  a22 := Try.isAgg74
  z22 := Try.sizeOf74
  v22 := Try.zeroValue74
  a23 := Try.isAgg5
  z23 := Try.sizeOf5 }
open Go.RowKit Go.Lib Go.Sort in
/-- slices.Reverse. -/
theorem Try.slices_Reverse {α : Type} [Inhabited α] (enc : α → Value) (h1 : OneCell enc) (blk off cap : Nat) (zs : List α) (w : World) (hH : Holds enc w blk off zs.toArray) (hsz : zs.length ≤ 9223372036854775807) :
    Calls Try.prog 63 #[.slice (some ⟨blk, off, none⟩) zs.length cap] w fun e w' => e = .returned (.tuple #[]) ∧ ∃ n, w' = putRow enc (Sort.ahead w n) blk off zs.reverse.toArray := AnyE.slices_Reverse Try.laysRev enc h1 blk off cap zs w hH hsz

end Go.Proofs
namespace Go.Proofs.Ythmhljfaenekfaa
open Go.RowKit Go.Lib Go.Sort

theorem onlyB_put (w : World) (n g : Nat) (d : Array Int) : OnlyB g w (putRow (Value.int .u8) (Sort.ahead w n) g 0 d) := by
  refine ⟨rfl, rfl, rfl, by simp, fun k hk hne => ?_⟩
  simp only [putRow, mapBlock, heap_ahead, Array.getElem?_modify, if_neg (Ne.symm hne)]

/-- slices.Reverse over bytes of the call's own. -/
theorem rev_any (zs : List Int) (g cap : Nat) (w : World) (hm : zs.length ≤ 1000000) (hc : ∀ j, j < zs.length → w.cell? ⟨g, j, none⟩ = some (.int .u8 (zs.getD j 0)) ∧ w.frozen? ⟨g, j, none⟩ = false) :
    Calls Try.prog 63 #[.slice (some ⟨g, 0, none⟩) zs.length cap] w fun e w' => e = .returned (.tuple #[]) ∧ (∀ j, j < zs.length → w'.cell? ⟨g, j, none⟩ = some (.int .u8 (zs.reverse.getD j 0))) ∧ OnlyB g w w' := by
  have hH : Holds (Value.int .u8) w g 0 zs.toArray := by
    intro j hj
    have hj' : j < zs.length := by simpa using hj
    have h := hc j hj'
    rw [Nat.zero_add]
    refine ⟨?_, h.2⟩
    rw [h.1, getElem!_pos _ j hj, List.getD_eq_getElem?_getD, List.getElem?_eq_getElem hj']
    rfl
  refine (Try.slices_Reverse (Value.int .u8) (fun _ => rfl) g 0 cap zs w hH (by omega)).mono ?_
  rintro e w' ⟨rfl, n, rfl⟩
  refine ⟨rfl, fun j hj => ?_, onlyB_put w n g _⟩
  have h := cell?_putRow (Value.int .u8) (Sort.ahead w n) g 0 zs.toArray zs.reverse.toArray (holds_ahead _ w n g 0 _ hH) (by simp) j (by simpa using hj)
  rw [Nat.zero_add] at h
  rw [h, getElem!_pos _ j (by simpa using hj), List.getD_eq_getElem?_getD, List.getElem?_eq_getElem (by simpa using hj)]
  rfl
end Go.Proofs.Ythmhljfaenekfaa

namespace Go.Proofs.Ythmhljfaenekfaa
open Go.RowKit NM

/-- A text that tells a number, with no zero ahead. -/
def DecStr (s : ByteArray) (N : Int) : Prop := ∃ ds, Dec ds N ∧ s = strOfNums (ds.map fun d => 48 + d).reverse

theorem Num.grown {w w' : World} {v : Value} {N : Int} {row : Option Nat} (h : Num w v N) (hg : w.grownBy w' row) (hne : ∀ b, v.ownBlock = some b → row ≠ some b) : Num w' v N := by
  obtain ⟨xs, ⟨ao, cap, rfl, h2, h3, h4, h5⟩, hr, hv⟩ := h
  refine ⟨xs, ⟨ao, cap, rfl, h2, ?_, h4, h5⟩, hr, hv⟩
  rcases h3 with h | ⟨b, off, rfl, hb, hc⟩
  · exact .inl h
  · refine .inr ⟨b, off, rfl, Nat.lt_of_lt_of_le hb hg.size, fun i hi => ?_⟩
    exact hg.cell (a := ⟨b, off + i, none⟩) (hc i hi) (fun e => hne b rfl e.symm)

/-- The slice v is not where the row vd lies. -/
def Apart (w : World) (v vd : Value) : Prop := ∀ b, v.ownBlock = some b → b < w.heap.size ∧ vd.ownBlock ≠ some b

set_option maxHeartbeats 400000 in
theorem text_bad (v : Value) (w : World) (h : Bad1 w v) :
    Calls Try.prog 38 #[v] w fun e w' => e = .returned (.tuple #[.string ⟨#[]⟩, .int .i64 1]) ∧ w = w' := by
  have R1 := Lib.hid (right_bad h)
  clear h
  go_enter Try.func38, Try.ntmps38
  go_wp2_with fail
  refine R1.out.mono ?_
  rintro e w' ⟨rfl, rfl⟩
  go_wp2_with fail
  go_ret2
  exact ⟨rfl, rfl⟩

set_option maxHeartbeats 400000 in
theorem text_zero (v : Value) (w : World) (h : Num w v 0) :
    Calls Try.prog 38 #[v] w fun e w' => e = .returned (.tuple #[.string ⟨#[48]⟩, .int .i64 0]) ∧ w = w' := by
  have R1 := Lib.hid (right_num h)
  obtain ⟨ao, cap, rfl⟩ := h.of_zero
  clear h
  go_enter Try.func38, Try.ntmps38
  go_wp2_with fail
  refine R1.out.mono ?_
  rintro e w' ⟨rfl, rfl⟩
  go_wp2_with fail
  go_ret2
  exact ⟨rfl, rfl⟩

theorem info_u8 : (Try.prog.info? 5).map (fun i => (i.zero, i.size, i.bytes)) = some (some (.int .u8 0), 1, 1) := by kernel_rfl
def D8 (ds : List Int) : List Value := ds.map fun d => .int .u8 (48 + d)
theorem D8_snoc (ds : List Int) (x : Int) : D8 (ds ++ [x]) = D8 ds ++ [.int .u8 (48 + x)] := by simp [D8]

theorem own_below {w w' : World} {base : Nat} {e : TypeId} {size : Nat} {v : Value} {n : Nat} {xs : List Value} (h : w.ownsRow base e size v n xs) (hb : Below w.heap.size w w') : w'.ownsRow base e size v n xs :=
  h.kept (row := none) ⟨hb.os, hb.tape, hb.output, hb.size, fun k hk _ => hb.block k hk⟩ (by cases hv : v.ownBlock <;> simp)

/-- One byte more behind the row: what is kept. -/
theorem text_kept {w0 wr w2 : World} {v' u4 va : Value} {es : List Int} {t M1 : Int} (hown : wr.ownsRow w0.heap.size 5 1 u4 es.length (D8 es)) (hnum : Num wr va M1) (hap : Apart wr va u4) (hbl : Below w0.heap.size w0 wr)
    (h3 : w2.ownsRow w0.heap.size 5 1 v' (es.length + 1) (D8 es ++ [.int .u8 (48 + t)])) (hg : (wr.alloc (.cells #[.int .u8 (48 + t)] 5)).grownBy w2 u4.ownBlock)
    (hb : v'.ownBlock = u4.ownBlock ∨ v'.ownBlock = some (wr.heap.size + 1)) :
    w2.ownsRow w0.heap.size 5 1 v' (es ++ [t]).length (D8 (es ++ [t])) ∧ Num w2 va M1 ∧ Apart w2 va v' ∧ Below w0.heap.size w0 w2 := by
  have hs : (wr.alloc (.cells #[.int .u8 (48 + t)] 5)).heap.size = wr.heap.size + 1 := by simp
  have hba := (Below.refl wr.heap.size wr).alloc (Nat.le_refl _) (.cells #[.int .u8 (48 + t)] 5)
  refine ⟨by rw [D8_snoc]; simpa using h3, (hnum.below hba).grown hg (fun b h => (hap b h).2), fun b h => ?_, ?_⟩
  · have h1 := hap b h
    have h2 := hg.size
    refine ⟨by omega, ?_⟩
    rcases hb with hb | hb
    · rw [hb]; exact h1.2
    · rw [hb]; intro e; simp at e; omega
  · exact (hbl.alloc hbl.size _).grown hg (by have := hbl.size; omega) (fun k hk => (hown.lt k hk).1)

/-- What nine digits leave room for, behind k of them. -/
def tn (k : Nat) : Int := 10 ^ (9 - k)
theorem tn_pos (k : Nat) : 0 < tn k := ten_pos _
theorem tn_zero : tn 0 = 1000000000 := by decide +kernel
theorem tn_nine : tn 9 = 1 := by decide +kernel
theorem tn_succ {k : Nat} (h : k < 9) : tn k = 10 * tn (k + 1) := by
  unfold tn
  rw [show 9 - k = (9 - (k + 1)) + 1 by omega, ten_succ, Int.mul_comm]
theorem tn_le (k : Nat) : tn k ≤ 1000000000 := by
  rw [← tn_zero]
  exact ten_le (by omega)
/-- The state of the inner loop: k of nine digits are written; low and M1 are left. -/
structure InText (N M1 : Int) (k : Nat) (low : Int) (ds : List Int) : Prop where
  digs : Digs ds
  low0 : 0 ≤ low
  low1 : low < tn k
  all : dv ds + 10 ^ ds.length * (low + tn k * M1) = N
  lead : 0 < low + tn k * M1 ∨ (0 < ds.length ∧ 10 ^ (ds.length - 1) ≤ N)
theorem InText.rest {N M1 : Int} {k : Nat} {low : Int} {ds : List Int} (h : InText N M1 k low ds) (hM : 0 ≤ M1) (hr : 0 < low ∨ 0 < M1) : 0 < low + tn k * M1 := by
  have h1 := tn_pos k
  have h2 : 0 ≤ tn k * M1 := Int.mul_nonneg (by omega) hM
  have h3 := h.low0
  rcases hr with hr | hr
  · omega
  · have := Int.mul_pos h1 hr
    omega
theorem InText.step {N M1 : Int} {k : Nat} {low : Int} {ds : List Int} (h : InText N M1 k low ds) (hk : k < 9) (hM : 0 ≤ M1) (hr : 0 < low ∨ 0 < M1) : InText N M1 (k + 1) (low / 10) (ds ++ [low % 10]) := by
  have h0 := h.rest hM hr
  have h1 := tn_succ hk
  have h2 := h.low0
  have h3 := h.low1
  have e : low + tn k * M1 = low % 10 + 10 * (low / 10 + tn (k + 1) * M1) := by
    rw [h1, Int.mul_assoc]
    omega
  refine ⟨Digs_snoc h.digs (by omega) (by omega), by omega, by omega, dec_step h.all e, .inr ⟨by simp, ?_⟩⟩
  rw [List.length_append, List.length_singleton, Nat.add_sub_cancel]
  exact rest_le h.digs h.all h0
theorem InText.start {N M : Int} {ds : List Int} (hd : Digs ds) (h : dv ds + 10 ^ ds.length * M = N) (hM : 0 < M) : InText N (M / 1000000000) 0 (M % 1000000000) ds := by
  have e : M % 1000000000 + tn 0 * (M / 1000000000) = M := by rw [tn_zero]; omega
  exact ⟨hd, by omega, by rw [tn_zero]; omega, by rw [e]; exact h, .inl (by rw [e]; exact hM)⟩
theorem InText.small {N M1 : Int} {k : Nat} {low : Int} {ds : List Int} (h : InText N M1 k low ds) (hM : 0 ≤ M1) (hr : 0 < low ∨ 0 < M1) (hN : N < pw 16) : ds.length ≤ 154 :=
  ten_small (rest_le h.digs h.all (h.rest hM hr)) hN
/-- At the inner loop's end: nine digits, or nothing left. -/
theorem InText.done {N M1 : Int} {k : Nat} {low : Int} {ds : List Int} (h : InText N M1 k low ds) (hk : k ≤ 9) (hM : 0 ≤ M1) (he : k = 9 ∨ (low = 0 ∧ M1 = 0)) :
    dv ds + 10 ^ ds.length * M1 = N ∧ (0 < M1 ∨ (0 < ds.length ∧ 10 ^ (ds.length - 1) ≤ N)) := by
  have h1 := h.all
  have h2 := h.low0
  have h3 := h.low1
  have h4 := h.lead
  rcases he with rfl | ⟨rfl, rfl⟩
  · rw [tn_nine] at h1 h3 h4
    have hl : low = 0 := by omega
    subst hl
    simp only [Int.zero_add, Int.one_mul] at h1 h4
    exact ⟨h1, h4⟩
  · simp at h1 h4
    exact ⟨by simpa using h1, .inr h4⟩

set_option maxHeartbeats 4000000 in
set_option maxRecDepth 100000 in
theorem text_pos (v : Value) (N : Int) (w : World) (h1 : Num w v N) (hN : 0 < N) :
    Calls Try.prog 38 #[v] w fun e w' => (∃ s, e = .returned (.tuple #[.string s, .int .i64 0]) ∧ DecStr s N) ∧ Below w.heap.size w w' := by
  have R1 := Lib.hid (right_num h1)
  have hN16 := Lib.hid h1.range.2
  obtain ⟨i0, hi, hz0, hz1, hz2⟩ := info_parts info_u8
  have hmk0 : ∀ wx : World, (Instr.makeSlice 74 (.int .i64 0) (.int .i64 160)).run Try.prog wx = .ok (.slice (some ⟨wx.heap.size, 0, none⟩) 0 160) (wx.alloc (.cells (madeCells #[.int .u8 0] 160) 5)) := by
    intro wx
    have h := run_make (P := Try.prog) wx 74 5 i0 (.int .u8 0) Try.underlying74 hi hz0 .i64 .i64 0 160 (by omega) (by omega) (by rw [hz2]; omega) (by omega)
    rw [hz1] at h
    exact h
  obtain ⟨C, hC⟩ : ∃ C, madeCells #[.int .u8 0] 160 = C := ⟨_, rfl⟩
  have hCs : C.size = 160 * 1 := by rw [← hC]; kernel_rfl
  rw [hC] at hmk0
  clear hC
  have H1 := Lib.hid h1
  obtain ⟨ao, n, ca, rfl, hn16, hn0, -, -⟩ := h1.len
  have hnn : ((n : Int) == 0) = false := by
    rw [beq_eq_false_iff_ne]; intro h; have := hn0.1 (by omega); omega
  have hown0 : (w.alloc (.cells C 5)).ownsRow w.heap.size 5 1 (.slice (some ⟨w.heap.size, 0, none⟩) 0 160) 0 [] := World.ownsRow_made w C 160 (Nat.le_refl _) (by unfold maxLen; omega) hCs
  have hap0 : Apart (w.alloc (.cells C 5)) (.slice ao n ca) (.slice (some ⟨w.heap.size, 0, none⟩) 0 160) := by
    obtain ⟨xs, ⟨ao', ca', e, _, ra, _⟩, _, _⟩ := h1
    obtain ⟨rfl, rfl, rfl⟩ : ao = ao' ∧ n = xs.length ∧ ca = ca' := by simpa using e
    obtain ⟨b, off, rfl, hb, _⟩ := ra.cells (by simp at hnn; omega)
    intro b' hb'
    obtain rfl : b = b' := by simpa [Value.ownBlock] using hb'
    exact ⟨by simp; omega, by simp [Value.ownBlock]; omega⟩
  have hbl0 : Below w.heap.size w (w.alloc (.cells C 5)) := (Below.refl _ _).alloc (Nat.le_refl _) _
  have Hown0 := Lib.hid hown0
  have Hap0 := Lib.hid hap0
  have Hbl0 := Lib.hid hbl0
  clear hown0 hap0 hbl0 h1 hn0 hCs
  go_enter Try.func38, Try.ntmps38
  go_wp2_with fail
  refine R1.out.mono ?_
  rintro e w' ⟨rfl, rfl⟩
  go_wp2_with fail
  clear R1 hmk0 hnn
  go_loopg [0, 4, 5, 6] N.toNat (fun k va vd _ _ wr => ∃ (M : Int) (ds : List Int), Num wr va M ∧ M.toNat = k ∧ Digs ds ∧ Hid (dv ds + 10 ^ ds.length * M = N) ∧ Hid (0 < M ∨ (0 < ds.length ∧ 10 ^ (ds.length - 1) ≤ N)) ∧ Hid (wr.ownsRow w.heap.size 5 1 vd ds.length (D8 ds)) ∧ Hid (Apart wr va vd) ∧ Hid (Below w.heap.size w wr))
  case atStart => exact ⟨N, [], H1.out.below Hbl0.out, rfl, (fun _ h => by cases h), Lib.hid (by simp [dv]), Lib.hid (.inl hN), Hown0, Hap0, Hbl0⟩
  case round =>
    obtain ⟨M, ds, hnum, hM, hds, hval, hlead, hown, hap, hbl⟩ := hrel
    obtain ⟨ao, n, ca, rfl, hn16, hn0, -, -⟩ := hnum.len
    have hM0 := hnum.range.1
    by_cases hMz : 0 < M
    · have hnn : 0 < n := by
        rcases Nat.eq_zero_or_pos n with h | h
        · have := hn0.1 h; omega
        · exact h
      clear hn0
      go_wp2_with (go_at_call 62; refine (short_new _ M 1000000000 wr hnum (by omega) (by omega)).mono ?_; rintro e w1 ⟨⟨r, rfl, hn1, hob, hsz⟩, hb1⟩)
      obtain ⟨ao1, n1, ca1, rfl, hn161, hn01, -, -⟩ := hn1.len
      have hM1 := hn1.range.1
      have hap1 : Apart w1 (.slice ao1 n1 ca1) u4 := by
        intro b hb
        obtain rfl : wr.heap.size = b := by rw [hob] at hb; simpa using hb
        exact ⟨hsz, fun e => by have := (hown.out.lt _ e).2; omega⟩
      have Hown1 := Lib.hid (own_below hown.out hb1)
      have Hap1 := Lib.hid hap1
      have Hbl1 := Lib.hid (hbl.out.trans (hb1.mono hbl.out.size))
      have HinS := Lib.hid (InText.start hds hval.out hMz)
      have Hlt : (M / 1000000000).toNat < gk := by omega
      clear hap1 hob hsz hb1 hown hap hbl hnum hval hlead
      obtain ⟨M1, hM1e⟩ : ∃ M1, M / 1000000000 = M1 := ⟨_, rfl⟩
      obtain ⟨l0, hl0⟩ : ∃ l0, M % 1000000000 = l0 := ⟨_, rfl⟩
      rw [hM1e] at HinS hn1 Hlt hM1 hn01
      rw [hl0] at HinS ⊢
      clear hM1e hl0
      go_loopw [4, 5, 6] (fun vd vl vk wr => ∃ (k : Nat) (low : Int) (ds : List Int), k ≤ 9 ∧ vk = .int .i64 k ∧ vl = .int .u32 low ∧ 0 ≤ low ∧ low < 1000000000 ∧ Hid (InText N M1 k low ds) ∧ Hid (wr.ownsRow w.heap.size 5 1 vd ds.length (D8 ds)) ∧ Hid (Num wr (.slice ao1 n1 ca1) M1) ∧ Hid (Apart wr (.slice ao1 n1 ca1) vd) ∧ Hid (Below w.heap.size w wr)) (fun _ _ vk _ => 9 - (intOf vk).toNat)
      case atStart => exact ⟨0, l0, ds, by omega, rfl, rfl, HinS.out.low0, by have := HinS.out.low1; rw [tn_zero] at this; exact this, HinS, Hown1, Lib.hid hn1, Hap1, Hbl1⟩
      case round =>
        obtain ⟨k, low, es, hk, rfl, rfl, hl0, hl1, Hin, Hown, Hnum, Hap, Hbl⟩ := hrel
        clear HinS Hown1 Hap1 Hbl1 hn1
        by_cases hk9 : k < 9
        · by_cases hr : 0 < low ∨ 0 < M1
          · have hin2 := Lib.hid (Hin.out.step hk9 hM1 hr)
            have hlen := Hin.out.small hM1 hr hN16.out
            obtain ⟨t, ht⟩ : ∃ t, low % 10 = t := ⟨_, rfl⟩
            have ht0 : 0 ≤ t := by omega
            have ht1 : t < 10 := by omega
            have hw1 : IntKind.u8.wrap t = t := by simp only [IntKind.wrap, IntKind.signed, IntKind.bits]; simp; omega
            have hw2 : IntKind.u8.wrap (48 + t) = 48 + t := by simp only [IntKind.wrap, IntKind.signed, IntKind.bits]; simp; omega
            have hrm : low.tmod 10 = t := by rw [Int.tmod_eq_emod_of_nonneg hl0]; exact ht
            have hqu : low.tdiv 10 = low / 10 := Int.tdiv_eq_ediv_of_nonneg hl0
            have hown2 := Lib.hid (Hown.out.alloc (.cells #[.int .u8 (48 + t)] 5))
            rw [ht] at hin2
            have Ht := Lib.hid ht
            clear ht
            by_cases hlow : 0 < low
            · go_wp2_with (at_builtin; refine wpList_append_own_at _ rfl _ _ 74 rfl w.heap.size 5 i0 (.int .u8 0) 1 1 Try.underlying74 hi hz0 hz1 hz2 rfl (by decide) u4 es.length (D8 es) rfl hown2.out ⟨wr.heap.size, 0, none⟩ 1 1 [.int .u8 (48 + t)] rfl ?c1 ?c2 ?c3 ?c4 ?c5 ?c6 ?_)
              case c1 => rfl
              case c2 => exact cell_one_new _ _ _
              case c3 =>
                intro u hu
                simp at hu
                subst hu
                rfl
              case c4 => unfold maxLen; omega
              case c5 => omega
              case c6 => have := Hbl.out.size; simp; omega
              intro v' w2 hown3 hgrow _ hblk
              have HN := Lib.hid (text_kept Hown.out Hnum.out Hap.out Hbl.out hown3 hgrow hblk)
              clear hown3 hgrow hblk
              go_wp2_with fail
              go_roundw
              case rel => exact ⟨k + 1, low / 10, es ++ [t], by omega, by go_num, rfl, by omega, by omega, hin2, Lib.hid HN.out.1, Lib.hid HN.out.2.1, Lib.hid HN.out.2.2.1, Lib.hid HN.out.2.2.2⟩
              case measure => simp [intOf]; omega
            · have hn1p : 0 < n1 := by
                rcases Nat.eq_zero_or_pos n1 with h | h
                · have := hn01.1 h; omega
                · exact h
              clear hn01
              go_wp2_with (at_builtin; refine wpList_append_own_at _ rfl _ _ 74 rfl w.heap.size 5 i0 (.int .u8 0) 1 1 Try.underlying74 hi hz0 hz1 hz2 rfl (by decide) u4 es.length (D8 es) rfl hown2.out ⟨wr.heap.size, 0, none⟩ 1 1 [.int .u8 (48 + t)] rfl ?c1 ?c2 ?c3 ?c4 ?c5 ?c6 ?_)
              case c3 => rfl
              case c4 => unfold maxLen; omega
              case c5 => omega
              case c6 => have := Hbl.out.size; simp; omega
              intro v' w2 hown3 hgrow _ hblk
              have HN := Lib.hid (text_kept Hown.out Hnum.out Hap.out Hbl.out hown3 hgrow hblk)
              clear hown3 hgrow hblk
              go_wp2_with fail
              go_roundw
              case rel => exact ⟨k + 1, low / 10, es ++ [t], by omega, by go_num, rfl, by omega, by omega, hin2, Lib.hid HN.out.1, Lib.hid HN.out.2.1, Lib.hid HN.out.2.2.1, Lib.hid HN.out.2.2.2⟩
              case measure => simp [intOf]; omega
          · have hl00 : ¬ 0 < low := by omega
            have hn1z : n1 = 0 := hn01.2 (by omega)
            have hd := Hin.out.done hk hM1 (by omega)
            have Hd1 := Lib.hid hd.1
            have Hd2 := Lib.hid hd.2
            have hes := Hin.out.digs
            clear hd Hin hn01
            subst hn1z
            go_wp2_with fail
            go_roundg M1.toNat
            case measure => exact Hlt
            case rel => exact ⟨M1, es, Hnum.out, rfl, hes, Hd1, Hd2, Hown, Hap, Hbl⟩
        · have hk9' : k = 9 := by omega
          have hd := Hin.out.done hk hM1 (by omega)
          have Hd1 := Lib.hid hd.1
          have Hd2 := Lib.hid hd.2
          have hes := Hin.out.digs
          clear hd Hin hn01
          subst hk9'
          go_wp2_with fail
          go_roundg M1.toNat
          case measure => exact Hlt
          case rel => exact ⟨M1, es, Hnum.out, rfl, hes, Hd1, Hd2, Hown, Hap, Hbl⟩
    · have hMz0 : M = 0 := by omega
      have hn : n = 0 := hn0.2 hMz0
      subst hn
      obtain ⟨ho1, ho2⟩ := hown.out
      have hl := hlead.out
      rcases ho2 with ⟨rfl, h0⟩ | ⟨g, cap, cur, rfl, hg, hcur, hcap1, hcap2, hcs, htk⟩
      · exfalso; omega
      · have hcell : ∀ j, j < (ds.map fun d => 48 + d).length → wr.cell? ⟨g, j, none⟩ = some (.int .u8 ((ds.map fun d => 48 + d).getD j 0)) ∧ wr.frozen? ⟨g, j, none⟩ = false := by
          intro j hj
          have hj' : j < ds.length := by simpa using hj
          constructor
          · simp only [World.cell?, hcur, Option.isSome_none, Bool.false_eq_true, if_false]
            have e : cur[j]? = (cur.toList.take (ds.length * 1))[j]? := by
              rw [List.getElem?_take_of_lt (by omega)]
              simp
            rw [e, htk]
            simp [D8, hj']
          · simp [World.frozen?, hcur]
        have hlen : ds.length ≤ 155 := by
          rcases hl with hl | ⟨h1, h2⟩
          · omega
          · have := ten_small h2 hN16.out; omega
        have hR := rev_any (ds.map fun d => 48 + d) g cap wr (by simp; omega) hcell
        rw [List.length_map] at hR
        have HR := Lib.hid hR
        have hdec : Dec ds N := by
          refine ⟨hds, ?_, .inr ?_⟩
          · have := hval.out; rw [hMz0] at this; simpa using this
          · rcases hl with hl | hl
            · omega
            · exact hl
        have Hdec := Lib.hid hdec
        have Hbl := hbl
        clear hR hcell hdec hl hcur hcs htk ho1 hown hap hlead hval hbl hnum hn0 H1 Hown0 Hap0 Hbl0
        go_wp2_with fail
        refine HR.out.mono ?_
        rintro e w2 ⟨rfl, hc2, hob⟩
        have hconv : (convert 74 9 (.slice (some ⟨g, 0, none⟩) ds.length cap)).run Try.prog w2 = .ok (.string (strOfNums (ds.map fun d => 48 + d).reverse)) w2 :=
          run_convert_bytes_arg w2 74 5 Try.underlying74 Try.underlying5 g 0 ds.length cap (ds.map fun d => 48 + d).reverse (by simp) (fun i hi => by rw [Nat.zero_add]; exact hc2 i (by simpa using hi)) 9 Try.underlying9
        have Hob := Lib.hid hob
        clear hc2 hob
        go_wp2_with fail
        go_ret2
        exact ⟨⟨_, rfl, ds, Hdec.out, rfl⟩, Hbl.out.trans (Hob.out.below hg Hbl.out.size)⟩

theorem decStr_zero : DecStr ⟨#[48]⟩ 0 := ⟨[0], ⟨by intro d hd; simp at hd; omega, rfl, .inl ⟨rfl, rfl⟩⟩, rfl⟩

theorem text_num (v : Value) (N : Int) (w : World) (h1 : Num w v N) :
    Calls Try.prog 38 #[v] w fun e w' => (∃ s, e = .returned (.tuple #[.string s, .int .i64 0]) ∧ DecStr s N) ∧ Below w.heap.size w w' := by
  have h0 := h1.range.1
  by_cases h : 0 < N
  · exact text_pos v N w h1 h
  · have : N = 0 := by omega
    subst this
    refine (text_zero v w h1).mono ?_
    rintro e w' ⟨rfl, rfl⟩
    exact ⟨⟨_, rfl, decStr_zero⟩, Below.refl _ _⟩
end Go.Proofs.Ythmhljfaenekfaa

namespace Go.Proofs.Ythmhljfaenekfaa
open Go.RowKit NM

theorem dv_same : ∀ {ds es : List Int}, Digs ds → Digs es → ds.length = es.length → dv ds = dv es → ds = es
  | [], [], _, _, _, _ => rfl
  | [], e :: es, _, _, h, _ => by simp at h
  | d :: ds, [], _, _, h, _ => by simp at h
  | d :: ds, e :: es, hd, he, hl, hv => by
    have h1 := hd d (List.mem_cons_self ..)
    have h2 := he e (List.mem_cons_self ..)
    rw [dv, dv] at hv
    have h3 : d = e := by omega
    have h4 := dv_same (fun x hx => hd x (List.mem_cons_of_mem _ hx)) (fun x hx => he x (List.mem_cons_of_mem _ hx)) (by simpa using hl) (show dv ds = dv es by omega)
    rw [h3, h4]
theorem ten_inv {a b : Nat} (h : (10 : Int) ^ a < 10 ^ b) : a < b := by
  rcases Nat.lt_or_ge a b with h1 | h1
  · exact h1
  · have := ten_le h1; omega
theorem dec_len {ds es : List Int} {N : Int} (h : Dec ds N) (k : Dec es N) : ds.length ≤ es.length := by
  obtain ⟨_, _, h3⟩ := h
  obtain ⟨k1, k2, k3⟩ := k
  have hr := dv_range k1
  rcases h3 with ⟨rfl, rfl⟩ | ⟨h0, h3⟩
  · rcases k3 with ⟨_, rfl⟩ | ⟨k0, _⟩
    · exact Nat.le_refl _
    · simp only [List.length_singleton]; omega
  · have := ten_inv (show (10 : Int) ^ (ds.length - 1) < 10 ^ es.length by omega)
    omega
/-- A number's digits are these and no others. -/
theorem dec_same {ds es : List Int} {N : Int} (h : Dec ds N) (k : Dec es N) : ds = es :=
  dv_same h.1 k.1 (Nat.le_antisymm (dec_len h k) (dec_len k h)) (h.2.1.trans k.2.1.symm)
theorem DecStr.same {s t : ByteArray} {N : Int} (h : DecStr s N) (k : DecStr t N) : s = t := by
  obtain ⟨ds, h1, rfl⟩ := h
  obtain ⟨es, h2, rfl⟩ := k
  rw [dec_same h1 h2]

def aliveText : ByteArray := ⟨#[49, 48, 48, 48, 48, 48, 48, 48, 48, 48, 48]⟩
theorem alive_dec : Dec [7, 7, 7, 2, 6, 1, 1, 5, 9, 9, 0, 1] 109951162777 := ⟨by unfold Digs; decide, by decide, .inr ⟨by decide, by decide⟩⟩
theorem alive_str : DecStr ⟨#[49, 48, 57, 57, 53, 49, 49, 54, 50, 55, 55, 55]⟩ 109951162777 := ⟨_, alive_dec, by decide +kernel⟩

end Go.Proofs.Ythmhljfaenekfaa

