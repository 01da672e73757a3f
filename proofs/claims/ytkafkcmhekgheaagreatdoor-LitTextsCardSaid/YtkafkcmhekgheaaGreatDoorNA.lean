/- The numbers of nat and of its reference, for this seat: XNatMath, XNatBase, XNatNum, XNatAdd, XNatMul, XNatSub, XNatShort, XNatUp, XNatDown. -/
import Derived.Test.YtkafkcmhekgheaaGreatDoorRows
import Derived.WalkKit
import Derived.WalkSpells
import Derived.WalkLawsBesides
import Derived.WalkSmall
import Derived.Deep.QuietTactic
import Derived.BigQuiet
import Derived.Lib.Hide
import Derived.Below
import Derived.Deep.OwnRows
import Derived.Laws.NewBlocks
import Derived.Laws.OwnMore
import Derived.LoopTactic
import Derived.Deep.DeepCutAuto
import Derived.Laws.BitsLemmas
/-
  Numbers of limbs to the base 2^32, as lists of integers, the least limb first. Plain mathematics: no Go in sight.
-/
namespace NM

/-- 2^32 as often as k says. -/
def pw : Nat → Int
  | 0 => 1
  | k + 1 => 4294967296 * pw k

/-- What a list of limbs stands for. -/
def val : List Int → Int
  | [] => 0
  | d :: ds => d + 4294967296 * val ds

def U32s (xs : List Int) : Prop := ∀ x ∈ xs, 0 ≤ x ∧ x < 4294967296

theorem pw_pos (k : Nat) : 0 < pw k := by
  induction k with
  | zero => simp [pw]
  | succ k ih => simp only [pw]; omega

theorem pw_add (j k : Nat) : pw (j + k) = pw j * pw k := by
  induction j with
  | zero => simp [pw]
  | succ j ih => rw [Nat.succ_add]; simp only [pw, ih, Int.mul_assoc]

theorem pw_succ' (k : Nat) : pw (k + 1) = pw k * 4294967296 := by simp only [pw]; omega

theorem pw_mono {j k : Nat} (h : j ≤ k) : pw j ≤ pw k := by
  obtain ⟨d, rfl⟩ := Nat.exists_eq_add_of_le h
  rw [pw_add]
  have h1 := pw_pos j
  have h2 := pw_pos d
  have : pw j * 1 ≤ pw j * pw d := Int.mul_le_mul_of_nonneg_left (by omega) (by omega)
  omega

theorem val_append (xs ys : List Int) : val (xs ++ ys) = val xs + pw xs.length * val ys := by
  induction xs with
  | nil => simp [val, pw]
  | cons x xs ih =>
    simp only [List.cons_append, val, ih, List.length_cons, pw, Int.mul_add, Int.mul_assoc]
    omega

theorem val_snoc (xs : List Int) (x : Int) : val (xs ++ [x]) = val xs + pw xs.length * x := by
  rw [val_append]; simp [val]

theorem U32s_nil : U32s [] := by intro x h; cases h

theorem U32s_append {xs ys : List Int} (h1 : U32s xs) (h2 : U32s ys) : U32s (xs ++ ys) := by
  intro x h
  rcases List.mem_append.1 h with h | h
  · exact h1 x h
  · exact h2 x h

theorem U32s_one {x : Int} (h0 : 0 ≤ x) (h1 : x < 4294967296) : U32s [x] := by
  intro y h; simp at h; omega

theorem U32s_take {xs : List Int} (h : U32s xs) (k : Nat) : U32s (xs.take k) := fun x hx => h x (List.mem_of_mem_take hx)
theorem U32s_drop {xs : List Int} (h : U32s xs) (k : Nat) : U32s (xs.drop k) := fun x hx => h x (List.mem_of_mem_drop hx)
theorem U32s_cons {x : Int} {xs : List Int} (h : U32s (x :: xs)) : (0 ≤ x ∧ x < 4294967296) ∧ U32s xs :=
  ⟨h x (by simp), fun y hy => h y (by simp [hy])⟩

theorem val_nonneg {xs : List Int} (h : U32s xs) : 0 ≤ val xs := by
  induction xs with
  | nil => simp [val]
  | cons x xs ih =>
    have := U32s_cons h
    have := ih this.2
    simp only [val]; omega

theorem val_lt {xs : List Int} (h : U32s xs) : val xs < pw xs.length := by
  induction xs with
  | nil => simp [val, pw]
  | cons x xs ih =>
    have h1 := U32s_cons h
    have := ih h1.2
    simp only [val, List.length_cons, pw]; omega

theorem getElem_u32 {xs : List Int} (h : U32s xs) {k : Nat} (hk : k < xs.length) : 0 ≤ xs[k] ∧ xs[k] < 4294967296 := h _ (List.getElem_mem hk)

theorem take_succ {xs : List Int} {k : Nat} (hk : k < xs.length) : xs.take (k + 1) = xs.take k ++ [xs[k]] := by
  rw [List.take_succ_eq_append_getElem hk]

theorem val_take_succ {xs : List Int} {k : Nat} (hk : k < xs.length) : val (xs.take (k + 1)) = val (xs.take k) + pw k * xs[k] := by
  rw [take_succ hk, val_snoc, List.length_take, Nat.min_eq_left (by omega)]

theorem val_take_all {xs : List Int} {k : Nat} (hk : xs.length ≤ k) : val (xs.take k) = val xs := by rw [List.take_of_length_le hk]

theorem val_split (xs : List Int) (k : Nat) (hk : k ≤ xs.length) : val xs = val (xs.take k) + pw k * val (xs.drop k) := by
  have := val_append (xs.take k) (xs.drop k)
  rw [List.take_append_drop, List.length_take, Nat.min_eq_left hk] at this
  exact this

/-- The list behind a store at k. -/
theorem take_set_succ (xs : List Int) (k : Nat) (x : Int) (hk : k < xs.length) : (xs.set k x).take (k + 1) = xs.take k ++ [x] := by
  rw [List.take_succ_eq_append_getElem (by simpa using hk), List.take_set_of_le (by omega)]
  simp

/-- No 0 at the end. -/
def Ends (xs : List Int) : Prop := ∀ h : xs ≠ [], xs.getLast h ≠ 0

theorem Ends_nil : Ends [] := fun h => absurd rfl h

structure Canon (xs : List Int) : Prop where
  u : U32s xs
  e : Ends xs

theorem val_replicate (k : Nat) : val (List.replicate k 0) = 0 := by
  induction k with
  | zero => simp [val]
  | succ k ih => simp [List.replicate_succ, val, ih]

theorem val_ge_of_last {xs : List Int} (h : Canon xs) (hn : xs ≠ []) : pw (xs.length - 1) ≤ val xs := by
  have hs := List.dropLast_concat_getLast hn
  have hl : xs.dropLast.length = xs.length - 1 := by simp
  have hd : U32s xs.dropLast := fun x hx => h.u x (List.dropLast_subset xs hx)
  have h0 := h.e hn
  have h1 := h.u _ (List.getLast_mem hn)
  have h2 := val_nonneg hd
  have h3 := val_snoc xs.dropLast (xs.getLast hn)
  rw [hs, hl] at h3
  have h4 := pw_pos (xs.length - 1)
  have : pw (xs.length - 1) * 1 ≤ pw (xs.length - 1) * xs.getLast hn := Int.mul_le_mul_of_nonneg_left (by omega) (by omega)
  omega

theorem val_pos {xs : List Int} (h : Canon xs) (hn : xs ≠ []) : 0 < val xs := by
  have := val_ge_of_last h hn
  have := pw_pos (xs.length - 1)
  omega

theorem Canon_nil : Canon [] := ⟨U32s_nil, Ends_nil⟩

/-- The longer is the greater. -/
theorem val_lt_of_len {xs ys : List Int} (hx : U32s xs) (hy : Canon ys) (h : xs.length < ys.length) : val xs < val ys := by
  have h1 := val_lt hx
  have h2 := val_ge_of_last hy (by intro e; simp [e] at h)
  have h3 := pw_mono (show xs.length ≤ ys.length - 1 by omega)
  omega

theorem val_inj_len : ∀ {xs ys : List Int}, U32s xs → U32s ys → xs.length = ys.length → val xs = val ys → xs = ys
  | [], [], _, _, _, _ => rfl
  | x :: xs, y :: ys, hx, hy, hl, hv => by
    have h1 := U32s_cons hx
    have h2 := U32s_cons hy
    simp only [val] at hv
    have e1 : x = y := by omega
    have e2 : val xs = val ys := by omega
    rw [e1, val_inj_len h1.2 h2.2 (by simpa using hl) e2]
  | [], y :: ys, _, _, hl, _ => by simp at hl
  | x :: xs, [], _, _, hl, _ => by simp at hl

theorem Canon.inj {xs ys : List Int} (hx : Canon xs) (hy : Canon ys) (h : val xs = val ys) : xs = ys := by
  apply val_inj_len hx.u hy.u _ h
  rcases Nat.lt_trichotomy xs.length ys.length with hl | hl | hl
  · have := val_lt_of_len hx.u hy hl; omega
  · exact hl
  · have := val_lt_of_len hy.u hx hl; omega

/-- Limb i; 0 where there is none. A plain definition: no walk looks into it. -/
def lb (xs : List Int) (i : Nat) : Int := xs.getD i 0

theorem lb_eq {xs : List Int} {i : Nat} (h : i < xs.length) : lb xs i = xs[i] := by simp [lb, h]
theorem lb_none {xs : List Int} {i : Nat} (h : xs.length ≤ i) : lb xs i = 0 := by simp [lb, h]
theorem lb_range {xs : List Int} (h : U32s xs) (i : Nat) : 0 ≤ lb xs i ∧ lb xs i < 4294967296 := by
  by_cases hi : i < xs.length
  · rw [lb_eq hi]; exact h _ (List.getElem_mem hi)
  · rw [lb_none (by omega)]; omega
theorem val_step {xs : List Int} {k : Nat} (hk : k < xs.length) : val (xs.take (k + 1)) = val (xs.take k) + pw k * lb xs k := by
  rw [val_take_succ hk, lb_eq hk]
theorem lb_take {xs : List Int} {i k : Nat} (h : i < k) : lb (xs.take k) i = lb xs i := by
  simp [lb, h]
theorem lb_drop (xs : List Int) (i k : Nat) : lb (xs.drop k) i = lb xs (k + i) := by
  simp [lb]

/-- The place behind the last limb that is not 0, among the first k. -/
def tl (xs : List Int) : Nat → Nat
  | 0 => 0
  | k + 1 => if lb xs k = 0 then tl xs k else k + 1

theorem tl_le (xs : List Int) : ∀ k, tl xs k ≤ k
  | 0 => Nat.le_refl _
  | k + 1 => by
    rw [tl]
    split
    · have := tl_le xs k; omega
    · omega
theorem tl_val (xs : List Int) : ∀ k, k ≤ xs.length → val (xs.take (tl xs k)) = val (xs.take k)
  | 0, _ => rfl
  | k + 1, h => by
    rw [tl]
    split
    · rename_i h0
      rw [tl_val xs k (by omega), val_step (by omega), h0]
      omega
    · rfl
theorem tl_ends (xs : List Int) : ∀ k, tl xs k = 0 ∨ lb xs (tl xs k - 1) ≠ 0
  | 0 => .inl rfl
  | k + 1 => by
    rw [tl]
    split
    · exact tl_ends xs k
    · rename_i h; exact .inr h

theorem Ends_of {xs : List Int} (h : xs = [] ∨ lb xs (xs.length - 1) ≠ 0) : Ends xs := by
  intro hn
  rcases h with h | h
  · exact absurd h hn
  · rw [List.getLast_eq_getElem]
    rw [lb_eq (by have := List.length_pos_iff.2 hn; omega)] at h
    exact h
theorem Ends_lb {xs : List Int} (h : Ends xs) (hn : xs ≠ []) : lb xs (xs.length - 1) ≠ 0 := by
  have := h hn
  rw [List.getLast_eq_getElem] at this
  rw [lb_eq (by have := List.length_pos_iff.2 hn; omega)]
  exact this
theorem tl_canon {xs : List Int} (hu : U32s xs) : Canon (xs.take (tl xs xs.length)) := by
  refine ⟨U32s_take hu _, Ends_of ?_⟩
  have h1 := tl_le xs xs.length
  rcases tl_ends xs xs.length with h | h
  · exact .inl (by rw [h]; rfl)
  · by_cases h0 : tl xs xs.length = 0
    · exact .inl (by rw [h0]; rfl)
    · right
      rw [List.length_take, Nat.min_eq_left h1, lb_take (by omega)]
      exact h

/-- Right, as the program asks it. -/
def rightB (xs : List Int) : Bool := decide (xs.length ≤ 16 ∧ (xs.length = 0 ∨ lb xs (xs.length - 1) ≠ 0))
theorem rightB_iff {xs : List Int} : rightB xs = true ↔ xs.length ≤ 16 ∧ (xs = [] ∨ lb xs (xs.length - 1) ≠ 0) := by
  unfold rightB
  rw [decide_eq_true_iff, List.length_eq_zero_iff]
theorem rightB_canon {xs : List Int} (hu : U32s xs) (h : rightB xs = true) : Canon xs ∧ xs.length ≤ 16 := by
  rw [rightB_iff] at h
  exact ⟨⟨hu, Ends_of h.2⟩, h.1⟩
theorem canon_rightB {xs : List Int} (h : Canon xs) (hl : xs.length ≤ 16) : rightB xs = true := by
  rw [rightB_iff]
  refine ⟨hl, ?_⟩
  by_cases hn : xs = []
  · exact .inl hn
  · exact .inr (Ends_lb h.e hn)

/-- How two numbers compare: -1, 0, 1. -/
def sgn (a b : Int) : Int := if a < b then -1 else if b < a then 1 else 0

theorem sgn_len {xs ys : List Int} (hx : Canon xs) (hy : Canon ys) (h : xs.length < ys.length) : sgn (val xs) (val ys) = -1 := by
  rw [sgn, if_pos (val_lt_of_len hx.u hy h)]
theorem sgn_len' {xs ys : List Int} (hx : Canon xs) (hy : Canon ys) (h : ys.length < xs.length) : sgn (val xs) (val ys) = 1 := by
  have := val_lt_of_len hy.u hx h
  rw [sgn, if_neg (by omega), if_pos this]

/-- The same from k on, and less at k - 1: less. -/
theorem val_less {xs ys : List Int} (hx : U32s xs) (hy : U32s ys) (hl : xs.length = ys.length) {k : Nat} (hk : k < xs.length) (hd : xs.drop (k + 1) = ys.drop (k + 1)) (h : lb xs k < lb ys k) : val xs < val ys := by
  have a1 := val_split xs (k + 1) (by omega)
  have a2 := val_split ys (k + 1) (by omega)
  rw [hd] at a1
  rw [val_step hk] at a1
  rw [val_step (by omega)] at a2
  have b1 := val_lt (U32s_take hx k)
  have b2 := val_nonneg (U32s_take hy k)
  rw [List.length_take, Nat.min_eq_left (by omega)] at b1
  have : pw k * (lb xs k + 1) ≤ pw k * lb ys k := Int.mul_le_mul_of_nonneg_left (by omega) (by have := pw_pos k; omega)
  rw [Int.mul_add] at this
  omega
theorem drop_step {xs ys : List Int} (hl : xs.length = ys.length) {k : Nat} (hk : k < xs.length) (hd : xs.drop (k + 1) = ys.drop (k + 1)) (h : lb xs k = lb ys k) : xs.drop k = ys.drop k := by
  have hk2 : k < ys.length := by omega
  rw [List.drop_eq_getElem_cons hk, List.drop_eq_getElem_cons hk2, hd]
  rw [lb_eq hk, lb_eq hk2] at h
  rw [h]

/-- A limb is stored at k, and what is carried goes on. -/
theorem carry_step {zs : List Int} {k : Nat} (hk : k < zs.length) {c d q s V : Int} (h : val (zs.take k) + pw k * c = V) (hd : d + 4294967296 * q = c + s) :
    val ((zs.set k d).take (k + 1)) + pw (k + 1) * q = V + pw k * s := by
  rw [take_set_succ zs k d hk, val_snoc, List.length_take, Nat.min_eq_left (by omega), pw_succ', Int.mul_assoc, Int.add_assoc, ← Int.mul_add, hd, Int.mul_add]
  omega
theorem U32s_set {zs : List Int} (h : U32s zs) (k : Nat) {d : Int} (h0 : 0 ≤ d) (h1 : d < 4294967296) : U32s (zs.set k d) := by
  intro x hx
  rcases List.mem_or_eq_of_mem_set hx with hx | hx
  · exact h x hx
  · omega
theorem U32s_replicate (n : Nat) : U32s (List.replicate n 0) := by
  intro x hx
  have := List.eq_of_mem_replicate hx
  omega

theorem val_set : ∀ (zs : List Int) (k : Nat) (d : Int), k < zs.length → val (zs.set k d) = val zs + pw k * (d - lb zs k)
  | [], k, d, h => by simp at h
  | z :: zs, 0, d, _ => by simp [val, pw, lb]; omega
  | z :: zs, k + 1, d, h => by
    have ih := val_set zs k d (by simpa using h)
    have e : lb (z :: zs) (k + 1) = lb zs k := by simp [lb]
    rw [List.set_cons_succ, val, ih, val, e, pw, Int.mul_add, Int.mul_assoc]
    omega
theorem lb_set_ne {zs : List Int} {k j : Nat} {d : Int} (h : j ≠ k) : lb (zs.set k d) j = lb zs j := by
  unfold lb
  rw [List.getD_eq_getElem?_getD, List.getD_eq_getElem?_getD, List.getElem?_set_ne (by omega)]
theorem lb_set_eq {zs : List Int} {k : Nat} {d : Int} (h : k < zs.length) : lb (zs.set k d) k = d := by
  unfold lb
  simp [h]
theorem lb_replicate (n k : Nat) : lb (List.replicate n 0) k = 0 := by
  unfold lb
  rw [List.getD_eq_getElem?_getD]
  by_cases h : k < n
  · simp [h]
  · simp [h]

/-- One limb of a product: what is stored, and what is carried. -/
theorem mul_step {zs : List Int} {k : Nat} (hk : k < zs.length) {c d q s : Int} (hd : d + 4294967296 * q = c + s + lb zs k) :
    val (zs.set k d) + pw (k + 1) * q = val zs + pw k * c + pw k * s := by
  rw [val_set zs k d hk, pw_succ', Int.mul_assoc, Int.add_assoc, ← Int.mul_add, show d - lb zs k + 4294967296 * q = c + s by omega, Int.mul_add, Int.add_assoc]
theorem prod_bound {x y : Int} (x0 : 0 ≤ x) (x1 : x < 4294967296) (y0 : 0 ≤ y) (y1 : y < 4294967296) : 0 ≤ x * y ∧ x * y ≤ 18446744065119617025 := by
  refine ⟨Int.mul_nonneg x0 y0, ?_⟩
  have h1 : x * y ≤ x * 4294967295 := Int.mul_le_mul_of_nonneg_left (by omega) x0
  omega

end NM

namespace Go.Proofs.YtkafkcmhekgheaaGreatDoor.Q
open Go.RowKit NM

theorem ret_bool {a b : Bool} (h : a = b) : Ending.returned (.bool a) = .returned (.bool b) := by rw [h]
theorem ret_int {k : IntKind} {a b : Int} (h : a = b) : Ending.returned (.int k a) = .returned (.int k b) := by rw [h]

/-- A slice of limbs in memory: empty, or its cells lie in one row. -/
def Row (w : World) (ao : Option Addr) (xs : List Int) : Prop :=
  xs = [] ∨ ∃ b off, ao = some ⟨b, off, none⟩ ∧ b < w.heap.size ∧ ∀ i, i < xs.length → w.cell? ⟨b, off + i, none⟩ = some (.int .u32 (lb xs i))

theorem Row.below {w w' : World} {ao : Option Addr} {xs : List Int} (h : Row w ao xs) (hb : Below w.heap.size w w') : Row w' ao xs := by
  rcases h with h | ⟨b, off, h1, h2, h3⟩
  · exact .inl h
  · exact .inr ⟨b, off, h1, Nat.lt_of_lt_of_le h2 hb.size, fun i hi => by rw [hb.cell (p := ⟨b, off + i, none⟩) h2]; exact h3 i hi⟩
theorem Row.take {w : World} {ao : Option Addr} {xs : List Int} (h : Row w ao xs) (k : Nat) : Row w ao (xs.take k) := by
  rcases h with h | ⟨b, off, h1, h2, h3⟩
  · exact .inl (by rw [h]; simp)
  · refine .inr ⟨b, off, h1, h2, fun i hi => ?_⟩
    rw [List.length_take] at hi
    rw [h3 i (by omega), lb_take (by omega)]
theorem Row.cells {w : World} {ao : Option Addr} {xs : List Int} (h : Row w ao xs) (hn : 0 < xs.length) : ∃ b off, ao = some ⟨b, off, none⟩ ∧ b < w.heap.size ∧ ∀ i, i < xs.length → w.cell? ⟨b, off + i, none⟩ = some (.int .u32 (lb xs i)) := by
  rcases h with h | h
  · rw [h] at hn; exact absurd hn (by simp)
  · exact h

set_option maxHeartbeats 400000 in
theorem right_any (ao : Option Addr) (cap : Nat) (xs : List Int) (w : World) (hr : Row w ao xs) (hm : xs.length ≤ 9223372036854775807) :
    Calls Tryz.prog 87 #[.slice ao xs.length cap] w fun e w' => e = .returned (.bool (rightB xs)) ∧ w = w' := by
  by_cases h0 : xs.length = 0
  · have hz := Lib.hid (show rightB xs = true by simp [rightB, h0])
    rw [h0]
    clear hr h0 hm
    go_enter Tryz.func87, Tryz.ntmps87
    go_wp2_with fail
    go_ret
    exact ⟨ret_bool hz.out.symm, rfl⟩
  obtain ⟨b, off, rfl, _, hc⟩ := hr.cells (by omega)
  have hc0 := hc (xs.length - 1) (by omega)
  clear hc
  obtain ⟨n, hn⟩ : ∃ n, xs.length = n + 1 := ⟨xs.length - 1, by omega⟩
  have hz := Lib.hid (show rightB xs = decide (n + 1 ≤ 16 ∧ lb xs n ≠ 0) by simp [rightB, hn])
  rw [hn] at hc0 ⊢
  rw [hn] at hm
  simp only [Nat.add_sub_cancel] at hc0
  clear hn h0 hr
  by_cases h16 : n + 1 ≤ 16
  · go_enter Tryz.func87, Tryz.ntmps87
    go_wp2_with fail
    go_ret
    refine ⟨ret_bool ?_, rfl⟩
    have e0 : (((n : Nat) : Int) + 1 == 0) = false := by simp; omega
    rw [hz.out, Bool.eq_iff_iff]
    simp only [e0, Bool.false_or, bne_iff_ne, decide_eq_true_iff]
    exact ⟨fun h => ⟨h16, h⟩, And.right⟩
  · go_enter Tryz.func87, Tryz.ntmps87
    go_wp2_with fail
    go_ret
    exact ⟨ret_bool (by rw [hz.out]; simp; omega), rfl⟩
set_option maxHeartbeats 400000 in
theorem trim_any (ao : Option Addr) (cap : Nat) (xs : List Int) (w : World) (hr : Row w ao xs) (hm : xs.length ≤ 9223372036854775807) (hcap : xs.length ≤ cap) :
    Calls Tryz.prog 63 #[.slice ao xs.length cap] w fun e w' => e = .returned (.slice ao (tl xs xs.length) cap) ∧ w = w' := by
  by_cases h0 : xs.length = 0
  · rw [h0]
    clear hr h0 hm hcap
    go_enter Tryz.func63, Tryz.ntmps63
    go_wp2_with fail
    go_loop [0] (fun v => v = .slice ao 0 cap) (fun _ => 0)
    case atStart => exact rfl
    case round =>
      subst hrel
      go_wp2_with fail
      go_ret
      exact ⟨rfl, rfl⟩
  obtain ⟨b, off, rfl, _, hc⟩ := hr.cells (by omega)
  obtain ⟨n, hn⟩ : ∃ n, n = xs.length := ⟨_, rfl⟩
  rw [← hn] at hm hcap hc ⊢
  clear hn h0 hr
  go_enter Tryz.func63, Tryz.ntmps63
  go_wp2_with fail
  go_loop [0] (fun v => ∃ k : Nat, k ≤ n ∧ v = .slice (some ⟨b, off, none⟩) k cap ∧ Hid (tl xs k = tl xs n)) (fun v => match v with | .slice _ k _ => k | _ => 0)
  case atStart => exact ⟨n, Nat.le_refl _, rfl, Lib.hid rfl⟩
  case round =>
    obtain ⟨k, hk, rfl, ht⟩ := hrel
    cases k with
    | zero =>
      have Hc := Lib.hid hc
      clear hc
      go_wp2_with fail
      go_ret
      exact ⟨by rw [← ht.out]; rfl, rfl⟩
    | succ k =>
      have hck := hc k (by omega)
      have Hc := Lib.hid hc
      clear hc
      by_cases hz : lb xs k = 0
      · have ht2 := Lib.hid (show tl xs k = tl xs n by rw [← ht.out, tl, if_pos hz])
        have hz2 : (lb xs k == 0) = true := by simpa using hz
        have Hz := Lib.hid hz
        clear hz
        go_wp2_with fail
        go_round
        case rel => exact ⟨k, by omega, rfl, ht2⟩
        case measure => simp
      · have ht2 := Lib.hid (show k + 1 = tl xs n by rw [← ht.out, tl, if_neg hz])
        have hz2 : (lb xs k == 0) = false := by simpa using hz
        clear hz
        go_wp2_with fail
        go_ret
        exact ⟨congrArg (fun j => Ending.returned (Value.slice (some ⟨b, off, none⟩) j cap)) ht2.out, rfl⟩

set_option maxHeartbeats 1000000 in
set_option maxRecDepth 100000 in
theorem compare_len (ao bo : Option Addr) (ca cb : Nat) (n m : Nat) (w : World) (h : n ≠ m) (_hn : n ≤ 16) (_hm : m ≤ 16) :
    Calls Tryz.prog 109 #[.slice ao n ca, .slice bo m cb] w fun e w' => e = .returned (.int .i64 (if n < m then -1 else 1)) ∧ Below w.heap.size w w' := by
  have hb : (((n : Nat) : Int) != ((m : Nat) : Int)) = true := by simp; omega
  by_cases hlt : n < m
  · rw [if_pos hlt]
    go_enter Tryz.func109, Tryz.ntmps109
    go_wp2_with fail
    go_ret
    exact ⟨rfl, Below.refl _ _⟩
  · rw [if_neg hlt]
    go_enter Tryz.func109, Tryz.ntmps109
    go_wp2_with fail
    go_ret
    exact ⟨rfl, Below.refl _ _⟩

set_option maxHeartbeats 1000000 in
set_option maxRecDepth 100000 in
theorem compare_same (ao bo : Option Addr) (ca cb : Nat) (xs ys : List Int) (w : World) (ra : Row w ao xs) (rb : Row w bo ys) (ux : U32s xs) (uy : U32s ys) (hl : xs.length = ys.length) (hn : xs.length ≤ 16) :
    Calls Tryz.prog 109 #[.slice ao xs.length ca, .slice bo ys.length cb] w fun e w' => e = .returned (.int .i64 (sgn (val xs) (val ys))) ∧ Below w.heap.size w w' := by
  rw [← hl]
  obtain ⟨n, hn'⟩ : ∃ n, n = xs.length := ⟨_, rfl⟩
  rw [← hn'] at hn ⊢
  have Hn := Lib.hid hn'
  have hne : (((n : Nat) : Int) != ((n : Nat) : Int)) = false := by simp
  go_enter Tryz.func109, Tryz.ntmps109
  clear hn'
  go_wp2_with fail
  go_loopw [5] (fun v wr => ∃ k : Nat, k ≤ n ∧ v = .int .i64 ((k : Int) - 1) ∧ Hid (xs.drop k = ys.drop k) ∧ Below w.heap.size w wr) (fun v _ => (intOf v + 1).toNat)
  case atStart => exact ⟨n, Nat.le_refl _, rfl, Lib.hid (by rw [Hn.out, List.drop_length, hl, List.drop_length]), Below.refl _ _⟩
  case round =>
    obtain ⟨k, hk, rfl, hd, hb⟩ := hrel
    cases k with
    | zero =>
      have he := Lib.hid (show sgn (val xs) (val ys) = 0 by
        have := hd.out
        simp only [List.drop_zero] at this
        rw [this, sgn, if_neg (by omega), if_neg (by omega)])
      go_wp2_with fail
      go_ret
      exact ⟨ret_int he.out.symm, hb⟩
    | succ k =>
      rename_i wr
      have e1 : ((k + 1 : Nat) : Int) - 1 = k := by omega
      rw [e1]
      clear e1
      obtain ⟨b, off, rfl, hbs, hc⟩ := (ra.below hb).cells (by rw [← Hn.out]; omega)
      obtain ⟨b2, off2, rfl, hbs2, hc2⟩ := (rb.below hb).cells (by rw [← hl, ← Hn.out]; omega)
      have hck := hc k (by rw [← Hn.out]; omega)
      have hck2 := hc2 k (by rw [← hl, ← Hn.out]; omega)
      obtain ⟨x0, x1⟩ := lb_range ux k
      obtain ⟨y0, y1⟩ := lb_range uy k
      have Hl := Lib.hid hl
      clear hc hc2 hl
      rcases Int.lt_trichotomy (lb xs k) (lb ys k) with h | h | h
      · have he := Lib.hid (show sgn (val xs) (val ys) = -1 by
          rw [sgn, if_pos (val_less ux uy Hl.out (by rw [← Hn.out]; omega) hd.out h)])
        go_wp2_with fail
        go_quiet (fail)
        go_wp2_with fail
        go_ret
        exact ⟨ret_int he.out.symm, below_drewN hb _⟩
      · have hd2 := Lib.hid (drop_step Hl.out (by rw [← Hn.out]; omega) hd.out h)
        have h1 : ¬ lb xs k < lb ys k := by omega
        have h2 : ¬ lb ys k < lb xs k := by omega
        have H := Lib.hid h
        clear h
        go_wp2_with fail
        go_quiet (fail)
        go_wp2_with fail
        go_quiet (fail)
        go_wp2_with fail
        go_roundw
        case rel => exact ⟨k, by omega, rfl, hd2, below_drewN hb _⟩
        case measure => simp [intOf]
      · have he := Lib.hid (show sgn (val xs) (val ys) = 1 by
          have := val_less uy ux Hl.out.symm (by rw [← Hl.out, ← Hn.out]; omega) hd.out.symm h
          rw [sgn, if_neg (by omega), if_pos this])
        have h1 : ¬ lb xs k < lb ys k := by omega
        go_wp2_with fail
        go_quiet (fail)
        go_wp2_with fail
        go_quiet (fail)
        go_wp2_with fail
        go_ret
        exact ⟨ret_int he.out.symm, below_drewN (below_drewN hb _) _⟩
end Go.Proofs.YtkafkcmhekgheaaGreatDoor.Q

namespace Go.Proofs.YtkafkcmhekgheaaGreatDoor.Q
open Go.RowKit NM

/-- A slice of limbs. -/
def Sl (w : World) (v : Value) (xs : List Int) : Prop :=
  ∃ ao cap, v = .slice ao xs.length cap ∧ xs.length ≤ cap ∧ Row w ao xs ∧ U32s xs ∧ xs.length ≤ 4611686018427387904 ∧ (ao = none → cap = 0)
/-- A slice that is the number N. -/
def Num (w : World) (v : Value) (N : Int) : Prop := ∃ xs, Sl w v xs ∧ rightB xs = true ∧ val xs = N

theorem Sl.below {w w' : World} {v : Value} {xs : List Int} (h : Sl w v xs) (hb : Below w.heap.size w w') : Sl w' v xs := by
  obtain ⟨ao, cap, h1, h2, h3, h4, h5⟩ := h
  exact ⟨ao, cap, h1, h2, h3.below hb, h4, h5⟩
theorem Num.below {w w' : World} {v : Value} {N : Int} (h : Num w v N) (hb : Below w.heap.size w w') : Num w' v N := by
  obtain ⟨xs, h1, h2, h3⟩ := h
  exact ⟨xs, h1.below hb, h2, h3⟩
theorem val_lt16 {xs : List Int} (hu : U32s xs) (hr : rightB xs = true) : val xs < pw 16 := by
  have h := rightB_canon hu hr
  have h1 := val_lt hu
  have h2 := pw_mono h.2
  omega
theorem Num.range {w : World} {v : Value} {N : Int} (h : Num w v N) : 0 ≤ N ∧ N < pw 16 := by
  obtain ⟨xs, ⟨_, _, _, _, _, hu, _⟩, h2, rfl⟩ := h
  exact ⟨val_nonneg hu, val_lt16 hu h2⟩
theorem Num_nil (w : World) : Num w (.slice none 0 0) 0 :=
  ⟨[], ⟨none, 0, rfl, Nat.zero_le _, .inl rfl, U32s_nil, by simp, fun _ => rfl⟩, rfl, rfl⟩

/-- What is told of a number that was reckoned: the number, or that it is too great. -/
def Told (N : Int) (e : Ending) (w' : World) : Prop :=
  (N < pw 16 ∧ ∃ v, e = .returned (.tuple #[v, .int .i64 0]) ∧ Num w' v N) ∨ (pw 16 ≤ N ∧ e = .returned (.tuple #[.slice none 0 0, .int .i64 2]))

theorem trimmed_num {w : World} {ad : Addr} {cap : Nat} {xs : List Int} (hr : Row w (some ad) xs) (hu : U32s xs) (hc : xs.length ≤ cap) (h16 : tl xs xs.length ≤ 16) :
    Num w (.slice (some ad) (tl xs xs.length) cap) (val xs) := by
  have h1 := tl_le xs xs.length
  have hl : (xs.take (tl xs xs.length)).length = tl xs xs.length := by simp; omega
  refine ⟨xs.take (tl xs xs.length), ⟨some ad, cap, by rw [hl], by omega, hr.take _, U32s_take hu _, by omega, fun h => by cases h⟩, canon_rightB (tl_canon hu) (by omega), ?_⟩
  rw [tl_val xs _ (Nat.le_refl _), List.take_length]
theorem tl_small {xs : List Int} (hu : U32s xs) : tl xs xs.length ≤ 16 ↔ val xs < pw 16 := by
  have hc := tl_canon hu
  have h1 := tl_le xs xs.length
  have hl : (xs.take (tl xs xs.length)).length = tl xs xs.length := by simp; omega
  have hv := tl_val xs _ (Nat.le_refl _)
  rw [List.take_length] at hv
  constructor
  · intro h
    have := val_lt hc.u
    have := pw_mono h
    rw [hl] at *
    omega
  · intro h
    by_cases h16 : tl xs xs.length ≤ 16
    · exact h16
    · have h2 := val_ge_of_last hc (by intro e; rw [e] at hl; simp at hl; omega)
      rw [hl] at h2
      have := pw_mono (show 16 ≤ tl xs xs.length - 1 by omega)
      omega

set_option maxHeartbeats 400000 in
theorem fit_any (ao : Option Addr) (cap : Nat) (xs : List Int) (w : World) (hr : Row w ao xs) (hao : ao.isSome = true) (hu : U32s xs) (hm : xs.length ≤ 1000000) (hcap : xs.length ≤ cap) :
    Calls Tryz.prog 89 #[.slice ao xs.length cap] w fun e w' => Told (val xs) e w' ∧ w = w' := by
  obtain ⟨ad, rfl⟩ := Option.isSome_iff_exists.1 hao
  clear hao
  have hs := tl_small hu
  have ht := tl_le xs xs.length
  by_cases h : tl xs xs.length ≤ 16
  · have hn := Lib.hid (trimmed_num hr hu hcap h)
    have hv := Lib.hid (hs.1 h)
    clear hs
    go_enter Tryz.func89, Tryz.ntmps89
    go_wp2_with (go_at_call 63; refine (trim_any (some ad) cap xs _ hr (by omega) hcap).mono ?_; rintro e w' ⟨rfl, rfl⟩)
    go_ret2
    exact ⟨.inl ⟨hv.out, _, rfl, hn.out⟩, rfl⟩
  · have hv := Lib.hid (show pw 16 ≤ val xs from Int.not_lt.1 fun h' => h (hs.2 h'))
    clear hs
    go_enter Tryz.func89, Tryz.ntmps89
    go_wp2_with (go_at_call 63; refine (trim_any (some ad) cap xs _ hr (by omega) hcap).mono ?_; rintro e w' ⟨rfl, rfl⟩)
    go_ret2
    exact ⟨.inr ⟨hv.out, rfl⟩, rfl⟩

/-- Right, of a slice. -/
theorem right_sl {w : World} {v : Value} {xs : List Int} (h : Sl w v xs) :
    Calls Tryz.prog 87 #[v] w fun e w' => e = .returned (.bool (rightB xs)) ∧ w = w' := by
  obtain ⟨ao, cap, rfl, h2, h3, h4, h5, _⟩ := h
  exact right_any ao cap xs w h3 (by omega)
theorem right_num {w : World} {v : Value} {N : Int} (h : Num w v N) :
    Calls Tryz.prog 87 #[v] w fun e w' => e = .returned (.bool true) ∧ w = w' := by
  obtain ⟨xs, h1, h2, h3⟩ := h
  have := right_sl h1
  rw [h2] at this
  exact this

theorem compare_num {w : World} {v u : Value} {N M : Int} (h1 : Num w v N) (h2 : Num w u M) :
    Calls Tryz.prog 109 #[v, u] w fun e w' => e = .returned (.int .i64 (sgn N M)) ∧ Below w.heap.size w w' := by
  obtain ⟨xs, ⟨ao, ca, rfl, _, ra, ux, _⟩, rx, rfl⟩ := h1
  obtain ⟨ys, ⟨bo, cb, rfl, _, rb, uy, _⟩, ry, rfl⟩ := h2
  obtain ⟨cx, lx⟩ := rightB_canon ux rx
  obtain ⟨cy, ly⟩ := rightB_canon uy ry
  by_cases hl : xs.length = ys.length
  · exact compare_same ao bo ca cb xs ys w ra rb ux uy hl lx
  · have h := compare_len ao bo ca cb xs.length ys.length w hl lx ly
    by_cases hlt : xs.length < ys.length
    · rw [if_pos hlt, ← sgn_len cx cy hlt] at h; exact h
    · rw [if_neg hlt, ← sgn_len' cx cy (by omega)] at h; exact h

end Go.Proofs.YtkafkcmhekgheaaGreatDoor.Q

namespace Go.Proofs.YtkafkcmhekgheaaGreatDoor.Q
open Go.RowKit NM

/-- The cells of a row of limbs. -/
def arr (zs : List Int) : Array Value := (zs.map (Value.int .u32)).toArray
theorem arr_made (n : Nat) : madeCells #[.int .u32 0] n = arr (List.replicate n 0) := by
  apply Array.toList_inj.1
  rw [toList_madeCells_one]
  simp [arr]
theorem arr_set (zs : List Int) (k : Nat) (x : Int) : (arr zs).setIfInBounds k (.int .u32 x) = arr (zs.set k x) := by
  apply Array.toList_inj.1
  simp [arr, List.map_set]
theorem arr_size (zs : List Int) : (arr zs).size = zs.length := by simp [arr]
theorem arr_cell (w : World) (zs : List Int) (t : TypeId) (k : Nat) (h : k < zs.length) : (w.alloc (.cells (arr zs) t)).cell? ⟨w.heap.size, k, none⟩ = some (.int .u32 (lb zs k)) := by
  rw [World.cell?_alloc_new]
  simp [arr, lb, h]
theorem arr_at (zs : List Int) (k : Nat) (h : k < zs.length) : (arr zs)[k]? = some (.int .u32 (lb zs k)) := by
  simp [arr, lb, h]
theorem arr_row (w : World) (zs : List Int) (t : TypeId) : Row (w.alloc (.cells (arr zs) t)) (some ⟨w.heap.size, 0, none⟩) zs := by
  by_cases h : zs = []
  · exact .inl h
  · exact .inr ⟨w.heap.size, 0, rfl, by simp, fun i hi => by rw [Nat.zero_add]; exact arr_cell w zs t i hi⟩

/-- A store into a row of the call's own, behind draws. -/
theorem own_set (w : World) (zs : List Int) (t : TypeId) (nd k : Nat) (x : Int) :
    ((w.alloc (.cells (arr zs) t)).drewN nd).setCell ⟨w.heap.size, k, none⟩ (.int .u32 x) = (w.alloc (.cells (arr (zs.set k x)) t)).drewN nd := by
  rw [← arr_set, ← World.setCell_alloc_at (w := w) (arr zs) t w.heap.size k (.int .u32 x) rfl]
  rfl

theorem info_u32 : (Tryz.prog.info? 54).map (fun i => (i.zero, i.size, i.bytes)) = some (some (.int .u32 0), 1, 4) := by kernel_rfl
theorem make_nat (n : Nat) (hn : n ≤ 1000000) (w : World) :
    (Instr.makeSlice 47 (.int .i64 (n : Int)) (.int .i64 (n : Int))).run Tryz.prog w = .ok (.slice (some ⟨w.heap.size, 0, none⟩) n n) (w.alloc (.cells (arr (List.replicate n 0)) 54)) := by
  rw [← arr_made]
  exact run_make_row' 47 54 (.int .u32 0) 4 Tryz.underlying47 info_u32 rfl .i64 .i64 n (by omega) (by omega) w

/-- Two slices of which one is no number: refused. -/
def Bad2 (w : World) (v u : Value) : Prop := ∃ xs ys, Sl w v xs ∧ Sl w u ys ∧ (rightB xs && rightB ys) = false

end Go.Proofs.YtkafkcmhekgheaaGreatDoor.Q

namespace Go.Proofs.YtkafkcmhekgheaaGreatDoor.Q
open Go.RowKit NM

theorem arr_now (w : World) (zs : List Int) (t : TypeId) (k : Nat) (h : k < zs.length) : (w.alloc (.cells (arr zs) t)).cell? ⟨w.heap.size, k, none⟩ = some (.int .u32 (lb zs k)) := arr_cell w zs t k h

set_option maxHeartbeats 4000000 in
set_option maxRecDepth 100000 in
theorem mul_num (v u : Value) (N M : Int) (w : World) (h1 : Num w v N) (h2 : Num w u M) :
    Calls Tryz.prog 56 #[v, u] w fun e w' => Told (N * M) e w' ∧ Below w.heap.size w w' := by
  have R1 := Lib.hid (right_num h1)
  have R2 := Lib.hid (right_num h2)
  obtain ⟨xs, ⟨ao, ca, rfl, _, ra, ux, _⟩, rx, hvx⟩ := h1
  obtain ⟨ys, ⟨bo, cb, rfl, _, rb, uy, _⟩, ry, hvy⟩ := h2
  obtain ⟨_, lx⟩ := rightB_canon ux rx
  obtain ⟨_, ly⟩ := rightB_canon uy ry
  have Hvx := Lib.hid hvx
  have Hvy := Lib.hid hvy
  clear hvx hvy rx ry
  go_enter Tryz.func56, Tryz.ntmps56
  go_wp2_with fail
  refine R1.out.mono ?_
  rintro e w' ⟨rfl, rfl⟩
  go_wp2_with fail
  refine R2.out.mono ?_
  rintro e w' ⟨rfl, rfl⟩
  clear R1 R2
  obtain ⟨n, hn⟩ : ∃ n, n = xs.length := ⟨_, rfl⟩
  obtain ⟨m, hm⟩ : ∃ m, m = ys.length := ⟨_, rfl⟩
  rw [← hn] at lx ⊢
  rw [← hm] at ly ⊢
  have Hn := Lib.hid hn
  have Hm := Lib.hid hm
  clear hn hm
  have hmk : ∀ wx, (Instr.makeSlice 47 (.int .i64 ((n : Int) + (m : Int))) (.int .i64 ((n : Int) + (m : Int)))).run Tryz.prog wx = .ok (.slice (some ⟨wx.heap.size, 0, none⟩) (n + m) (n + m)) (wx.alloc (.cells (arr (List.replicate (n + m) 0)) 54)) := make_nat (n + m) (by omega)
  go_wp2_with fail
  go_loopw [8, 9, 26] (fun _ _ i wr => ∃ k : Nat, ∃ zs : List Int, ∃ nd : Nat, k ≤ n ∧ i = .int .i64 k ∧ zs.length = n + m ∧ U32s zs ∧ Hid (val zs = val (xs.take k) * val ys) ∧ Hid (∀ j, k + m ≤ j → lb zs j = 0) ∧ wr = (w.alloc (.cells (arr zs) 54)).drewN nd) (fun _ _ i _ => n - (intOf i).toNat)
  case atStart => exact ⟨0, List.replicate (n + m) 0, 0, Nat.zero_le _, rfl, by simp, U32s_replicate _, Lib.hid (by rw [val_replicate]; simp [val]), Lib.hid (fun j _ => lb_replicate _ _), rfl⟩
  case round =>
    obtain ⟨k, zs, nd, hk, rfl, hz, uz, hv, hz0, rfl⟩ := hrel
    by_cases hkn : k < n
    · obtain ⟨b, off, rfl, hbs, hc⟩ := ra.cells (by rw [← Hn.out]; omega)
      have hck := hc k (by rw [← Hn.out]; omega)
      obtain ⟨x0, x1⟩ := lb_range ux k
      have Hc := Lib.hid hc
      clear hc
      go_wp2_with fail
      go_loopw [8, 9, 31] (fun c _ j wr => ∃ l : Nat, ∃ zt : List Int, ∃ c0 : Int, ∃ nt : Nat, l ≤ m ∧ j = .int .i64 l ∧ c = .int .u64 c0 ∧ 0 ≤ c0 ∧ c0 ≤ 4294967295 ∧ zt.length = n + m ∧ U32s zt ∧ Hid (val zt + pw (k + l) * c0 = val (xs.take k) * val ys + pw k * (lb xs k * val (ys.take l))) ∧ Hid (∀ j, k + m ≤ j → lb zt j = 0) ∧ wr = (w.alloc (.cells (arr zt) 54)).drewN nt) (fun _ _ j _ => m - (intOf j).toNat)
      case atStart => exact ⟨0, zs, 0, nd, Nat.zero_le _, rfl, rfl, by omega, by omega, hz, uz, Lib.hid (by rw [hv.out]; simp [val]), hz0, rfl⟩
      case round =>
        obtain ⟨l, zt, c0, nt, hl, rfl, rfl, hc0, hc1, hzt, uzt, hvt, hz0t, rfl⟩ := hrel
        by_cases hlm : l < m
        · obtain ⟨b2, off2, rfl, hbs2, hc2⟩ := rb.cells (by rw [← Hm.out]; omega)
          have hck2 := hc2 l (by rw [← Hm.out]; omega)
          obtain ⟨y0, y1⟩ := lb_range uy l
          obtain ⟨z0, z1⟩ := lb_range uzt (k + l)
          obtain ⟨p0, p1⟩ := NM.prod_bound x0 x1 y0 y1
          have hzk := arr_at zt (k + l) (by omega)
          have Hc2 := Lib.hid hc2
          clear hc2
          go_wp2_with fail
          go_quiet (fail)
          go_wp2_with fail
          go_roundw
          case rel =>
            refine ⟨l + 1, zt.set (k + l) ((c0 + (lb xs k * lb ys l + lb zt (k + l))) % 4294967296), _, _, by omega, by go_num, rfl, by omega, by omega, by simpa using hzt, U32s_set uzt _ (by omega) (by omega), Lib.hid ?_, Lib.hid ?_, by rw [own_set]⟩
            · have h1 := mul_step (zs := zt) (k := k + l) (by omega) (c := c0) (s := lb xs k * lb ys l) (d := (c0 + (lb xs k * lb ys l + lb zt (k + l))) % 4294967296) (q := (c0 + (lb xs k * lb ys l + lb zt (k + l))) / 4294967296) (by omega)
              rw [← Nat.add_assoc, h1, hvt.out, val_step (by rw [← Hm.out]; omega), pw_add, Int.mul_add (lb xs k), Int.mul_add (pw k), Int.mul_assoc (pw k), ← Int.mul_assoc (lb xs k), Int.mul_comm (lb xs k) (pw l), Int.mul_assoc (pw l)]
              omega
            · intro j hj
              rw [lb_set_ne (by omega)]
              exact hz0t.out j hj
          case measure => simp [intOf]; omega
        · have : l = m := by omega
          subst this
          have hzk := arr_at zt (k + l) (by omega)
          go_wp2_with fail
          go_roundw
          case rel =>
            refine ⟨k + 1, zt.set (k + l) c0, _, by omega, by go_num, by simpa using hzt, U32s_set uzt _ (by omega) (by omega), Lib.hid ?_, Lib.hid ?_, by rw [own_set]⟩
            · rw [val_set _ _ _ (by omega), hz0t.out (k + l) (by omega), Int.sub_zero, hvt.out, val_take_all (xs := ys) (by rw [← Hm.out]; omega), val_step (by rw [← Hn.out]; omega), Int.add_mul, Int.mul_assoc]
            · intro j hj
              rw [lb_set_ne (by omega)]
              exact hz0t.out j (by omega)
          case measure => simp [intOf]; omega
    · have : k = n := by omega
      subst this
      have hf := fit_any (some ⟨w.heap.size, 0, none⟩) (k + m) zs ((w.alloc (.cells (arr zs) 54)).drewN nd) ((arr_row _ _ _).below (below_drewN (Below.refl _ _) _)) rfl uz (by omega) (by omega)
      have hval : val zs = N * M := by rw [hv.out, val_take_all (by rw [← Hn.out]; omega), Hvx.out, Hvy.out]
      rw [hval, hz] at hf
      have Hf := Lib.hid hf
      clear hf hval
      have hbl : Below w.heap.size w ((w.alloc (.cells (arr zs) 54)).drewN nd) := below_drewN ((Below.refl _ _).alloc (Nat.le_refl _) _) _
      go_wp2_with fail
      refine Hf.out.mono ?_
      rintro e w1 ⟨ht, rfl⟩
      rcases ht with ⟨hlt, v, rfl, hn⟩ | ⟨hge, rfl⟩
      · have HN := Lib.hid hn
        have HL := Lib.hid hlt
        clear hn hlt
        go_wp2_with fail
        go_ret2
        exact ⟨.inl ⟨HL.out, v, rfl, HN.out⟩, hbl⟩
      · have HL := Lib.hid hge
        clear hge
        go_wp2_with fail
        go_ret2
        exact ⟨.inr ⟨HL.out, rfl⟩, hbl⟩

set_option maxHeartbeats 400000 in
theorem mul_bad (v u : Value) (w : World) (h : Bad2 w v u) :
    Calls Tryz.prog 56 #[v, u] w fun e w' => e = .returned (.tuple #[.slice none 0 0, .int .i64 1]) ∧ w = w' := by
  obtain ⟨xs, ys, h1, h2, hb⟩ := h
  have R1 := Lib.hid (right_sl h1)
  have R2 := Lib.hid (right_sl h2)
  cases hx : rightB xs
  · have Hx := Lib.hid hx
    clear h1 h2 hb hx
    go_enter Tryz.func56, Tryz.ntmps56
    go_wp2_with fail
    refine R1.out.mono ?_
    rintro e w' ⟨rfl, rfl⟩
    rw [Hx.out]
    go_wp2_with fail
    go_ret2
    exact ⟨rfl, rfl⟩
  · have hy : rightB ys = false := by simpa [hx] using hb
    have Hx := Lib.hid hx
    have Hy := Lib.hid hy
    clear h1 h2 hb hx hy
    go_enter Tryz.func56, Tryz.ntmps56
    go_wp2_with fail
    refine R1.out.mono ?_
    rintro e w' ⟨rfl, rfl⟩
    rw [Hx.out]
    go_wp2_with fail
    refine R2.out.mono ?_
    rintro e w' ⟨rfl, rfl⟩
    rw [Hy.out]
    go_wp2_with fail
    go_ret2
    exact ⟨rfl, rfl⟩

set_option maxHeartbeats 400000 in
theorem div_bad (v u : Value) (w : World) (h : Bad2 w v u) :
    Calls Tryz.prog 103 #[v, u] w fun e w' => e = .returned (.tuple #[.slice none 0 0, .slice none 0 0, .int .i64 1]) ∧ w = w' := by
  obtain ⟨xs, ys, h1, h2, hb⟩ := h
  have R1 := Lib.hid (right_sl h1)
  have R2 := Lib.hid (right_sl h2)
  cases hx : rightB xs
  · have Hx := Lib.hid hx
    clear h1 h2 hb hx
    go_enter Tryz.func103, Tryz.ntmps103
    go_wp2_with fail
    refine R1.out.mono ?_
    rintro e w' ⟨rfl, rfl⟩
    rw [Hx.out]
    go_wp2_with fail
    go_ret3
    exact ⟨rfl, rfl⟩
  · have hy : rightB ys = false := by simpa [hx] using hb
    have Hx := Lib.hid hx
    have Hy := Lib.hid hy
    clear h1 h2 hb hx hy
    go_enter Tryz.func103, Tryz.ntmps103
    go_wp2_with fail
    refine R1.out.mono ?_
    rintro e w' ⟨rfl, rfl⟩
    rw [Hx.out]
    go_wp2_with fail
    refine R2.out.mono ?_
    rintro e w' ⟨rfl, rfl⟩
    rw [Hy.out]
    go_wp2_with fail
    go_ret3
    exact ⟨rfl, rfl⟩
end Go.Proofs.YtkafkcmhekgheaaGreatDoor.Q

namespace Go.Proofs.YtkafkcmhekgheaaGreatDoor.Q
open Go.RowKit NM

theorem wrap_below {x : Int} (h0 : -18446744073709551616 ≤ x) (h1 : x < 0) : IntKind.u64.wrap x = x + 18446744073709551616 := by
  simp only [IntKind.wrap, IntKind.signed, IntKind.bits]
  simp
  omega

end Go.Proofs.YtkafkcmhekgheaaGreatDoor.Q

namespace Go.Proofs.YtkafkcmhekgheaaGreatDoor.Q
open Go.RowKit NM

theorem val_drop {xs : List Int} {k : Nat} (hk : k < xs.length) : val (xs.drop k) = lb xs k + 4294967296 * val (xs.drop (k + 1)) := by
  rw [List.drop_eq_getElem_cons hk, val, lb_eq hk]
theorem drop_set {zs : List Int} {k : Nat} (d : Int) (hk : k < zs.length) : (zs.set k d).drop k = d :: zs.drop (k + 1) := by
  rw [List.drop_eq_getElem_cons (by simpa using hk), List.getElem_set_self]
  congr 1
  rw [List.drop_set_of_lt (by omega)]

theorem or_u64 {a x : Int} (h0 : 0 ≤ a) (h1 : a < 4294967296) (x0 : 0 ≤ x) (x1 : x < 4294967296) : bits .or .u64 (a * 4294967296) x = a * 4294967296 + x := by
  refine bits_join .u64 64 (by decide) ?_ 32 _ _ (by omega) (by omega) (by omega) x0 (by omega) (by omega)
  intro n n0 n1
  simp only [IntKind.wrap, IntKind.signed, IntKind.bits]
  simp
  omega
theorem wrap_in {x : Int} (h0 : 0 ≤ x) (h1 : x < 18446744073709551616) : IntKind.u64.wrap x = x := by
  simp only [IntKind.wrap, IntKind.signed, IntKind.bits]
  simp
  omega
/-- One limb of a quotient. -/
theorem quo_step {a x d : Int} (h0 : 0 ≤ a) (h1 : a < d) (x0 : 0 ≤ x) (x1 : x < 4294967296) : 0 ≤ (a * 4294967296 + x) / d ∧ (a * 4294967296 + x) / d < 4294967296 ∧ 0 ≤ (a * 4294967296 + x) % d ∧ (a * 4294967296 + x) % d < d := by
  refine ⟨Int.ediv_nonneg (by omega) (by omega), ?_, Int.emod_nonneg _ (by omega), Int.emod_lt_of_pos _ (by omega)⟩
  apply Int.ediv_lt_of_lt_mul (by omega)
  have : (a + 1) * 4294967296 ≤ d * 4294967296 := by omega
  omega

set_option maxHeartbeats 2000000 in
set_option maxRecDepth 100000 in
theorem short_new (v : Value) (N d : Int) (w : World) (h1 : Num w v N) (hd0 : 0 < d) (hd1 : d < 4294967296) :
    Calls Tryz.prog 110 #[v, .int .u32 d] w fun e w' => (∃ r, e = .returned (.tuple #[r, .int .u32 (N % d)]) ∧ Num w' r (N / d) ∧ r.ownBlock = some w.heap.size ∧ w.heap.size < w'.heap.size) ∧ Below w.heap.size w w' := by
  obtain ⟨xs, ⟨ao, ca, rfl, hca, ra, ux, _⟩, rx, hvx⟩ := h1
  obtain ⟨cx, lx⟩ := rightB_canon ux rx
  obtain ⟨n, hn⟩ : ∃ n, n = xs.length := ⟨_, rfl⟩
  rw [← hn] at lx ⊢
  have Hn := Lib.hid hn
  have Hvx := Lib.hid hvx
  clear hn hvx rx
  have hmk : ∀ wx, (Instr.makeSlice 47 (.int .i64 (n : Int)) (.int .i64 (n : Int))).run Tryz.prog wx = .ok (.slice (some ⟨wx.heap.size, 0, none⟩) n n) (wx.alloc (.cells (arr (List.replicate n 0)) 54)) := make_nat n (by omega)
  go_enter Tryz.func110, Tryz.ntmps110
  go_wp2_with fail
  go_loopw [7, 8] (fun c i wr => ∃ k : Nat, ∃ zs : List Int, ∃ c0 : Int, k ≤ n ∧ i = .int .i64 ((k : Int) - 1) ∧ c = .int .u64 c0 ∧ 0 ≤ c0 ∧ c0 < d ∧ zs.length = n ∧ U32s zs ∧ Hid (val (xs.drop k) = d * val (zs.drop k) + c0) ∧ wr = w.alloc (.cells (arr zs) 54)) (fun _ i _ => (intOf i + 1).toNat)
  case atStart => exact ⟨n, List.replicate n 0, 0, Nat.le_refl _, rfl, rfl, by omega, by omega, by simp, U32s_replicate _, Lib.hid (by rw [List.drop_of_length_le (by rw [← Hn.out]; omega), List.drop_of_length_le (by simp)]; simp [val]), rfl⟩
  case round =>
    obtain ⟨k, zs, c0, hk, rfl, rfl, hc0, hc1, hz, uz, hv, rfl⟩ := hrel
    cases k with
    | zero =>
      have h1 := hv.out
      simp only [List.drop_zero] at h1
      rw [Hvx.out] at h1
      have hdv : val zs = N / d := by
        rw [h1, Int.mul_add_ediv_left _ _ (by omega), Int.ediv_eq_zero_of_lt hc0 hc1, Int.add_zero]
      have hmd : c0 = N % d := by
        rw [h1, Int.mul_add_emod_self_left, Int.emod_eq_of_lt hc0 hc1]
      have hsm : tl zs zs.length ≤ 16 := by have := tl_le zs zs.length; omega
      have hnum := trimmed_num (arr_row w zs 54) uz (cap := n) (by omega) hsm
      rw [hdv, hz] at hnum
      have Hnum := Lib.hid hnum
      have htr := trim_any (some ⟨w.heap.size, 0, none⟩) n zs (w.alloc (.cells (arr zs) 54)) (arr_row _ _ _) (by omega) (by omega)
      rw [hz] at htr
      have Htr := Lib.hid htr
      have Hmd := Lib.hid hmd
      clear hnum htr hdv h1 hmd hsm
      go_wp2_with fail
      refine Htr.out.mono ?_
      rintro e w2 ⟨rfl, rfl⟩
      go_wp2_with fail
      go_ret2
      exact ⟨⟨_, congrArg (fun y => Ending.returned (Value.tuple #[Value.slice (some ⟨w.heap.size, 0, none⟩) (tl zs n) n, Value.int .u32 y])) Hmd.out, Hnum.out, rfl, by simp⟩, (Below.refl _ _).alloc (Nat.le_refl _) _⟩
    | succ k =>
      have e1 : ((k + 1 : Nat) : Int) - 1 = k := by omega
      rw [e1]
      clear e1
      have hzk := arr_at zs k (by omega)
      obtain ⟨b, off, rfl, hbs, hc⟩ := ra.cells (by rw [← Hn.out]; omega)
      have hck := hc k (by rw [← Hn.out]; omega)
      obtain ⟨x0, x1⟩ := lb_range ux k
      obtain ⟨q0, q1, r0, r1⟩ := quo_step hc0 hc1 x0 x1
      have hor := or_u64 hc0 (by omega) x0 x1
      obtain ⟨T, hT⟩ : ∃ T, c0 * 4294967296 + lb xs k = T := ⟨_, rfl⟩
      have T0 : 0 ≤ T := by omega
      rw [hT] at q0 q1 r0 r1 hor
      have HT := Lib.hid hT
      have Hc := Lib.hid hc
      have htd : T.tdiv d = T / d := Int.tdiv_eq_ediv_of_nonneg T0
      have hwr : IntKind.u64.wrap (T / d) = T / d := wrap_in q0 (by omega)
      have hmd : (T / d) % 4294967296 = T / d := Int.emod_eq_of_lt q0 q1
      clear hc hT
      go_wp2_with fail
      go_roundw
      case rel =>
        refine ⟨k, zs.set k (T / d), _, by omega, by go_num, rfl, r0, r1, by simpa using hz, U32s_set uz _ q0 q1, Lib.hid ?_, by rw [arr_set]⟩
        rw [val_drop (by rw [← Hn.out]; omega), drop_set _ (by omega), val, hv.out]
        have h3 := Int.mul_ediv_add_emod T d
        have h4 := HT.out
        have h5 : d * (T / d + 4294967296 * val (zs.drop (k + 1))) = d * (T / d) + 4294967296 * (d * val (zs.drop (k + 1))) := by
          rw [Int.mul_add, ← Int.mul_assoc, ← Int.mul_assoc, Int.mul_comm d 4294967296]
        omega
      case measure => simp [intOf]

theorem short_num (v : Value) (N d : Int) (w : World) (h1 : Num w v N) (hd0 : 0 < d) (hd1 : d < 4294967296) :
    Calls Tryz.prog 110 #[v, .int .u32 d] w fun e w' => (∃ r, e = .returned (.tuple #[r, .int .u32 (N % d)]) ∧ Num w' r (N / d)) ∧ Below w.heap.size w w' := by
  refine (short_new v N d w h1 hd0 hd1).mono ?_
  rintro e w' ⟨⟨r, he, hn, _, _⟩, hb⟩
  exact ⟨⟨r, he, hn⟩, hb⟩

set_option maxHeartbeats 400000 in
set_option maxRecDepth 100000 in
theorem of_num (x : Int) (w : World) (x0 : 0 ≤ x) (x1 : x < 18446744073709551616) :
    Calls Tryz.prog 57 #[.int .u64 x] w fun e w' => (∃ r, e = .returned r ∧ Num w' r x) ∧ Below w.heap.size w w' := by
  have a0 : 0 ≤ x / 4294967296 := by omega
  have a1 : x / 4294967296 < 4294967296 := by omega
  have b0 : 0 ≤ x % 4294967296 := by omega
  have b1 : x % 4294967296 < 4294967296 := by omega
  have hu : U32s [x % 4294967296, x / 4294967296] := by
    intro y hy
    simp at hy
    omega
  have hv : val [x % 4294967296, x / 4294967296] = x := by simp [val]; omega
  have hrow := arr_row w [x % 4294967296, x / 4294967296] 54
  have hsm : tl [x % 4294967296, x / 4294967296] 2 ≤ 16 := by have := tl_le [x % 4294967296, x / 4294967296] 2; omega
  have hnum := trimmed_num hrow hu (cap := 2) (Nat.le_refl _) hsm
  rw [hv] at hnum
  have htr := trim_any (some ⟨w.heap.size, 0, none⟩) 2 [x % 4294967296, x / 4294967296] _ hrow (by simp) (Nat.le_refl _)
  have Hnum := Lib.hid hnum
  have Htr := Lib.hid htr
  clear hnum htr hsm hrow hv hu a0 a1 b0 b1
  go_enter Tryz.func57, Tryz.ntmps57
  go_wp2_with fail
  refine Htr.out.mono ?_
  rintro e w' ⟨rfl, rfl⟩
  go_wp2_with fail
  go_ret
  exact ⟨⟨_, rfl, Hnum.out⟩, (Below.refl _ _).alloc (Nat.le_refl _) _⟩
end Go.Proofs.YtkafkcmhekgheaaGreatDoor.Q

namespace Go.Proofs.YtkafkcmhekgheaaGreatDoor.Q
open Go.RowKit NM

theorem pow_pos2 (n : Nat) : (0 : Int) < 2 ^ n := Int.pow_pos (by omega)
theorem pow_split {b : Nat} (h : b ≤ 32) : (2 : Int) ^ b * 2 ^ (32 - b) = 4294967296 := by
  rw [← Int.pow_add, show b + (32 - b) = 32 by omega]
  rfl
theorem pow_le {a b : Nat} (h : a ≤ b) : (2 : Int) ^ a ≤ 2 ^ b := by
  obtain ⟨d, rfl⟩ := Nat.exists_eq_add_of_le h
  rw [Int.pow_add]
  have h1 := pow_pos2 a
  have h2 := pow_pos2 d
  have : (2 : Int) ^ a * 1 ≤ 2 ^ a * 2 ^ d := Int.mul_le_mul_of_nonneg_left (by omega) (by omega)
  omega
theorem bits_or_comm (k : IntKind) (x y : Int) : bits .or k x y = bits .or k y x := by
  simp [bits, BitVec.or_comm]

/-- A limb shifted up: what stays in its place, and what goes to the next. -/
theorem up_step {b : Nat} (hb : b ≤ 31) {x z : Int} (x0 : 0 ≤ x) (x1 : x < 4294967296) (z0 : 0 ≤ z) (z1 : z < 2 ^ b) :
    0 ≤ x * 2 ^ b ∧ x * 2 ^ b < 18446744073709551616 ∧ x * 2 ^ b / 4294967296 < 2 ^ b ∧ (2 : Int) ^ b ≤ 2147483648 ∧
    bits .or .u32 z (x * 2 ^ b % 4294967296) = z + x * 2 ^ b % 4294967296 ∧ z + x * 2 ^ b % 4294967296 < 4294967296 := by
  have hP := pow_pos2 b
  have hP2 := pow_le hb
  have hP3 : (2 : Int) ^ 31 = 2147483648 := rfl
  have hQ := pow_pos2 (32 - b)
  have hs := pow_split (show b ≤ 32 by omega)
  have h1 : x * 2 ^ b ≤ 4294967295 * 2 ^ b := Int.mul_le_mul_of_nonneg_right (by omega) (by omega)
  have hm : x * 2 ^ b % 4294967296 = 2 ^ b * (x % 2 ^ (32 - b)) := by
    rw [← hs, Int.mul_comm x, Int.mul_emod_mul_of_pos _ _ hP]
  have h2 : x % 2 ^ (32 - b) + 1 ≤ 2 ^ (32 - b) := by
    have := Int.emod_lt_of_pos x hQ
    omega
  have h3 := Int.mul_le_mul_of_nonneg_left h2 (show (0 : Int) ≤ 2 ^ b by omega)
  rw [hs, Int.mul_add, ← hm] at h3
  have h4 : 0 ≤ x * 2 ^ b := Int.mul_nonneg x0 (by omega)
  refine ⟨h4, by omega, by omega, by omega, ?_, by omega⟩
  rw [bits_or_comm, bits_join .u32 32 (by decide) ?_ b _ _ (by omega) ?_ (by omega) z0 (by omega) (by omega)]
  · omega
  · intro n n0 n1
    rw [IntKind.wrap_u32]
    omega
  · rw [hm]
    exact Int.mul_emod_right _ _

set_option maxHeartbeats 2000000 in
set_option maxRecDepth 100000 in
theorem up_any (ao : Option Addr) (ca : Nat) (xs : List Int) (by' : Nat) (w : World) (ra : Row w ao xs) (ux : U32s xs) (lx : xs.length ≤ 33) (hby : by' ≤ 31) :
    Calls Tryz.prog 114 #[.slice ao xs.length ca, .int .i64 by'] w fun e w' => ∃ zs : List Int, e = .returned (.slice (some ⟨w.heap.size, 0, none⟩) (xs.length + 1) (xs.length + 1)) ∧ zs.length = xs.length + 1 ∧ U32s zs ∧ val zs = val xs * 2 ^ by' ∧ w' = w.alloc (.cells (arr zs) 54) := by
  obtain ⟨n, hn⟩ : ∃ n, n = xs.length := ⟨_, rfl⟩
  rw [← hn] at lx ⊢
  have Hn := Lib.hid hn
  clear hn
  have hmk : ∀ wx, (Instr.makeSlice 47 (.int .i64 ((n : Int) + 1)) (.int .i64 ((n : Int) + 1))).run Tryz.prog wx = .ok (.slice (some ⟨wx.heap.size, 0, none⟩) (n + 1) (n + 1)) (wx.alloc (.cells (arr (List.replicate (n + 1) 0)) 54)) := make_nat (n + 1) (by omega)
  go_enter Tryz.func114, Tryz.ntmps114
  go_wp2_with fail
  go_loopw [15] (fun i wr => ∃ k : Nat, ∃ zs : List Int, k ≤ n ∧ i = .int .i64 k ∧ zs.length = n + 1 ∧ U32s zs ∧ Hid (val zs = val (xs.take k) * 2 ^ by') ∧ Hid (lb zs k < 2 ^ by' ∧ ∀ j, k < j → lb zs j = 0) ∧ wr = w.alloc (.cells (arr zs) 54)) (fun i _ => n - (intOf i).toNat)
  case atStart => exact ⟨0, List.replicate (n + 1) 0, Nat.zero_le _, rfl, by simp, U32s_replicate _, Lib.hid (by rw [val_replicate]; simp [val]), Lib.hid ⟨by rw [lb_replicate]; exact Int.pow_pos (by omega), fun j _ => lb_replicate _ _⟩, rfl⟩
  case round =>
    obtain ⟨k, zs, hk, rfl, hz, uz, hv, hs, rfl⟩ := hrel
    by_cases hkn : k < n
    · have hzk := arr_at zs k (by omega)
      have hzk1 := arr_at zs (k + 1) (by omega)
      obtain ⟨b, off, rfl, hbs, hc⟩ := ra.cells (by rw [← Hn.out]; omega)
      have hck := hc k (by rw [← Hn.out]; omega)
      obtain ⟨x0, x1⟩ := lb_range ux k
      obtain ⟨z0, z1⟩ := lb_range uz k
      obtain ⟨s0, s1⟩ := hs.out
      obtain ⟨w0, w1, w2, p1, hor, w3⟩ := up_step hby x0 x1 z0 s0
      have hww := wrap_in w0 w1
      obtain ⟨W, hW⟩ : ∃ W, lb xs k * 2 ^ by' = W := ⟨_, rfl⟩
      rw [hW] at w0 w1 w2 hor w3 hww
      have hww' : IntKind.u64.wrap (lb xs k * 2 ^ by') = W := by rw [hW]; exact hww
      have HW := Lib.hid hW
      have Hc := Lib.hid hc
      have W4 : W / 4294967296 < 4294967296 := by omega
      have W5 : 0 ≤ W / 4294967296 := by omega
      have W6 := Lib.hid w2
      have W7 := Lib.hid w3
      have W8 := Lib.hid p1
      have S1 := Lib.hid s1
      clear hc hW w2 w1 hww s0 s1 w3 p1
      go_wp2_with fail
      go_roundw
      case rel =>
        have w6 := W6.out
        have w7 := W7.out
        refine ⟨k + 1, (zs.set k (lb zs k + W % 4294967296)).set (k + 1) (W / 4294967296), by omega, by go_num, by simpa using hz, U32s_set (U32s_set uz _ (by omega) w7) _ W5 W4, Lib.hid ?_, Lib.hid ⟨?_, ?_⟩, by rw [arr_set, arr_set]⟩
        · rw [val_set _ _ _ (by simp; omega), lb_set_ne (by omega), S1.out (k + 1) (by omega), Int.sub_zero, val_set _ _ _ (by omega), hv.out, val_step (by rw [← Hn.out]; omega), Int.add_mul, Int.mul_assoc, HW.out, pw_succ', Int.mul_assoc, Int.add_assoc, ← Int.mul_add]
          congr 2
          omega
        · rw [lb_set_eq (by simp; omega)]
          exact w6
        · intro j hj
          rw [lb_set_ne (by omega), lb_set_ne (by omega)]
          exact S1.out j (by omega)
      case measure => simp [intOf]; omega
    · have : k = n := by omega
      subst this
      have H := Lib.hid (show val zs = val xs * 2 ^ by' by rw [hv.out, val_take_all (by rw [← Hn.out]; omega)])
      go_wp2_with fail
      go_ret
      exact ⟨zs, rfl, hz, uz, H.out, rfl⟩
end Go.Proofs.YtkafkcmhekgheaaGreatDoor.Q

namespace Go.Proofs.YtkafkcmhekgheaaGreatDoor.Q
open Go.RowKit NM

/-- A limb shifted down: what stays in its place, and what goes to the one before. -/
theorem down_step {b : Nat} (hb : b ≤ 31) {x z : Int} (x0 : 0 ≤ x) (x1 : x < 4294967296) (z0 : 0 ≤ z) (z1 : z < 2 ^ (32 - b)) :
    0 ≤ x * 2 ^ (32 - b) ∧ x * 2 ^ (32 - b) < 18446744073709551616 ∧ x * 2 ^ (32 - b) / 4294967296 = x / 2 ^ b ∧ x * 2 ^ (32 - b) % 4294967296 = x % 2 ^ b * 2 ^ (32 - b) ∧
    x / 2 ^ b < 2 ^ (32 - b) ∧ (2 : Int) ^ (32 - b) ≤ 4294967296 ∧
    bits .or .u32 z (x * 2 ^ (32 - b) % 4294967296) = z + x * 2 ^ (32 - b) % 4294967296 ∧ z + x * 2 ^ (32 - b) % 4294967296 < 4294967296 := by
  have hP := pow_pos2 b
  have hQ := pow_pos2 (32 - b)
  have hQ2 := pow_le (show 32 - b ≤ 32 by omega)
  have hQ3 : (2 : Int) ^ 32 = 4294967296 := rfl
  have hs := pow_split (show b ≤ 32 by omega)
  have hs' : (2 : Int) ^ (32 - b) * 2 ^ b = 4294967296 := by rw [Int.mul_comm]; exact hs
  have h1 : x * 2 ^ (32 - b) ≤ 4294967295 * 2 ^ (32 - b) := Int.mul_le_mul_of_nonneg_right (by omega) (by omega)
  have h4 : 0 ≤ x * 2 ^ (32 - b) := Int.mul_nonneg x0 (by omega)
  have hd : x * 2 ^ (32 - b) / 4294967296 = x / 2 ^ b := by
    rw [← hs, Int.mul_ediv_mul_of_pos_left _ _ hQ]
  have hm : x * 2 ^ (32 - b) % 4294967296 = x % 2 ^ b * 2 ^ (32 - b) := by
    rw [← hs', Int.mul_comm x, Int.mul_emod_mul_of_pos _ _ hQ, Int.mul_comm]
  have hx : x / 2 ^ b < 2 ^ (32 - b) := by
    apply Int.ediv_lt_of_lt_mul hP
    rw [hs']; exact x1
  have h2 : x % 2 ^ b + 1 ≤ 2 ^ b := by
    have := Int.emod_lt_of_pos x hP
    omega
  have h3 := Int.mul_le_mul_of_nonneg_right h2 (show (0 : Int) ≤ 2 ^ (32 - b) by omega)
  rw [hs, Int.add_mul, ← hm] at h3
  refine ⟨h4, by omega, hd, hm, hx, by omega, ?_, by omega⟩
  rw [bits_or_comm, bits_join .u32 32 (by decide) ?_ (32 - b) _ _ (by omega) ?_ (by omega) z0 (by omega) (by omega)]
  · omega
  · intro n n0 n1
    rw [IntKind.wrap_u32]
    omega
  · rw [hm]
    exact Int.mul_emod_left _ _

/-- A number with one limb more, divided by a small power of two. -/
theorem down_val {V x : Int} {b k : Nat} (hb : b ≤ 31) : (V + pw (k + 1) * x) / 2 ^ b = V / 2 ^ b + pw (k + 1) * (x / 2 ^ b) + pw k * (x % 2 ^ b * 2 ^ (32 - b)) := by
  have hP := pow_pos2 b
  have hs := pow_split (show b ≤ 32 by omega)
  have e : pw (k + 1) * x = 2 ^ b * (pw k * (2 ^ (32 - b) * x)) := by
    rw [pw_succ', ← hs]
    ac_rfl
  rw [e, Int.add_mul_ediv_left _ _ (by omega)]
  have h2 := Int.mul_ediv_add_emod x (2 ^ b)
  have e2 : pw k * (2 ^ (32 - b) * x) = pw (k + 1) * (x / 2 ^ b) + pw k * (x % 2 ^ b * 2 ^ (32 - b)) := by
    have e3 : pw (k + 1) * (x / 2 ^ b) = pw k * (2 ^ (32 - b) * (2 ^ b * (x / 2 ^ b))) := by
      rw [pw_succ', ← hs]
      ac_rfl
    rw [e3, Int.mul_comm (x % 2 ^ b), ← Int.mul_add, ← Int.mul_add, h2]
  rw [e2]
  omega

set_option maxHeartbeats 2000000 in
set_option maxRecDepth 100000 in
theorem down_any (ao : Option Addr) (ca : Nat) (xs : List Int) (by' : Nat) (w : World) (ra : Row w ao xs) (ux : U32s xs) (lx : xs.length ≤ 33) (hby : by' ≤ 31) (hsmall : val xs / 2 ^ by' < pw 16) :
    Calls Tryz.prog 118 #[.slice ao xs.length ca, .int .i64 by'] w fun e w' => (∃ r, e = .returned r ∧ Num w' r (val xs / 2 ^ by')) ∧ Below w.heap.size w w' := by
  obtain ⟨n, hn⟩ : ∃ n, n = xs.length := ⟨_, rfl⟩
  rw [← hn] at lx ⊢
  have Hn := Lib.hid hn
  have Hsm := Lib.hid hsmall
  clear hn hsmall
  have hmk : ∀ wx, (Instr.makeSlice 47 (.int .i64 (n : Int)) (.int .i64 (n : Int))).run Tryz.prog wx = .ok (.slice (some ⟨wx.heap.size, 0, none⟩) n n) (wx.alloc (.cells (arr (List.replicate n 0)) 54)) := make_nat n (by omega)
  go_enter Tryz.func118, Tryz.ntmps118
  go_wp2_with fail
  go_loopw [14] (fun i wr => ∃ k : Nat, ∃ zs : List Int, k ≤ n ∧ i = .int .i64 k ∧ zs.length = n ∧ U32s zs ∧ Hid (val zs = val (xs.take k) / 2 ^ by') ∧ Hid ((0 < k → lb zs (k - 1) < 2 ^ (32 - by')) ∧ ∀ j, k ≤ j → lb zs j = 0) ∧ wr = w.alloc (.cells (arr zs) 54)) (fun i _ => n - (intOf i).toNat)
  case atStart => exact ⟨0, List.replicate n 0, Nat.zero_le _, rfl, by simp, U32s_replicate _, Lib.hid (by rw [val_replicate]; simp [val]), Lib.hid ⟨fun h => absurd h (Nat.lt_irrefl _), fun j _ => lb_replicate _ _⟩, rfl⟩
  case round =>
    obtain ⟨k, zs, hk, rfl, hz, uz, hv, hs, rfl⟩ := hrel
    by_cases hkn : k < n
    · obtain ⟨b, off, rfl, hbs, hc⟩ := ra.cells (by rw [← Hn.out]; omega)
      have hck := hc k (by rw [← Hn.out]; omega)
      obtain ⟨x0, x1⟩ := lb_range ux k
      have hkx : k < xs.length := by rw [← Hn.out]; exact hkn
      have Hkx := Lib.hid hkx
      have Hc := Lib.hid hc
      clear hc hkx
      cases k with
      | zero =>
        rw [Nat.add_zero] at hck
        have hzk := arr_at zs 0 (by omega)
        obtain ⟨w0, w1, w2, w2', w3, p1, -, -⟩ := down_step hby x0 x1 (z := 0) (by omega) (pow_pos2 _)
        have hww := wrap_in w0 w1
        obtain ⟨W, hW⟩ : ∃ W, lb xs 0 * 2 ^ (32 - by') = W := ⟨_, rfl⟩
        rw [hW] at w0 w1 w2 hww
        have hww' : IntKind.u64.wrap (lb xs 0 * 2 ^ (32 - by')) = W := by rw [hW]; exact hww
        have W4 : W / 4294967296 < 4294967296 := by omega
        have W5 : 0 ≤ W / 4294967296 := by omega
        have W2 := Lib.hid w2
        have W3 := Lib.hid w3
        clear hW w2 w2' w1 hww w3 p1
        go_wp2_with fail
        go_roundw
        case rel =>
          refine ⟨1, zs.set 0 (W / 4294967296), by omega, by go_num, by simpa using hz, U32s_set uz _ W5 W4, Lib.hid ?_, Lib.hid ⟨fun _ => ?_, ?_⟩, by rw [arr_set]⟩
          · rw [val_set _ _ _ (by omega), hs.out.2 0 (by omega), hv.out, show (1 : Nat) = 0 + 1 from rfl, val_step Hkx.out, W2.out]
            simp [val, pw]
          · rw [lb_set_eq (by omega), W2.out]; exact W3.out
          · intro j hj
            rw [lb_set_ne (by omega)]
            exact hs.out.2 j (by omega)
        case measure => simp [intOf]; omega
      | succ k =>
        have hz1 : ∀ v, ((arr zs).setIfInBounds (k + 1) v)[k]? = some (.int .u32 (lb zs k)) := fun v => by
          rw [Array.getElem?_setIfInBounds_ne (by omega)]
          exact arr_at zs k (by omega)
        have hzk := arr_at zs (k + 1) (by omega)
        obtain ⟨z0, z1⟩ := lb_range uz k
        have s0 := hs.out.1 (by omega)
        rw [Nat.add_sub_cancel] at s0
        obtain ⟨w0, w1, w2, w2', w3, p1, hor, w4⟩ := down_step hby x0 x1 z0 s0
        have hww := wrap_in w0 w1
        obtain ⟨W, hW⟩ : ∃ W, lb xs (k + 1) * 2 ^ (32 - by') = W := ⟨_, rfl⟩
        rw [hW] at w0 w1 w2 w2' hor w4 hww
        have hww' : IntKind.u64.wrap (lb xs (k + 1) * 2 ^ (32 - by')) = W := by rw [hW]; exact hww
        have W4 : W / 4294967296 < 4294967296 := by omega
        have W5 : 0 ≤ W / 4294967296 := by omega
        have W2 := Lib.hid w2
        have W2' := Lib.hid w2'
        have W3 := Lib.hid w3
        have W6 := Lib.hid w4
        have S1 := Lib.hid hs.out.2
        clear hW w2 w2' w1 hww w3 p1 s0 w4
        go_wp2_with fail
        go_roundw
        case rel =>
          have w6 := W6.out
          refine ⟨k + 2, (zs.set (k + 1) (W / 4294967296)).set k (lb zs k + W % 4294967296), by omega, by go_num, by simpa using hz, U32s_set (U32s_set uz _ W5 W4) _ (by omega) w6, Lib.hid ?_, Lib.hid ⟨fun _ => ?_, ?_⟩, by rw [arr_set, arr_set]⟩
          · rw [val_set _ _ _ (by simp; omega), lb_set_ne (by omega), val_set _ _ _ (by omega), S1.out (k + 1) (by omega), hv.out, show k + 2 = (k + 1) + 1 from rfl, val_step Hkx.out, down_val hby, W2.out, W2'.out, Int.sub_zero]
            congr 2
            omega
          · rw [show k + 2 - 1 = k + 1 from rfl, lb_set_ne (by omega), lb_set_eq (by omega), W2.out]; exact W3.out
          · intro j hj
            rw [lb_set_ne (by omega), lb_set_ne (by omega)]
            exact S1.out j (by omega)
        case measure => simp [intOf]; omega
    · have : k = n := by omega
      subst this
      have hvv : val zs = val xs / 2 ^ by' := by rw [hv.out, val_take_all (by rw [← Hn.out]; omega)]
      have hnum := trimmed_num (arr_row w zs 54) uz (cap := k) (by omega) ((tl_small uz).2 (by rw [hvv]; exact Hsm.out))
      rw [hvv, hz] at hnum
      have Hnum := Lib.hid hnum
      have htr := trim_any (some ⟨w.heap.size, 0, none⟩) k zs (w.alloc (.cells (arr zs) 54)) (arr_row _ _ _) (by omega) (by omega)
      rw [hz] at htr
      have Htr := Lib.hid htr
      clear hnum htr hvv
      go_wp2_with fail
      refine Htr.out.mono ?_
      rintro e w2 ⟨rfl, rfl⟩
      go_wp2_with fail
      go_ret
      exact ⟨⟨_, rfl, Hnum.out⟩, (Below.refl _ _).alloc (Nat.le_refl _) _⟩
end Go.Proofs.YtkafkcmhekgheaaGreatDoor.Q

