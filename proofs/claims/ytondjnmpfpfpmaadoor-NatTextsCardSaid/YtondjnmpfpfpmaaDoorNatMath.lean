/-
  Numbers of limbs to the base 2^32, as lists of integers, the least limb first. Plain mathematics: no Go in sight.
-/
namespace NM

/-- 2^32 as often as k says. -/
def pw : Nat → Int
  | 0 => 1
  | k + 1 => 4294967296 * pw k

/-- What a list of limbs stands for. -/
def val : List Int → Int
  | [] => 0
  | d :: ds => d + 4294967296 * val ds

def U32s (xs : List Int) : Prop := ∀ x ∈ xs, 0 ≤ x ∧ x < 4294967296

theorem pw_pos (k : Nat) : 0 < pw k := by
  induction k with
  | zero => simp [pw]
  | succ k ih => simp only [pw]; omega

theorem pw_add (j k : Nat) : pw (j + k) = pw j * pw k := by
  induction j with
  | zero => simp [pw]
  | succ j ih => rw [Nat.succ_add]; simp only [pw, ih, Int.mul_assoc]

theorem pw_succ' (k : Nat) : pw (k + 1) = pw k * 4294967296 := by simp only [pw]; omega

theorem pw_mono {j k : Nat} (h : j ≤ k) : pw j ≤ pw k := by
  obtain ⟨d, rfl⟩ := Nat.exists_eq_add_of_le h
  rw [pw_add]
  have h1 := pw_pos j
  have h2 := pw_pos d
  have : pw j * 1 ≤ pw j * pw d := Int.mul_le_mul_of_nonneg_left (by omega) (by omega)
  omega

theorem val_append (xs ys : List Int) : val (xs ++ ys) = val xs + pw xs.length * val ys := by
  induction xs with
  | nil => simp [val, pw]
  | cons x xs ih =>
    simp only [List.cons_append, val, ih, List.length_cons, pw, Int.mul_add, Int.mul_assoc]
    omega

theorem val_snoc (xs : List Int) (x : Int) : val (xs ++ [x]) = val xs + pw xs.length * x := by
  rw [val_append]; simp [val]

theorem U32s_nil : U32s [] := by intro x h; cases h

theorem U32s_append {xs ys : List Int} (h1 : U32s xs) (h2 : U32s ys) : U32s (xs ++ ys) := by
  intro x h
  rcases List.mem_append.1 h with h | h
  · exact h1 x h
  · exact h2 x h

theorem U32s_one {x : Int} (h0 : 0 ≤ x) (h1 : x < 4294967296) : U32s [x] := by
  intro y h; simp at h; omega

theorem U32s_take {xs : List Int} (h : U32s xs) (k : Nat) : U32s (xs.take k) := fun x hx => h x (List.mem_of_mem_take hx)
theorem U32s_drop {xs : List Int} (h : U32s xs) (k : Nat) : U32s (xs.drop k) := fun x hx => h x (List.mem_of_mem_drop hx)
theorem U32s_cons {x : Int} {xs : List Int} (h : U32s (x :: xs)) : (0 ≤ x ∧ x < 4294967296) ∧ U32s xs :=
  ⟨h x (by simp), fun y hy => h y (by simp [hy])⟩

theorem val_nonneg {xs : List Int} (h : U32s xs) : 0 ≤ val xs := by
  induction xs with
  | nil => simp [val]
  | cons x xs ih =>
    have := U32s_cons h
    have := ih this.2
    simp only [val]; omega

theorem val_lt {xs : List Int} (h : U32s xs) : val xs < pw xs.length := by
  induction xs with
  | nil => simp [val, pw]
  | cons x xs ih =>
    have h1 := U32s_cons h
    have := ih h1.2
    simp only [val, List.length_cons, pw]; omega

theorem getElem_u32 {xs : List Int} (h : U32s xs) {k : Nat} (hk : k < xs.length) : 0 ≤ xs[k] ∧ xs[k] < 4294967296 := h _ (List.getElem_mem hk)

theorem take_succ {xs : List Int} {k : Nat} (hk : k < xs.length) : xs.take (k + 1) = xs.take k ++ [xs[k]] := by
  rw [List.take_succ_eq_append_getElem hk]

theorem val_take_succ {xs : List Int} {k : Nat} (hk : k < xs.length) : val (xs.take (k + 1)) = val (xs.take k) + pw k * xs[k] := by
  rw [take_succ hk, val_snoc, List.length_take, Nat.min_eq_left (by omega)]

theorem val_take_all {xs : List Int} {k : Nat} (hk : xs.length ≤ k) : val (xs.take k) = val xs := by rw [List.take_of_length_le hk]

theorem val_split (xs : List Int) (k : Nat) (hk : k ≤ xs.length) : val xs = val (xs.take k) + pw k * val (xs.drop k) := by
  have := val_append (xs.take k) (xs.drop k)
  rw [List.take_append_drop, List.length_take, Nat.min_eq_left hk] at this
  exact this

/-- The list behind a store at k. -/
theorem take_set_succ (xs : List Int) (k : Nat) (x : Int) (hk : k < xs.length) : (xs.set k x).take (k + 1) = xs.take k ++ [x] := by
  rw [List.take_succ_eq_append_getElem (by simpa using hk), List.take_set_of_le (by omega)]
  simp

/-- No 0 at the end. -/
def Ends (xs : List Int) : Prop := ∀ h : xs ≠ [], xs.getLast h ≠ 0

theorem Ends_nil : Ends [] := fun h => absurd rfl h

structure Canon (xs : List Int) : Prop where
  u : U32s xs
  e : Ends xs

theorem val_replicate (k : Nat) : val (List.replicate k 0) = 0 := by
  induction k with
  | zero => simp [val]
  | succ k ih => simp [List.replicate_succ, val, ih]

theorem val_ge_of_last {xs : List Int} (h : Canon xs) (hn : xs ≠ []) : pw (xs.length - 1) ≤ val xs := by
  have hs := List.dropLast_concat_getLast hn
  have hl : xs.dropLast.length = xs.length - 1 := by simp
  have hd : U32s xs.dropLast := fun x hx => h.u x (List.dropLast_subset xs hx)
  have h0 := h.e hn
  have h1 := h.u _ (List.getLast_mem hn)
  have h2 := val_nonneg hd
  have h3 := val_snoc xs.dropLast (xs.getLast hn)
  rw [hs, hl] at h3
  have h4 := pw_pos (xs.length - 1)
  have : pw (xs.length - 1) * 1 ≤ pw (xs.length - 1) * xs.getLast hn := Int.mul_le_mul_of_nonneg_left (by omega) (by omega)
  omega

theorem val_pos {xs : List Int} (h : Canon xs) (hn : xs ≠ []) : 0 < val xs := by
  have := val_ge_of_last h hn
  have := pw_pos (xs.length - 1)
  omega

theorem Canon_nil : Canon [] := ⟨U32s_nil, Ends_nil⟩

/-- The longer is the greater. -/
theorem val_lt_of_len {xs ys : List Int} (hx : U32s xs) (hy : Canon ys) (h : xs.length < ys.length) : val xs < val ys := by
  have h1 := val_lt hx
  have h2 := val_ge_of_last hy (by intro e; simp [e] at h)
  have h3 := pw_mono (show xs.length ≤ ys.length - 1 by omega)
  omega

theorem val_inj_len : ∀ {xs ys : List Int}, U32s xs → U32s ys → xs.length = ys.length → val xs = val ys → xs = ys
  | [], [], _, _, _, _ => rfl
  | x :: xs, y :: ys, hx, hy, hl, hv => by
    have h1 := U32s_cons hx
    have h2 := U32s_cons hy
    simp only [val] at hv
    have e1 : x = y := by omega
    have e2 : val xs = val ys := by omega
    rw [e1, val_inj_len h1.2 h2.2 (by simpa using hl) e2]
  | [], y :: ys, _, _, hl, _ => by simp at hl
  | x :: xs, [], _, _, hl, _ => by simp at hl

theorem Canon.inj {xs ys : List Int} (hx : Canon xs) (hy : Canon ys) (h : val xs = val ys) : xs = ys := by
  apply val_inj_len hx.u hy.u _ h
  rcases Nat.lt_trichotomy xs.length ys.length with hl | hl | hl
  · have := val_lt_of_len hx.u hy hl; omega
  · exact hl
  · have := val_lt_of_len hy.u hx hl; omega

/-- Limb i; 0 where there is none. A plain definition: no walk looks into it. -/
def lb (xs : List Int) (i : Nat) : Int := xs.getD i 0

theorem lb_eq {xs : List Int} {i : Nat} (h : i < xs.length) : lb xs i = xs[i] := by simp [lb, h]
theorem lb_none {xs : List Int} {i : Nat} (h : xs.length ≤ i) : lb xs i = 0 := by simp [lb, h]
theorem lb_range {xs : List Int} (h : U32s xs) (i : Nat) : 0 ≤ lb xs i ∧ lb xs i < 4294967296 := by
  by_cases hi : i < xs.length
  · rw [lb_eq hi]; exact h _ (List.getElem_mem hi)
  · rw [lb_none (by omega)]; omega
theorem val_step {xs : List Int} {k : Nat} (hk : k < xs.length) : val (xs.take (k + 1)) = val (xs.take k) + pw k * lb xs k := by
  rw [val_take_succ hk, lb_eq hk]
theorem lb_take {xs : List Int} {i k : Nat} (h : i < k) : lb (xs.take k) i = lb xs i := by
  simp [lb, h]
theorem lb_drop (xs : List Int) (i k : Nat) : lb (xs.drop k) i = lb xs (k + i) := by
  simp [lb]

/-- The place behind the last limb that is not 0, among the first k. -/
def tl (xs : List Int) : Nat → Nat
  | 0 => 0
  | k + 1 => if lb xs k = 0 then tl xs k else k + 1

theorem tl_le (xs : List Int) : ∀ k, tl xs k ≤ k
  | 0 => Nat.le_refl _
  | k + 1 => by
    rw [tl]
    split
    · have := tl_le xs k; omega
    · omega
theorem tl_val (xs : List Int) : ∀ k, k ≤ xs.length → val (xs.take (tl xs k)) = val (xs.take k)
  | 0, _ => rfl
  | k + 1, h => by
    rw [tl]
    split
    · rename_i h0
      rw [tl_val xs k (by omega), val_step (by omega), h0]
      omega
    · rfl
theorem tl_ends (xs : List Int) : ∀ k, tl xs k = 0 ∨ lb xs (tl xs k - 1) ≠ 0
  | 0 => .inl rfl
  | k + 1 => by
    rw [tl]
    split
    · exact tl_ends xs k
    · rename_i h; exact .inr h

theorem Ends_of {xs : List Int} (h : xs = [] ∨ lb xs (xs.length - 1) ≠ 0) : Ends xs := by
  intro hn
  rcases h with h | h
  · exact absurd h hn
  · rw [List.getLast_eq_getElem]
    rw [lb_eq (by have := List.length_pos_iff.2 hn; omega)] at h
    exact h
theorem Ends_lb {xs : List Int} (h : Ends xs) (hn : xs ≠ []) : lb xs (xs.length - 1) ≠ 0 := by
  have := h hn
  rw [List.getLast_eq_getElem] at this
  rw [lb_eq (by have := List.length_pos_iff.2 hn; omega)]
  exact this
theorem tl_canon {xs : List Int} (hu : U32s xs) : Canon (xs.take (tl xs xs.length)) := by
  refine ⟨U32s_take hu _, Ends_of ?_⟩
  have h1 := tl_le xs xs.length
  rcases tl_ends xs xs.length with h | h
  · exact .inl (by rw [h]; rfl)
  · by_cases h0 : tl xs xs.length = 0
    · exact .inl (by rw [h0]; rfl)
    · right
      rw [List.length_take, Nat.min_eq_left h1, lb_take (by omega)]
      exact h

/-- Right, as the program asks it. -/
def rightB (xs : List Int) : Bool := decide (xs.length ≤ 16 ∧ (xs.length = 0 ∨ lb xs (xs.length - 1) ≠ 0))
theorem rightB_iff {xs : List Int} : rightB xs = true ↔ xs.length ≤ 16 ∧ (xs = [] ∨ lb xs (xs.length - 1) ≠ 0) := by
  unfold rightB
  rw [decide_eq_true_iff, List.length_eq_zero_iff]
theorem rightB_canon {xs : List Int} (hu : U32s xs) (h : rightB xs = true) : Canon xs ∧ xs.length ≤ 16 := by
  rw [rightB_iff] at h
  exact ⟨⟨hu, Ends_of h.2⟩, h.1⟩
theorem canon_rightB {xs : List Int} (h : Canon xs) (hl : xs.length ≤ 16) : rightB xs = true := by
  rw [rightB_iff]
  refine ⟨hl, ?_⟩
  by_cases hn : xs = []
  · exact .inl hn
  · exact .inr (Ends_lb h.e hn)

/-- How two numbers compare: -1, 0, 1. -/
def sgn (a b : Int) : Int := if a < b then -1 else if b < a then 1 else 0

theorem sgn_len {xs ys : List Int} (hx : Canon xs) (hy : Canon ys) (h : xs.length < ys.length) : sgn (val xs) (val ys) = -1 := by
  rw [sgn, if_pos (val_lt_of_len hx.u hy h)]
theorem sgn_len' {xs ys : List Int} (hx : Canon xs) (hy : Canon ys) (h : ys.length < xs.length) : sgn (val xs) (val ys) = 1 := by
  have := val_lt_of_len hy.u hx h
  rw [sgn, if_neg (by omega), if_pos this]

/-- The same from k on, and less at k - 1: less. -/
theorem val_less {xs ys : List Int} (hx : U32s xs) (hy : U32s ys) (hl : xs.length = ys.length) {k : Nat} (hk : k < xs.length) (hd : xs.drop (k + 1) = ys.drop (k + 1)) (h : lb xs k < lb ys k) : val xs < val ys := by
  have a1 := val_split xs (k + 1) (by omega)
  have a2 := val_split ys (k + 1) (by omega)
  rw [hd] at a1
  rw [val_step hk] at a1
  rw [val_step (by omega)] at a2
  have b1 := val_lt (U32s_take hx k)
  have b2 := val_nonneg (U32s_take hy k)
  rw [List.length_take, Nat.min_eq_left (by omega)] at b1
  have : pw k * (lb xs k + 1) ≤ pw k * lb ys k := Int.mul_le_mul_of_nonneg_left (by omega) (by have := pw_pos k; omega)
  rw [Int.mul_add] at this
  omega
theorem drop_step {xs ys : List Int} (hl : xs.length = ys.length) {k : Nat} (hk : k < xs.length) (hd : xs.drop (k + 1) = ys.drop (k + 1)) (h : lb xs k = lb ys k) : xs.drop k = ys.drop k := by
  have hk2 : k < ys.length := by omega
  rw [List.drop_eq_getElem_cons hk, List.drop_eq_getElem_cons hk2, hd]
  rw [lb_eq hk, lb_eq hk2] at h
  rw [h]

/-- A limb is stored at k, and what is carried goes on. -/
theorem carry_step {zs : List Int} {k : Nat} (hk : k < zs.length) {c d q s V : Int} (h : val (zs.take k) + pw k * c = V) (hd : d + 4294967296 * q = c + s) :
    val ((zs.set k d).take (k + 1)) + pw (k + 1) * q = V + pw k * s := by
  rw [take_set_succ zs k d hk, val_snoc, List.length_take, Nat.min_eq_left (by omega), pw_succ', Int.mul_assoc, Int.add_assoc, ← Int.mul_add, hd, Int.mul_add]
  omega
theorem U32s_set {zs : List Int} (h : U32s zs) (k : Nat) {d : Int} (h0 : 0 ≤ d) (h1 : d < 4294967296) : U32s (zs.set k d) := by
  intro x hx
  rcases List.mem_or_eq_of_mem_set hx with hx | hx
  · exact h x hx
  · omega
theorem U32s_replicate (n : Nat) : U32s (List.replicate n 0) := by
  intro x hx
  have := List.eq_of_mem_replicate hx
  omega

theorem val_set : ∀ (zs : List Int) (k : Nat) (d : Int), k < zs.length → val (zs.set k d) = val zs + pw k * (d - lb zs k)
  | [], k, d, h => by simp at h
  | z :: zs, 0, d, _ => by simp [val, pw, lb]; omega
  | z :: zs, k + 1, d, h => by
    have ih := val_set zs k d (by simpa using h)
    have e : lb (z :: zs) (k + 1) = lb zs k := by simp [lb]
    rw [List.set_cons_succ, val, ih, val, e, pw, Int.mul_add, Int.mul_assoc]
    omega
theorem lb_set_ne {zs : List Int} {k j : Nat} {d : Int} (h : j ≠ k) : lb (zs.set k d) j = lb zs j := by
  unfold lb
  rw [List.getD_eq_getElem?_getD, List.getD_eq_getElem?_getD, List.getElem?_set_ne (by omega)]
theorem lb_set_eq {zs : List Int} {k : Nat} {d : Int} (h : k < zs.length) : lb (zs.set k d) k = d := by
  unfold lb
  simp [h]
theorem lb_replicate (n k : Nat) : lb (List.replicate n 0) k = 0 := by
  unfold lb
  rw [List.getD_eq_getElem?_getD]
  by_cases h : k < n
  · simp [h]
  · simp [h]

/-- One limb of a product: what is stored, and what is carried. -/
theorem mul_step {zs : List Int} {k : Nat} (hk : k < zs.length) {c d q s : Int} (hd : d + 4294967296 * q = c + s + lb zs k) :
    val (zs.set k d) + pw (k + 1) * q = val zs + pw k * c + pw k * s := by
  rw [val_set zs k d hk, pw_succ', Int.mul_assoc, Int.add_assoc, ← Int.mul_add, show d - lb zs k + 4294967296 * q = c + s by omega, Int.mul_add, Int.add_assoc]
theorem prod_bound {x y : Int} (x0 : 0 ≤ x) (x1 : x < 4294967296) (y0 : 0 ≤ y) (y1 : y < 4294967296) : 0 ≤ x * y ∧ x * y ≤ 18446744065119617025 := by
  refine ⟨Int.mul_nonneg x0 y0, ?_⟩
  have h1 : x * y ≤ x * 4294967295 := Int.mul_le_mul_of_nonneg_left (by omega) x0
  omega

end NM
