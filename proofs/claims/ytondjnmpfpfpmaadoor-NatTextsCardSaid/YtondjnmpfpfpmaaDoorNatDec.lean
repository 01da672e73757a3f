/- Decimal digits, the least first: plain mathematics. -/
import Derived.Test.YtondjnmpfpfpmaaDoorNatMath
namespace NM

/-- What digits are worth, the least first. -/
def dv : List Int → Int
  | [] => 0
  | d :: ds => d + 10 * dv ds
def Digs (ds : List Int) : Prop := ∀ d ∈ ds, 0 ≤ d ∧ d < 10
/-- The digits of a number, with no zero ahead. -/
def Dec (ds : List Int) (N : Int) : Prop := Digs ds ∧ dv ds = N ∧ ((N = 0 ∧ ds = [0]) ∨ (0 < ds.length ∧ 10 ^ (ds.length - 1) ≤ N))

theorem ten_pos (n : Nat) : (0 : Int) < 10 ^ n := Int.pow_pos (by omega)
theorem ten_succ (n : Nat) : (10 : Int) ^ (n + 1) = 10 ^ n * 10 := Int.pow_succ _ _
theorem dv_snoc (ds : List Int) (x : Int) : dv (ds ++ [x]) = dv ds + 10 ^ ds.length * x := by
  induction ds with
  | nil => simp [dv]
  | cons d ds ih =>
    rw [List.cons_append, dv, ih, dv, List.length_cons, ten_succ, Int.mul_add, Int.mul_comm (10 ^ ds.length) 10, Int.mul_assoc]
    omega
theorem Digs_snoc {ds : List Int} (h : Digs ds) {x : Int} (h0 : 0 ≤ x) (h1 : x < 10) : Digs (ds ++ [x]) := by
  intro d hd
  rcases List.mem_append.1 hd with hd | hd
  · exact h d hd
  · simp at hd; omega
theorem dv_range {ds : List Int} (h : Digs ds) : 0 ≤ dv ds ∧ dv ds < 10 ^ ds.length := by
  induction ds with
  | nil => simp [dv]
  | cons d ds ih =>
    have h1 := ih (fun x hx => h x (List.mem_cons_of_mem _ hx))
    have h2 := h d (List.mem_cons_self ..)
    rw [dv, List.length_cons, ten_succ]
    omega
/-- One digit more. -/
theorem dec_step {ds : List Int} {N R x R' : Int} (h : dv ds + 10 ^ ds.length * R = N) (hR : R = x + 10 * R') : dv (ds ++ [x]) + 10 ^ (ds ++ [x]).length * R' = N := by
  rw [dv_snoc, List.length_append, List.length_singleton, ten_succ, ← h, hR, Int.mul_add, Int.mul_assoc]
  omega
theorem ten_le {a b : Nat} (h : a ≤ b) : (10 : Int) ^ a ≤ 10 ^ b := by
  obtain ⟨k, rfl⟩ : ∃ k, b = a + k := ⟨b - a, by omega⟩
  rw [Int.pow_add]
  have h1 := ten_pos a
  have h2 := ten_pos k
  have h3 : (10 : Int) ^ a * 1 ≤ 10 ^ a * 10 ^ k := Int.mul_le_mul_of_nonneg_left (by omega) (by omega)
  omega
theorem ten_small {n : Nat} {N : Int} (h : 10 ^ n ≤ N) (hN : N < pw 16) : n ≤ 154 := by
  rcases Nat.lt_or_ge 154 n with hn | hn
  · exfalso
    have h1 := ten_le (show 155 ≤ n by omega)
    have h2 : (pw 16 : Int) ≤ 10 ^ 155 := by decide +kernel
    omega
  · exact hn
theorem rest_le {ds : List Int} {N R : Int} (hd : Digs ds) (h : dv ds + 10 ^ ds.length * R = N) (hR : 0 < R) : 10 ^ ds.length ≤ N := by
  have h1 := dv_range hd
  have h2 := ten_pos ds.length
  have h3 : (10 : Int) ^ ds.length * 1 ≤ 10 ^ ds.length * R := Int.mul_le_mul_of_nonneg_left (by omega) (by omega)
  omega
end NM
