/- Numbers' texts: the mathematics. -/
import Derived.Test.YtbdhmelebedpiaaGreatDoorSemBase
import Derived.Lib.ParseIntB
namespace Go.Proofs.YtbdhmelebedpiaaGreatDoor
open Go.RowKit

/-- The number of digits, behind acc. -/
def valL (acc : Nat) (l : List UInt8) : Nat := l.foldl (fun a c => a * 10 + (c.toNat - 48)) acc
def DigL (l : List UInt8) : Prop := ∀ c ∈ l, 48 ≤ c.toNat ∧ c.toNat ≤ 57
theorem valL_cons (acc : Nat) (c : UInt8) (r : List UInt8) : valL acc (c :: r) = valL (acc * 10 + (c.toNat - 48)) r := by unfold valL; rw [List.foldl_cons]
theorem range_step {acc d T V : Nat} (hd : d ≤ 9) (h1 : (acc * 10 + d) * T ≤ V) (h2 : V < (acc * 10 + d + 1) * T) : acc * (T * 10) ≤ V ∧ V < (acc + 1) * (T * 10) := by
  have e1 : (acc * 10 + d) * T = acc * (T * 10) + d * T := by rw [Nat.add_mul, Nat.mul_assoc, Nat.mul_comm 10 T]
  have e3 : (acc + 1) * (T * 10) = acc * (T * 10) + T * 10 := by rw [Nat.add_mul, Nat.one_mul]
  have h3 : d * T ≤ 9 * T := Nat.mul_le_mul_right T hd
  rw [Nat.add_mul, e1, Nat.one_mul] at h2
  rw [e1] at h1
  rw [e3]
  omega
theorem valL_range (l : List UInt8) : ∀ (acc : Nat), DigL l → acc * 10 ^ l.length ≤ valL acc l ∧ valL acc l < (acc + 1) * 10 ^ l.length := by
  induction l with
  | nil => intro acc _; simp [valL]
  | cons c r ih =>
    intro acc h
    have hc := h c (List.mem_cons_self ..)
    have hi := ih (acc * 10 + (c.toNat - 48)) fun x hx => h x (List.mem_cons_of_mem _ hx)
    rw [List.length_cons, Nat.pow_succ, valL_cons]
    exact range_step (d := c.toNat - 48) (T := 10 ^ r.length) (by omega) hi.1 hi.2
theorem valL_lex (a : List UInt8) : ∀ (b : List UInt8) (acc : Nat), a.length = b.length → DigL a → DigL b → Op.bytesLess a b = decide (valL acc a < valL acc b) := by
  induction a with
  | nil =>
    intro b acc h _ _
    match b, h with
    | [], _ => simp [Op.bytesLess]
  | cons c r ih =>
    intro b acc h ha hb
    match b, h with
    | d :: s, h =>
      have hc := ha c (List.mem_cons_self ..)
      have hd := hb d (List.mem_cons_self ..)
      have hr : DigL r := fun x hx => ha x (List.mem_cons_of_mem _ hx)
      have hs : DigL s := fun x hx => hb x (List.mem_cons_of_mem _ hx)
      have hl : r.length = s.length := by simpa using h
      have r12 := valL_range r (acc * 10 + (c.toNat - 48)) hr
      have s12 := valL_range s (acc * 10 + (d.toNat - 48)) hs
      rw [hl] at r12
      rw [valL_cons, valL_cons, Op.bytesLess]
      rcases Nat.lt_trichotomy c.toNat d.toNat with hcd | hcd | hcd
      · have hlt : valL (acc * 10 + (c.toNat - 48)) r < valL (acc * 10 + (d.toNat - 48)) s :=
          Nat.lt_of_lt_of_le r12.2 (Nat.le_trans (Nat.mul_le_mul_right _ (by omega)) s12.1)
        rw [decide_eq_true hlt, decide_eq_true (UInt8.lt_iff_toNat_lt.2 hcd), Bool.true_or]
      · have hcd2 : c = d := UInt8.toNat_inj.1 hcd
        subst hcd2
        rw [← ih s _ hl hr hs, decide_eq_false (by rw [UInt8.lt_iff_toNat_lt]; omega), beq_self_eq_true, Bool.true_and, Bool.false_or]
      · have hlt : ¬ valL (acc * 10 + (c.toNat - 48)) r < valL (acc * 10 + (d.toNat - 48)) s := Nat.not_lt.2 (Nat.le_of_lt
          (Nat.lt_of_lt_of_le s12.2 (Nat.le_trans (Nat.mul_le_mul_right _ (by omega)) r12.1)))
        have hne : (c == d) = false := by rw [beq_eq_false_iff_ne]; intro e; subst e; omega
        rw [decide_eq_false hlt, decide_eq_false (by rw [UInt8.lt_iff_toNat_lt]; omega), hne, Bool.false_and, Bool.false_or]
/-- No nought ahead. -/
def Lead (l : List UInt8) : Prop := DigL l ∧ 0 < l.length ∧ (l.length = 1 ∨ ∀ c r, l = c :: r → c.toNat ≠ 48)
theorem lead_low {l : List UInt8} (h : Lead l) (h1 : 1 < l.length) : 10 ^ (l.length - 1) ≤ valL 0 l := by
  obtain ⟨hd, hp, hz⟩ := h
  match l, hp with
  | c :: r, _ =>
    have hc := (hz.resolve_left (by omega)) c r rfl
    obtain ⟨c1, c2⟩ := hd c (List.mem_cons_self ..)
    obtain ⟨r1, _⟩ := valL_range r (0 * 10 + (c.toNat - 48)) fun x hx => hd x (List.mem_cons_of_mem _ hx)
    rw [valL_cons, List.length_cons, Nat.add_sub_cancel]
    refine Nat.le_trans ?_ r1
    exact Nat.le_mul_of_pos_left _ (by omega)
theorem lead_short {a b : List UInt8} (ha : Lead a) (hb : Lead b) (h : a.length < b.length) : valL 0 a < valL 0 b := by
  have h1 := (valL_range a 0 ha.1).2
  have h2 := lead_low hb (by have := ha.2.1; omega)
  rw [Nat.zero_add, Nat.one_mul] at h1
  exact Nat.lt_of_lt_of_le h1 (Nat.le_trans (Nat.pow_le_pow_right (by omega) (by omega)) h2)
theorem parseUintM_dig (l : List UInt8) : ∀ (acc : Nat), acc ≤ 18446744073709551615 → DigL l → Lib.parseUintM 18446744073709551615 acc l = if valL acc l ≤ 18446744073709551615 then Lib.NumEnd.ok (valL acc l) else Lib.NumEnd.range := by
  induction l with
  | nil => intro acc h _; simp [Lib.parseUintM, valL, h]
  | cons c r ih =>
    intro acc h hd
    have hc := hd c (List.mem_cons_self ..)
    have hr : DigL r := fun x hx => hd x (List.mem_cons_of_mem _ hx)
    have hv := (valL_range r (acc * 10 + (c.toNat - 48)) hr).1
    have hp : 0 < 10 ^ r.length := Nat.pow_pos (by omega)
    have hm : acc * 10 + (c.toNat - 48) ≤ valL (acc * 10 + (c.toNat - 48)) r := Nat.le_trans (Nat.le_mul_of_pos_right _ hp) hv
    unfold Lib.parseUintM
    rw [if_pos hc, valL_cons]
    by_cases h1 : 1844674407370955162 ≤ acc
    · rw [if_pos h1, if_neg (by omega)]
    · rw [if_neg h1]
      by_cases h2 : 18446744073709551615 < acc * 10 + (c.toNat - 48)
      · rw [if_pos h2, if_neg (by omega)]
      · rw [if_neg h2]
        exact ih _ (by omega) hr
theorem int_of_uint {V : Nat} {l : List UInt8} (hne : l ≠ []) (h45 : ∀ c r, l = c :: r → c.toNat ≠ 45 ∧ c.toNat ≠ 43) (hu : Lib.parseUintM 18446744073709551615 0 l = if V ≤ 18446744073709551615 then Lib.NumEnd.ok V else Lib.NumEnd.range) :
    Lib.parseIntB 64 l = if V ≤ 9223372036854775807 then Lib.NumEnd.ok (V : Int) else Lib.NumEnd.range := by
  match l, hne with
  | c :: r, _ =>
    obtain ⟨n1, n2⟩ := h45 c r rfl
    have hb : Lib.parseUintB 64 (c :: r) = if V ≤ 18446744073709551615 then Lib.NumEnd.ok V else Lib.NumEnd.range := by
      rw [← hu]
      rfl
    have e1 : (if c.toNat = 43 ∨ c.toNat = 45 then r else c :: r) = c :: r := if_neg (fun h => h.elim n2 n1)
    unfold Lib.parseIntB
    simp only [e1, hb]
    by_cases h1 : V ≤ 9223372036854775807
    · rw [if_pos (show V ≤ 18446744073709551615 by omega), if_pos h1]
      have h2 : ¬ 2 ^ (64 - 1) ≤ V := by
        rw [show 2 ^ (64 - 1) = 9223372036854775808 by decide]
        omega
      simp [h2, n1]
    · rw [if_neg h1]
      by_cases h3 : V ≤ 18446744073709551615
      · rw [if_pos h3]
        have h2 : 2 ^ (64 - 1) ≤ V := by
          rw [show 2 ^ (64 - 1) = 9223372036854775808 by decide]
          omega
        simp [h2, n1]
      · rw [if_neg h3]
/-- What ParseInt says of digits. -/
theorem parseInt_dig (l : List UInt8) (hd : DigL l) (hp : 0 < l.length) : Lib.parseIntB 64 l = if valL 0 l ≤ 9223372036854775807 then Lib.NumEnd.ok ((valL 0 l : Nat) : Int) else Lib.NumEnd.range :=
  int_of_uint (List.ne_nil_of_length_pos hp) (fun c r e => by have := hd c (by rw [e]; exact List.mem_cons_self ..); omega) (parseUintM_dig l 0 (by omega) hd)
end Go.Proofs.YtbdhmelebedpiaaGreatDoor
