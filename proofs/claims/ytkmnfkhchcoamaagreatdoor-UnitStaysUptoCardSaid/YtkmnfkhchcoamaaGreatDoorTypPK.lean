import Derived.Test.YtkmnfkhchcoamaaGreatDoorTypInt
import Derived.Test.YtkmnfkhchcoamaaGreatDoorTypPA
import Derived.Test.YtkmnfkhchcoamaaGreatDoorTypKeyM
import Derived.Deep.DeepCutAuto
import Derived.LoopTactic
import Derived.Laws.CopyRow
import Derived.Laws.IdiomCopy
import Derived.Lib.Join
/- The program's keyOf. -/
namespace Go.Proofs.YtkmnfkhchcoamaaGreatDoor
open Go.RowKit
set_option linter.unusedSimpArgs false
set_option linter.unusedVariables false

theorem lens_leT (k : Nat) : ∀ ss : List ByteArray, (∀ s ∈ ss, s.size ≤ k) → Lib.lens (ss.map (·.data.toList)) ≤ ss.length * k
  | [], _ => by unfold Lib.lens; simp
  | s :: r, h => by
    have ih := lens_leT k r (fun x hx => h x (List.mem_cons_of_mem _ hx))
    have hs : s.data.toList.length ≤ k := h s List.mem_cons_self
    unfold Lib.lens at *
    rw [List.map_cons, List.map_cons, List.sum_cons, List.length_cons, Nat.add_mul]
    omega
theorem joinL_len {ss : List ByteArray} {k n : Nat} (sep : List UInt8) (h : ∀ s ∈ ss, s.size ≤ k) (hl : ss.length ≤ n) : (Lib.join (ss.map (·.data.toList)) sep).length ≤ n * k + n * sep.length := by
  cases ss with
  | nil => simp [Lib.join]
  | cons x r =>
    rw [List.map_cons, Lib.join_length]
    have := lens_leT k (x :: r) h
    rw [List.map_cons] at this
    have h3 : (x :: r).length * k ≤ n * k := Nat.mul_le_mul_right _ hl
    have h4 : r.length * sep.length ≤ n * sep.length := Nat.mul_le_mul_right _ (by rw [List.length_cons] at hl; omega)
    rw [Nat.mul_comm] at h4
    simp at hl ⊢
    rw [Nat.mul_comm n sep.length] at h4 ⊢
    omega
def joinT (ss : List ByteArray) (sep : ByteArray) : ByteArray := ⟨(Lib.join (ss.map (·.data.toList)) sep.data.toList).toArray⟩
theorem join_any (ao : Option Addr) (cap : Nat) (ss : List ByteArray) (sep : ByteArray) (n k : Nat) (w : World) (hr : SRow w ao ss) (h0 : 0 < ss.length) (hl : ss.length ≤ n) (hz : ∀ s ∈ ss, s.size ≤ k) (hc : ss.length ≤ cap) (hb : n * k + n * sep.size ≤ 140737488355328) (hn : n ≤ 1000000) :
    Calls Tryz.prog 76 #[.slice ao ss.length cap, .string sep] w fun e w' => e = .returned (.string (joinT ss sep)) ∧ Below w.heap.size w w' := by
  obtain ⟨b, off, rfl, hb, hcell⟩ := hr.cells h0
  refine Tryz.strings_Join b off cap ss sep w (fun j x hx => ?_) hb (by omega) hc ?_
  · obtain ⟨hj, rfl⟩ := List.getElem?_eq_some_iff.1 hx
    rw [← getD_of (d := ⟨#[]⟩) hj]
    exact hcell j hj
  · have := joinL_len sep.data.toList hz hl
    have e : sep.data.toList.length = sep.size := by simp
    rw [e] at this
    omega
/-- A key, as a value. -/
def keyV (k : Ky) : Value := .agg #[.int .i64 k.kind, .int .i64 k.n, .int .i64 k.many, .int .i64 k.k0, .int .i64 k.k1, .string k.rest]
/-- What stands ahead of the numbers. -/
def baseT (t : Ty) : ByteArray := ⟨(baseL t).toArray⟩
theorem baseT_none {t : Ty} (h : t.words = []) : baseT t = t.name := by unfold baseT baseL; rw [if_pos h]
theorem baseT_some {t : Ty} (h : t.words ≠ []) : baseT t = joinT t.words ⟨#[32]⟩ := by unfold baseT baseL; rw [if_neg h]; rfl
theorem baseT_size {t : Ty} (h : TyOk t) (hs : TySm t) : (baseT t).size ≤ 20000000 := by
  by_cases hw : t.words = []
  · rw [baseT_none hw]; have := h.nl; omega
  · rw [baseT_some hw]
    have := joinL_len (n := 18) (k := 1100000) [32] hs h.wl
    show (Lib.join (t.words.map (·.data.toList)) [32]).length ≤ 20000000
    simp at this
    omega
theorem kidsL_take {ks : List Int} {k : Nat} (h : k < ks.length) : kidsL (ks.take (k + 1)) = kidsL (ks.take k) ++ (32 :: Lib.itoa (ks.getD k 0)) := by
  unfold kidsL
  rw [List.take_succ_eq_append_getElem h, List.map_append, List.flatten_append, getD_of h]
  simp
theorem itoa_len {k : Int} (h0 : -9223372036854775808 ≤ k) (h1 : k ≤ 9223372036854775807) : (Lib.itoa k).length ≤ 21 := Lib.itoa_length_le k h0 h1
theorem kidsL_len : ∀ {ks : List Int}, (∀ k ∈ ks, -9223372036854775808 ≤ k ∧ k ≤ 9223372036854775807) → (kidsL ks).length ≤ ks.length * 22
  | [], _ => by simp [kidsL]
  | k :: r, h => by
    have ih := kidsL_len (ks := r) (fun x hx => h x (List.mem_cons_of_mem _ hx))
    have := itoa_len (h k List.mem_cons_self).1 (h k List.mem_cons_self).2
    unfold kidsL at *
    rw [List.map_cons, List.flatten_cons, List.length_append, List.length_cons, List.length_cons]
    omega
theorem addr_addK (b o j : Nat) : (⟨b, o, none⟩ : Addr).add j = ⟨b, o + j, none⟩ := by unfold Addr.add; split <;> simp_all
theorem cell6 {w : World} {b : Nat} {a0 a1 a2 a3 a4 a5 : Value} {T : TypeId} (h : BlockAt w b #[a0, a1, a2, a3, a4, a5] T) :
    w.cell? ⟨b, 0, none⟩ = some a0 ∧ w.cell? ⟨b, 1, none⟩ = some a1 ∧ w.cell? ⟨b, 2, none⟩ = some a2 ∧ w.cell? ⟨b, 3, none⟩ = some a3 ∧ w.cell? ⟨b, 4, none⟩ = some a4 ∧ w.cell? ⟨b, 5, none⟩ = some a5 :=
  ⟨h.cell 0, h.cell 1, h.cell 2, h.cell 3, h.cell 4, h.cell 5⟩
theorem info_i64 : (Tryz.prog.info? 3).map (·.size) = some 1 := by kernel_rfl
theorem drew_block {w : World} {b : Nat} {xs : Array Value} {T : TypeId} (h : BlockAt w b xs T) : BlockAt w.drew b xs T := h
/-- The first kids are laid into the key. -/
theorem copy_first (w : World) (b : Nat) (x0 x1 x2 s : Value) (ko : Option Addr) (kc : Nat) (ks : List Int) (hb : BlockAt w b #[x0, x1, x2, .int .i64 0, .int .i64 0, s] 100) (hk : IRow w ko ks) :
    ∃ w', (∀ ty, (Builtin.copy_ #[36, 36] ty #[.slice (some ⟨b, 3, none⟩) 2 2, .slice ko ks.length kc]).run Tryz.prog w = .ok (.int .i64 (min ks.length 2 : Nat)) w') ∧ BlockAt w' b #[x0, x1, x2, .int .i64 (ks.getD 0 0), .int .i64 (ks.getD 1 0), s] 100 ∧
      w'.heap.size = w.heap.size ∧ w'.os = w.os ∧ w'.tape = w.tape ∧ w'.output = w.output ∧ ∀ i, i ≠ b → w'.heap[i]? = w.heap[i]? := by
  match ks, hk with
  | [], _ =>
    refine ⟨w, fun ty => ?_, hb, rfl, rfl, rfl, rfl, fun _ _ => rfl⟩
    exact run_copy_none w _ _ ty 3 _ _ 2 2 0 kc Tryz.underlying36 info_i64 rfl
  | [k0], hk =>
    obtain ⟨kb, kof, rfl, hkb, hkc⟩ := hk.cells (by simp)
    have c0 := hkc 0 (by simp)
    refine ⟨w.setRow b #[x0, x1, x2, .int .i64 k0, .int .i64 0, s], fun ty => ?_, setRow_heap w b _ _ _ _ hb, by simp [World.setRow], rfl, rfl, rfl, fun i hi => setRow_other w b i _ hi⟩
    have := run_copy_row (P := Tryz.prog) w 36 36 ty 3 b 3 2 2 ⟨kb, kof, none⟩ 1 kc _ _ [.int .i64 k0] Tryz.underlying36 info_i64 hb rfl (fun j v hj => by
        match j, hj with
        | 0, hj => simp at hj; subst hj; rw [addr_addK]; exact c0
        | j + 1, hj => simp at hj) (by simp) (by intro v hv; simp at hv; subst hv; rfl)
    exact this
  | k0 :: k1 :: r, hk =>
    obtain ⟨kb, kof, rfl, hkb, hkc⟩ := hk.cells (by simp)
    have c0 := hkc 0 (by simp)
    have c1 := hkc 1 (by simp)
    refine ⟨w.setRow b #[x0, x1, x2, .int .i64 k0, .int .i64 k1, s], fun ty => ?_, setRow_heap w b _ _ _ _ hb, by simp [World.setRow], rfl, rfl, rfl, fun i hi => setRow_other w b i _ hi⟩
    have := run_copy_row (P := Tryz.prog) w 36 36 ty 3 b 3 2 2 ⟨kb, kof, none⟩ (r.length + 1 + 1) kc _ _ [.int .i64 k0, .int .i64 k1] Tryz.underlying36 info_i64 hb (by simp [Nat.min_def]) (fun j v hj => by
        match j, hj with
        | 0, hj => simp at hj; subst hj; rw [addr_addK]; exact c0
        | 1, hj => simp at hj; subst hj; rw [addr_addK]; exact c1
        | j + 2, hj => simp at hj) (by simp) (by intro v hv; simp at hv; rcases hv with rfl | rfl <;> rfl)
    have e : min (k0 :: k1 :: r).length 2 = 2 := by simp [Nat.min_def]
    rw [e]
    exact this
end Go.Proofs.YtkmnfkhchcoamaaGreatDoor

