/- formOf: a map's literal, and a look into it. -/
import Derived.Test.YtlkadnaoacoicaaBlock
import Derived.Maps.OwnSet
namespace Go.Proofs.Ytlkadnaoacoicaa
open Go.RowKit Go.Maps

def fv (a b c : Int) : Value := .agg #[.int .i64 a, .int .i64 b, .int .i64 c]
open Classical in
/-- Which of the forms a value is. -/
noncomputable def fread (v : Value) : Option (DataW Nat × List MemPlace) :=
  if v = fv 24 149 104 then some (.lit (.int .i64 1), []) else if v = fv 53 1074 971 then some (.lit (.int .i64 2), []) else if v = fv 0 0 0 then some (.lit (.int .i64 0), []) else none
theorem fread1 : fread (fv 24 149 104) = some (.lit (.int .i64 1), []) := if_pos rfl
theorem fread2 : fread (fv 53 1074 971) = some (.lit (.int .i64 2), []) := by
  unfold fread
  rw [if_neg (by simp [fv]), if_pos rfl]
theorem fread0 : fread (fv 0 0 0) = some (.lit (.int .i64 0), []) := by
  unfold fread
  rw [if_neg (by simp [fv]), if_neg (by simp [fv]), if_pos rfl]
theorem fread_inv {v : Value} {k : Int} {ps : List MemPlace} (h : fread v = some (.lit (.int .i64 k), ps)) : (k = 1 ∧ v = fv 24 149 104) ∨ (k = 2 ∧ v = fv 53 1074 971) ∨ (k = 0 ∧ v = fv 0 0 0) := by
  unfold fread at h
  split at h
  · simp at h; exact .inl ⟨h.1.symm, by assumption⟩
  · split at h
    · simp at h; exact .inr (.inl ⟨h.1.symm, by assumption⟩)
    · split at h
      · simp at h; exact .inr (.inr ⟨h.1.symm, by assumption⟩)
      · cases h
theorem intKey : Keyed Try.prog 3 := int_keyed Try.underlying3
theorem key_int (n : Int) (h : (Lit.int .i64 n).wf = true) : keyOf Try.prog 3 (.int .i64 n) = some (.int .i64 n) := by
  simp [keyOf, mapKey, Try.underlying3, h]
theorem zero_form (w : World) : (zeroValue 46).run Try.prog w = .ok (fv 0 0 0) w := by kernel_rfl
/-- The literal, laid. -/
theorem form_map (size : Int) (hs : (Lit.int .i64 size).wf = true) (w1 : World) : ∃ (w2 w3 : World) (v : Value) (ok : Bool),
    (Instr.mapUpdate 64 (.map (some w1.heap.size)) (.int .i64 32) (fv 24 149 104)).run Try.prog (w1.alloc (.map #[] 0)) = .ok () w2 ∧
    (Instr.mapUpdate 64 (.map (some w1.heap.size)) (.int .i64 64) (fv 53 1074 971)).run Try.prog w2 = .ok () w3 ∧
    (Instr.lookup 64 (.map (some w1.heap.size)) (.int .i64 size) true).run Try.prog w3 = .ok (.tuple #[v, .bool ok]) w3 ∧
    ((size = 32 ∧ v = fv 24 149 104 ∧ ok = true) ∨ (size = 64 ∧ v = fv 53 1074 971 ∧ ok = true) ∨ (size ≠ 32 ∧ size ≠ 64 ∧ v = fv 0 0 0 ∧ ok = false)) ∧ Below w1.heap.size w1 w3 := by
  have h0 := World.ownsMap_made w1 Try.prog 3 fread
  obtain ⟨w2, r1, h1, g1⟩ := h0.update intKey Try.underlying64 (by unfold maxLen; omega) (key_int 32 (by decide)) fread1
  obtain ⟨w3, r2, h2, g2⟩ := h1.update intKey Try.underlying64 (by unfold maxLen; omega) (key_int 64 (by decide)) fread2
  obtain ⟨v, ps, r3, hv⟩ := h2.look_ok intKey Try.underlying64 (zero_form w3) fread0 (key_int size hs)
  refine ⟨w2, w3, v, _, r1, r2, r3, ?_, ?_⟩
  · by_cases h32 : size = 32
    · subst h32
      have e : (((DataW.map []).put (.int .i64 32) (.lit (.int .i64 1))).put (.int .i64 64) (.lit (.int .i64 2)) : DataW Nat).atKey (.int .i64 32) (.lit (.int .i64 0)) = .lit (.int .i64 1) := by kernel_rfl
      rw [e] at hv
      rcases fread_inv hv with ⟨_, h⟩ | ⟨h, _⟩ | ⟨h, _⟩
      · exact .inl ⟨rfl, h, by kernel_rfl⟩
      · cases h
      · cases h
    · by_cases h64 : size = 64
      · subst h64
        have e : (((DataW.map []).put (.int .i64 32) (.lit (.int .i64 1))).put (.int .i64 64) (.lit (.int .i64 2)) : DataW Nat).atKey (.int .i64 64) (.lit (.int .i64 0)) = .lit (.int .i64 2) := by kernel_rfl
        rw [e] at hv
        rcases fread_inv hv with ⟨h, _⟩ | ⟨_, h⟩ | ⟨h, _⟩
        · cases h
        · exact .inr (.inl ⟨rfl, h, by kernel_rfl⟩)
        · cases h
      · have e0 : (((DataW.map []).put (.int .i64 32) (.lit (.int .i64 1))).put (.int .i64 64) (.lit (.int .i64 2)) : DataW Nat) = .map [(.int .i64 32, .lit (.int .i64 1)), (.int .i64 64, .lit (.int .i64 2))] := by kernel_rfl
        rw [e0] at hv ⊢
        have n1 : ¬ (32 : Int) = size := fun h => h32 h.symm
        have n2 : ¬ (64 : Int) = size := fun h => h64 h.symm
        have e : (DataW.map [(.int .i64 32, .lit (.int .i64 1)), (.int .i64 64, .lit (.int .i64 2))] : DataW Nat).atKey (.int .i64 size) (.lit (.int .i64 0)) = .lit (.int .i64 0) := by
          simp [DataW.atKey, Lit.sameKey, n1, n2]
        rw [e] at hv
        rcases fread_inv hv with ⟨h, _⟩ | ⟨h, _⟩ | ⟨_, h⟩
        · cases h
        · cases h
        · exact .inr (.inr ⟨h32, h64, h, by simp [Maps.has, Lit.sameKey, n1, n2]⟩)
  · have b0 : Below w1.heap.size w1 (w1.alloc (.map #[] 0)) := (Below.refl _ _).alloc (Nat.le_refl _) _
    have b1 := b0.grown g1 b0.size (fun k h => by cases h; exact Nat.le_refl _)
    exact b1.grown g2 b1.size (fun k h => by cases h; exact Nat.le_refl _)
/-- The form of a size, and whether there is one. -/
def formV (size : Int) : Int × Int × Int × Bool := if size = 32 then (24, 149, 104, true) else if size = 64 then (53, 1074, 971, true) else (0, 0, 0, false)
set_option maxHeartbeats 1600000 in
set_option maxRecDepth 100000 in
theorem form_any (size : Int) (w : World) (hs : (Lit.int .i64 size).wf = true) :
    Calls Try.prog 15 #[.int .i64 size] w fun e w' => e = .returned (.tuple #[.agg #[.int .i64 (formV size).1, .int .i64 (formV size).2.1, .int .i64 (formV size).2.2.1], .bool (formV size).2.2.2]) ∧ Below w.heap.size w w' := by
  have b0 : Below w.heap.size w (w.alloc (.cells #[.int .i64 0, .int .i64 0, .int .i64 0] 46)) := (Below.refl _ _).alloc (Nat.le_refl _) _
  have hr := BlockAt.new w #[.int .i64 0, .int .i64 0, .int .i64 0] 46
  obtain ⟨w2, w3, v, ok, r1, r2, r3, hv, bl⟩ := form_map size hs (w.alloc (.cells #[.int .i64 0, .int .i64 0, .int .i64 0] 46))
  rw [show (w.alloc (.cells #[.int .i64 0, .int .i64 0, .int .i64 0] 46)).heap.size = w.heap.size + 1 by simp] at r1 r2 r3
  have B := b0.trans (bl.mono b0.size)
  have hr := hr.below bl
  have hlt := hr.lt
  obtain ⟨a, b, c, hfv, hv3⟩ : ∃ a b c : Int, formV size = (a, b, c, ok) ∧ v = fv a b c := by
    unfold formV
    rcases hv with ⟨rfl, rfl, rfl⟩ | ⟨rfl, rfl, rfl⟩ | ⟨h1, h2, rfl, rfl⟩
    · exact ⟨_, _, _, rfl, rfl⟩
    · exact ⟨_, _, _, rfl, rfl⟩
    · rw [if_neg h1, if_neg h2]; exact ⟨_, _, _, rfl, rfl⟩
  rw [hfv]
  subst hv3
  unfold fv at *
  clear hfv hv bl b0
  have hmm := @run_makeMap Try.prog
  have f0 := hr.free 0
  have f1 := hr.free 1
  have f2 := hr.free 2
  have g0 := hr.cell 0
  have g1 := hr.cell 1
  have g2 := hr.cell 2
  simp at g0 g1 g2
  go_enter Try.func15, Try.ntmps15
  go_wp2_with fail
  have s3 := ((hr.set 0 (.int .i64 a)).set 1 (.int .i64 b)).set 2 (.int .i64 c)
  have B3 := ((B.setCell (p := ⟨w.heap.size, 0, none⟩) (Nat.le_refl _) (.int .i64 a)).setCell (p := ⟨w.heap.size, 1, none⟩) (Nat.le_refl _) (.int .i64 b)).setCell (p := ⟨w.heap.size, 2, none⟩) (Nat.le_refl _) (.int .i64 c)
  generalize ((w3.setCell ⟨w.heap.size, 0, none⟩ (.int .i64 a)).setCell ⟨w.heap.size, 1, none⟩ (.int .i64 b)).setCell ⟨w.heap.size, 2, none⟩ (.int .i64 c) = w4 at *
  have b4 : Below w4.heap.size w4 (w4.alloc (.cells #[.int .i64 a, .int .i64 b, .int .i64 c] 46)) := (Below.refl _ _).alloc (Nat.le_refl _) _
  have s4 := s3.below b4
  have k0 := s4.cell 0
  have k1 := s4.cell 1
  have k2 := s4.cell 2
  simp at k0 k1 k2
  refine bodyPost_ret (v := .tuple #[.agg #[.int .i64 a, .int .i64 b, .int .i64 c], .bool ok]) (by simp [results, Try.results15, go_sem, k0, k1, k2]) rfl ⟨rfl, ?_⟩
  exact B3.trans (b4.mono B3.size)
end Go.Proofs.Ytlkadnaoacoicaa
