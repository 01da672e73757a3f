/- Literals: the program's escape and first. -/
import Derived.Test.YtkafkcmhekgheaaGreatDoorLitPA
namespace Go.Proofs.YtkafkcmhekgheaaGreatDoor
open Go.RowKit Go.Maps
set_option linter.unusedSimpArgs false
set_option linter.unusedVariables false

def shortD : DataW Nat := (((((((((DataW.map []).put (.int .u8 97) (.lit (.int .i32 7))).put (.int .u8 98) (.lit (.int .i32 8))).put (.int .u8 102) (.lit (.int .i32 12))).put (.int .u8 110) (.lit (.int .i32 10))).put (.int .u8 114) (.lit (.int .i32 13))).put (.int .u8 116) (.lit (.int .i32 9))).put (.int .u8 118) (.lit (.int .i32 11))).put (.int .u8 92) (.lit (.int .i32 92)))
theorem shortD_is : shortD = .map [(.int .u8 92, .lit (.int .i32 92)), (.int .u8 97, .lit (.int .i32 7)), (.int .u8 98, .lit (.int .i32 8)), (.int .u8 102, .lit (.int .i32 12)), (.int .u8 110, .lit (.int .i32 10)), (.int .u8 114, .lit (.int .i32 13)), (.int .u8 116, .lit (.int .i32 9)), (.int .u8 118, .lit (.int .i32 11))] := by kernel_rfl
theorem short_at (c : Int) : ∃ a, shortD.atKey (.int .u8 c) (.lit (.int .i32 0)) = .lit (.int .i32 a) ∧ ((shortC c = some a ∧ Maps.has shortD (.int .u8 c) = true) ∨ (shortC c = none ∧ a = 0 ∧ Maps.has shortD (.int .u8 c) = false)) := by
  by_cases h97 : c = 97
  · subst h97; exact ⟨7, by kernel_rfl, .inl ⟨by decide, by kernel_rfl⟩⟩
  by_cases h98 : c = 98
  · subst h98; exact ⟨8, by kernel_rfl, .inl ⟨by decide, by kernel_rfl⟩⟩
  by_cases h102 : c = 102
  · subst h102; exact ⟨12, by kernel_rfl, .inl ⟨by decide, by kernel_rfl⟩⟩
  by_cases h110 : c = 110
  · subst h110; exact ⟨10, by kernel_rfl, .inl ⟨by decide, by kernel_rfl⟩⟩
  by_cases h114 : c = 114
  · subst h114; exact ⟨13, by kernel_rfl, .inl ⟨by decide, by kernel_rfl⟩⟩
  by_cases h116 : c = 116
  · subst h116; exact ⟨9, by kernel_rfl, .inl ⟨by decide, by kernel_rfl⟩⟩
  by_cases h118 : c = 118
  · subst h118; exact ⟨11, by kernel_rfl, .inl ⟨by decide, by kernel_rfl⟩⟩
  by_cases h92 : c = 92
  · subst h92; exact ⟨92, by kernel_rfl, .inl ⟨by decide, by kernel_rfl⟩⟩
  refine ⟨0, ?_, .inr ⟨?_, rfl, ?_⟩⟩
  · rw [shortD_is]
    have n97 : ¬ (97 : Int) = c := fun h => h97 h.symm
    have n98 : ¬ (98 : Int) = c := fun h => h98 h.symm
    have n102 : ¬ (102 : Int) = c := fun h => h102 h.symm
    have n110 : ¬ (110 : Int) = c := fun h => h110 h.symm
    have n114 : ¬ (114 : Int) = c := fun h => h114 h.symm
    have n116 : ¬ (116 : Int) = c := fun h => h116 h.symm
    have n118 : ¬ (118 : Int) = c := fun h => h118 h.symm
    have n92 : ¬ (92 : Int) = c := fun h => h92 h.symm
    simp [DataW.atKey, Lit.sameKey, n97, n98, n102, n110, n114, n116, n118, n92]
  · unfold shortC
    rw [if_neg h97, if_neg h98, if_neg h102, if_neg h110, if_neg h114, if_neg h116, if_neg h118, if_neg h92]
  · rw [shortD_is]
    have n97 : ¬ (97 : Int) = c := fun h => h97 h.symm
    have n98 : ¬ (98 : Int) = c := fun h => h98 h.symm
    have n102 : ¬ (102 : Int) = c := fun h => h102 h.symm
    have n110 : ¬ (110 : Int) = c := fun h => h110 h.symm
    have n114 : ¬ (114 : Int) = c := fun h => h114 h.symm
    have n116 : ¬ (116 : Int) = c := fun h => h116 h.symm
    have n118 : ¬ (118 : Int) = c := fun h => h118 h.symm
    have n92 : ¬ (92 : Int) = c := fun h => h92 h.symm
    simp [Maps.has, Lit.sameKey, n97, n98, n102, n110, n114, n116, n118, n92]
set_option maxHeartbeats 1000000 in
set_option maxRecDepth 100000 in
/-- The literal, laid. -/
theorem short_map (c : Int) (hc : (Lit.int .u8 c).wf = true) (w1 : World) : ∃ (x1 x2 x3 x4 x5 x6 x7 x8 : World) (a : Int) (ok : Bool),
    (Instr.mapUpdate 80 (.map (some w1.heap.size)) (.int .u8 97) (.int .i32 7)).run Tryz.prog (w1.alloc (.map #[] 0)) = .ok () x1 ∧
    (Instr.mapUpdate 80 (.map (some w1.heap.size)) (.int .u8 98) (.int .i32 8)).run Tryz.prog x1 = .ok () x2 ∧
    (Instr.mapUpdate 80 (.map (some w1.heap.size)) (.int .u8 102) (.int .i32 12)).run Tryz.prog x2 = .ok () x3 ∧
    (Instr.mapUpdate 80 (.map (some w1.heap.size)) (.int .u8 110) (.int .i32 10)).run Tryz.prog x3 = .ok () x4 ∧
    (Instr.mapUpdate 80 (.map (some w1.heap.size)) (.int .u8 114) (.int .i32 13)).run Tryz.prog x4 = .ok () x5 ∧
    (Instr.mapUpdate 80 (.map (some w1.heap.size)) (.int .u8 116) (.int .i32 9)).run Tryz.prog x5 = .ok () x6 ∧
    (Instr.mapUpdate 80 (.map (some w1.heap.size)) (.int .u8 118) (.int .i32 11)).run Tryz.prog x6 = .ok () x7 ∧
    (Instr.mapUpdate 80 (.map (some w1.heap.size)) (.int .u8 92) (.int .i32 92)).run Tryz.prog x7 = .ok () x8 ∧
    (Instr.lookup 80 (.map (some w1.heap.size)) (.int .u8 c) true).run Tryz.prog x8 = .ok (.tuple #[.int .i32 a, .bool ok]) x8 ∧
    ((shortC c = some a ∧ ok = true) ∨ (shortC c = none ∧ a = 0 ∧ ok = false)) ∧ Below w1.heap.size w1 x8 := by
  have h0 := World.ownsMap_made w1 Tryz.prog 5 (plainElem (H := Nat) Tryz.prog 21)
  obtain ⟨x1, r1, h1, g1⟩ := h0.update byteKey Tryz.underlying80 (by unfold maxLen; omega) (key_byte 97 (by decide)) (rune_plain 7 (by decide))
  obtain ⟨x2, r2, h2, g2⟩ := h1.update byteKey Tryz.underlying80 (by unfold maxLen; omega) (key_byte 98 (by decide)) (rune_plain 8 (by decide))
  obtain ⟨x3, r3, h3, g3⟩ := h2.update byteKey Tryz.underlying80 (by unfold maxLen; omega) (key_byte 102 (by decide)) (rune_plain 12 (by decide))
  obtain ⟨x4, r4, h4, g4⟩ := h3.update byteKey Tryz.underlying80 (by unfold maxLen; omega) (key_byte 110 (by decide)) (rune_plain 10 (by decide))
  obtain ⟨x5, r5, h5, g5⟩ := h4.update byteKey Tryz.underlying80 (by unfold maxLen; omega) (key_byte 114 (by decide)) (rune_plain 13 (by decide))
  obtain ⟨x6, r6, h6, g6⟩ := h5.update byteKey Tryz.underlying80 (by unfold maxLen; omega) (key_byte 116 (by decide)) (rune_plain 9 (by decide))
  obtain ⟨x7, r7, h7, g7⟩ := h6.update byteKey Tryz.underlying80 (by unfold maxLen; omega) (key_byte 118 (by decide)) (rune_plain 11 (by decide))
  obtain ⟨x8, r8, h8, g8⟩ := h7.update byteKey Tryz.underlying80 (by unfold maxLen; omega) (key_byte 92 (by decide)) (rune_plain 92 (by decide))
  obtain ⟨v, ps, rl, hv⟩ := h8.look_ok byteKey Tryz.underlying80 (zero_rune x8) (rune_plain 0 (by decide)) (key_byte c hc)
  obtain ⟨a, ha, hcase⟩ := short_at c
  obtain ⟨a2, rfl, he, -⟩ := plainElem_int_inv Tryz.underlying21 hv
  have he1 : shortD.atKey (.int .u8 c) (.lit (.int .i32 0)) = .lit (.int .i32 a2) := (Prod.mk.inj he).1
  rw [ha] at he1
  have hz : a = a2 := by injection he1 with he1; injection he1
  subst hz
  refine ⟨x1, x2, x3, x4, x5, x6, x7, x8, a, Maps.has shortD (.int .u8 c), r1, r2, r3, r4, r5, r6, r7, r8, rl, ?_, ?_⟩
  · rcases hcase with ⟨p, q⟩ | ⟨p, r, q⟩
    · exact .inl ⟨p, q⟩
    · exact .inr ⟨p, r, q⟩
  · have b0 : Below w1.heap.size w1 (w1.alloc (.map #[] 0)) := (Below.refl _ _).alloc (Nat.le_refl _) _
    have b1 := b0.grown g1 b0.size (fun k h => by cases h; exact Nat.le_refl _)
    have b2 := b1.grown g2 b1.size (fun k h => by cases h; exact Nat.le_refl _)
    have b3 := b2.grown g3 b2.size (fun k h => by cases h; exact Nat.le_refl _)
    have b4 := b3.grown g4 b3.size (fun k h => by cases h; exact Nat.le_refl _)
    have b5 := b4.grown g5 b4.size (fun k h => by cases h; exact Nat.le_refl _)
    have b6 := b5.grown g6 b5.size (fun k h => by cases h; exact Nat.le_refl _)
    have b7 := b6.grown g7 b6.size (fun k h => by cases h; exact Nat.le_refl _)
    have b8 := b7.grown g8 b7.size (fun k h => by cases h; exact Nat.le_refl _)
    exact b8
/-- Of what stands behind byte 92. -/
def hexS (s : ByteArray) : Option Pc := match numA s 1 2 16 with
  | none => none
  | some v => some ⟨v, true, 4⟩
def uniS (s : ByteArray) (many : Nat) : Option Pc := match numA s 1 many 16 with
  | none => none
  | some v => if letV v = true then some ⟨v, false, 2 + many⟩ else none
def octS (s : ByteArray) : Option Pc := match numA s 0 3 8 with
  | none => none
  | some v => if v ≤ 255 then some ⟨v, true, 4⟩ else none
def escS (s : ByteArray) (q : Int) : Option Pc :=
  if s.size = 0 then none else if byteAt s 0 = q then some ⟨q, true, 2⟩ else
    match shortC (byteAt s 0) with
    | some v => some ⟨v, true, 2⟩
    | none => if byteAt s 0 = 120 then hexS s else if byteAt s 0 = 117 then uniS s 4 else if byteAt s 0 = 85 then uniS s 8 else octS s
theorem escS_eq {t : ByteArray} (q : Int) (h : 1 ≤ t.size) : escS (t.extract 1 t.size) q = escT t q := by
  unfold escS escT hexS hexT uniS uniT octS octT
  rw [size_ext _ _ _ (Nat.le_refl _), byte_end, numA_end t 1 1 2 16 h, numA_end t 1 1 4 16 h, numA_end t 1 1 8 16 h, numA_end t 1 0 3 8 h]
  by_cases h1 : t.size ≤ 1
  · rw [if_pos (show t.size - 1 = 0 by omega), if_pos h1]
  · rw [if_neg (show ¬ t.size - 1 = 0 by omega), if_neg h1]
    rfl
theorem cell3 {w : World} {b : Nat} {a0 a1 a2 : Value} {T : TypeId} (h : BlockAt w b #[a0, a1, a2] T) : w.cell? ⟨b, 0, none⟩ = some a0 ∧ w.cell? ⟨b, 1, none⟩ = some a1 ∧ w.cell? ⟨b, 2, none⟩ = some a2 := ⟨h.cell 0, h.cell 1, h.cell 2⟩
theorem set3_cells {w : World} {b : Nat} {a0 a1 a2 : Value} {T : TypeId} (h : BlockAt w b #[a0, a1, a2] T) (v0 v1 v2 : Value) :
    (((w.setCell ⟨b, 0, none⟩ v0).setCell ⟨b, 1, none⟩ v1).setCell ⟨b, 2, none⟩ v2).cell? ⟨b, 0, none⟩ = some v0 ∧ (((w.setCell ⟨b, 0, none⟩ v0).setCell ⟨b, 1, none⟩ v1).setCell ⟨b, 2, none⟩ v2).cell? ⟨b, 1, none⟩ = some v1 ∧ (((w.setCell ⟨b, 0, none⟩ v0).setCell ⟨b, 1, none⟩ v1).setCell ⟨b, 2, none⟩ v2).cell? ⟨b, 2, none⟩ = some v2 := by
  have k := ((h.set 0 v0).set 1 v1).set 2 v2
  exact ⟨k.cell 0, k.cell 1, k.cell 2⟩
def zpiece : Value := .agg #[.int .i32 0, .bool false, .int .i64 0]
/-- What a call gives that looks for a piece. -/
def PcV (o : Option Pc) (en : Ending) : Prop := ∃ (x : Int) (p : Bool) (n : Int) (ok : Bool), en = .returned (.tuple #[.agg #[.int .i32 x, .bool p, .int .i64 n], .bool ok]) ∧ ((o = none ∧ ok = false) ∨ ∃ pc, o = some pc ∧ ok = true ∧ x = pc.val ∧ p = pc.plain ∧ n = (pc.size : Int))
theorem PcV.none {o : Option Pc} (h : o = none) {x n : Int} {p : Bool} : PcV o (.returned (.tuple #[.agg #[.int .i32 x, .bool p, .int .i64 n], .bool false])) := ⟨x, p, n, false, rfl, .inl ⟨h, rfl⟩⟩
theorem PcV.some {o : Option Pc} {pc : Pc} (h : o = some pc) {n : Int} (hn : n = (pc.size : Int)) : PcV o (.returned (.tuple #[.agg #[.int .i32 pc.val, .bool pc.plain, .int .i64 n], .bool true])) := ⟨_, _, n, true, rfl, .inr ⟨pc, h, rfl, rfl, rfl, hn⟩⟩
theorem set3_below' {W w : World} {b : Nat} (hb : Below b W w) (v0 v1 v2 : Value) (hl : b ≤ W.heap.size) : Below b W (((w.setCell ⟨W.heap.size, 0, none⟩ v0).setCell ⟨W.heap.size, 1, none⟩ v1).setCell ⟨W.heap.size, 2, none⟩ v2) :=
  ((hb.setCell hl (p := ⟨W.heap.size, 0, none⟩) v0).setCell hl (p := ⟨W.heap.size, 1, none⟩) v1).setCell hl (p := ⟨W.heap.size, 2, none⟩) v2
set_option maxHeartbeats 8000000 in
set_option maxRecDepth 100000 in
theorem esc_empty (s : ByteArray) (q : Int) (w : World) (hs : s.size ≤ 4010) (h : s.size = 0) :
    Calls Tryz.prog 23 #[.string s, .int .u8 q] w fun e w' => PcV (escS s q) e ∧ Below w.heap.size w w' := by
  have HE := Lib.hid (show escS s q = none by unfold escS; rw [if_pos h])
  have he : s.toList = [] := by rw [ByteArray.toList_eq]; exact List.eq_nil_of_length_eq_zero (by simpa using h)
  have hb := BlockAt.new w #[.int .i32 0, .bool false, .int .i64 0] 38
  have bq : Below w.heap.size w (w.alloc (.cells #[.int .i32 0, .bool false, .int .i64 0] 38)) := (Below.refl _ _).alloc (Nat.le_refl _) _
  have BQ := Lib.hid bq
  have HB := Lib.hid hb
  clear hb bq
  clear h
  go_enter Tryz.func23, Tryz.ntmps23
  go_wp2_with fail
  refine bodyPost_ret (v := .tuple #[.agg #[.int .i32 0, .bool false, .int .i64 0], .bool false]) (by simp [results, Tryz.results23, go_sem]) rfl ⟨PcV.none HE.out, BQ.out⟩
set_option maxHeartbeats 8000000 in
set_option maxRecDepth 100000 in
theorem esc_quote (s : ByteArray) (q : Int) (w : World) (hs : s.size ≤ 4010) (h0 : 0 < s.size) (hq : byteAt s 0 = q) :
    Calls Tryz.prog 23 #[.string s, .int .u8 q] w fun e w' => PcV (escS s q) e ∧ Below w.heap.size w w' := by
  have hne : s.toList.isEmpty = false := by
    rw [ByteArray.toList_eq]
    cases h9 : s.data.toList with
    | nil => exact absurd (show s.size = 0 by have := congrArg List.length h9; simpa using this) (by omega)
    | cons _ _ => rfl
  obtain ⟨c, hc⟩ : ∃ c : Int, (s[0].toNat : Int) = c := ⟨_, rfl⟩
  have hcb : byteAt s 0 = c := (byteAt_eq h0).trans hc
  have hcr := byteAt_range s 0
  rw [hcb] at hcr
  have hsI : (0 : Int) < (s.size : Int) := by omega
  have HE := Lib.hid (show escS s q = some ⟨q, true, 2⟩ by unfold escS; rw [if_neg (show ¬ s.size = 0 by omega), if_pos hq])
  have g : (c == q) = true := by rw [← hcb, hq]; exact beq_self_eq_true _
  have hq0 : 0 ≤ q ∧ q < 256 := by omega
  have hq1 := hq0.1
  have hq2 := hq0.2
  have hb := BlockAt.new w #[.int .i32 0, .bool false, .int .i64 0] 38
  have bq : Below w.heap.size w (w.alloc (.cells #[.int .i32 0, .bool false, .int .i64 0] 38)) := (Below.refl _ _).alloc (Nat.le_refl _) _
  have BQ := Lib.hid bq
  have HB := Lib.hid hb
  clear hb bq
  clear hq hcb hcr hq0
  go_enter Tryz.func23, Tryz.ntmps23
  go_wp2_with fail
  refine bodyPost_ret (v := .tuple #[.agg #[.int .i32 q, .bool true, .int .i64 2], .bool true]) (by simp [results, Tryz.results23, go_sem]) rfl ⟨PcV.some HE.out rfl, (Below.refl _ _).alloc (Nat.le_refl _) _⟩
set_option maxHeartbeats 8000000 in
set_option maxRecDepth 100000 in
theorem esc_short (s : ByteArray) (q : Int) (w : World) (hs : s.size ≤ 4010) (h0 : 0 < s.size) (hq : byteAt s 0 ≠ q) (v : Int) (hv : shortC (byteAt s 0) = some v) :
    Calls Tryz.prog 23 #[.string s, .int .u8 q] w fun e w' => PcV (escS s q) e ∧ Below w.heap.size w w' := by
  have hne : s.toList.isEmpty = false := by
    rw [ByteArray.toList_eq]
    cases h9 : s.data.toList with
    | nil => exact absurd (show s.size = 0 by have := congrArg List.length h9; simpa using this) (by omega)
    | cons _ _ => rfl
  obtain ⟨c, hc⟩ : ∃ c : Int, (s[0].toNat : Int) = c := ⟨_, rfl⟩
  have hcb : byteAt s 0 = c := (byteAt_eq h0).trans hc
  have hcr := byteAt_range s 0
  rw [hcb] at hcr
  have hsI : (0 : Int) < (s.size : Int) := by omega
  have HE := Lib.hid (show escS s q = some ⟨v, true, 2⟩ by unfold escS; rw [if_neg (show ¬ s.size = 0 by omega), if_neg hq, hv])
  have g : (c == q) = false := by rw [beq_eq_false_iff_ne, ← hcb]; exact hq
  have hb := BlockAt.new w #[.int .i32 0, .bool false, .int .i64 0] 38
  have bq : Below w.heap.size w (w.alloc (.cells #[.int .i32 0, .bool false, .int .i64 0] 38)) := (Below.refl _ _).alloc (Nat.le_refl _) _
  obtain ⟨x1, x2, x3, x4, x5, x6, x7, x8, ma, mok, r1, r2, r3, r4, r5, r6, r7, r8, rl, hcase, bl⟩ := short_map c (WalkArith.wf_u8 (by omega)) (w.alloc (.cells #[.int .i32 0, .bool false, .int .i64 0] 38))
  rw [show (w.alloc (.cells #[.int .i32 0, .bool false, .int .i64 0] 38)).heap.size = w.heap.size + 1 by simp] at r1 r2 r3 r4 r5 r6 r7 r8 rl
  have B8 := Lib.hid (bq.trans (bl.mono bq.size))
  have hb8 := hb.below bl
  have K8 := Lib.hid hb8
  have f0 := hb8.free 0
  have f1 := hb8.free 1
  have f2 := hb8.free 2
  obtain ⟨e0, e1, e2⟩ := cell3 hb8
  have hmm := @run_makeMap Tryz.prog
  clear hb bq bl hb8
  have hx : ma = v ∧ mok = true := by
    rw [hcb] at hv
    rcases hcase with ⟨p, r⟩ | ⟨p, _, r⟩
    · rw [hv] at p; injection p with p; exact ⟨p.symm, r⟩
    · rw [hv] at p; cases p
  rw [hx.1, hx.2] at rl
  clear hx hcase hq hv hcb hcr
  go_enter Tryz.func23, Tryz.ntmps23
  go_wp2_with fail
  clear e0 e1 e2 f0 f1 f2
  obtain ⟨g0, g1, g2⟩ := set3_cells K8.out (.int .i32 v) (.bool true) (.int .i64 2)
  refine bodyPost_ret (v := .tuple #[.agg #[.int .i32 v, .bool true, .int .i64 2], .bool true]) (by simp [results, Tryz.results23, go_sem, g0, g1, g2]) rfl ⟨PcV.some HE.out rfl, set3_below' B8.out _ _ _ (Nat.le_refl _)⟩
set_option maxHeartbeats 8000000 in
set_option maxRecDepth 100000 in
theorem esc_hex (s : ByteArray) (q : Int) (w : World) (hs : s.size ≤ 4010) (h0 : 0 < s.size) (hq : byteAt s 0 ≠ q) (hv : shortC (byteAt s 0) = none) (hc0 : byteAt s 0 = 120) :
    Calls Tryz.prog 23 #[.string s, .int .u8 q] w fun e w' => PcV (escS s q) e ∧ Below w.heap.size w w' := by
  have hne : s.toList.isEmpty = false := by
    rw [ByteArray.toList_eq]
    cases h9 : s.data.toList with
    | nil => exact absurd (show s.size = 0 by have := congrArg List.length h9; simpa using this) (by omega)
    | cons _ _ => rfl
  obtain ⟨c, hc⟩ : ∃ c : Int, (s[0].toNat : Int) = c := ⟨_, rfl⟩
  have hcb : byteAt s 0 = c := (byteAt_eq h0).trans hc
  have hcr := byteAt_range s 0
  rw [hcb] at hcr
  have hsI : (0 : Int) < (s.size : Int) := by omega
  have HE0 : escS s q = hexS s := by unfold escS; rw [if_neg (show ¬ s.size = 0 by omega), if_neg hq, hv]; simp only; rw [if_pos hc0]
  have g : (c == q) = false := by rw [beq_eq_false_iff_ne, ← hcb]; exact hq
  have hb := BlockAt.new w #[.int .i32 0, .bool false, .int .i64 0] 38
  have bq : Below w.heap.size w (w.alloc (.cells #[.int .i32 0, .bool false, .int .i64 0] 38)) := (Below.refl _ _).alloc (Nat.le_refl _) _
  obtain ⟨x1, x2, x3, x4, x5, x6, x7, x8, ma, mok, r1, r2, r3, r4, r5, r6, r7, r8, rl, hcase, bl⟩ := short_map c (WalkArith.wf_u8 (by omega)) (w.alloc (.cells #[.int .i32 0, .bool false, .int .i64 0] 38))
  rw [show (w.alloc (.cells #[.int .i32 0, .bool false, .int .i64 0] 38)).heap.size = w.heap.size + 1 by simp] at r1 r2 r3 r4 r5 r6 r7 r8 rl
  have B8 := Lib.hid (bq.trans (bl.mono bq.size))
  have hb8 := hb.below bl
  have K8 := Lib.hid hb8
  have f0 := hb8.free 0
  have f1 := hb8.free 1
  have f2 := hb8.free 2
  obtain ⟨e0, e1, e2⟩ := cell3 hb8
  have hmm := @run_makeMap Tryz.prog
  clear hb bq bl hb8
  have hx : ma = 0 ∧ mok = false := by
    rw [hcb] at hv
    rcases hcase with ⟨p, r⟩ | ⟨_, p, r⟩
    · rw [hv] at p; cases p
    · exact ⟨p, r⟩
  rw [hx.1, hx.2] at rl
  have hsz := size_ext s 1 s.size (Nat.le_refl _)
  have HN0 := fun w => number_any (s.extract 1 s.size) 2 16 w (.inl rfl) (by decide) (by omega)
  rw [numA_end s 1 0 2 16 h0, Nat.add_zero] at HN0
  have g85 : (c == 85) = false := by rw [beq_eq_false_iff_ne]; omega
  have g117 : (c == 117) = false := by rw [beq_eq_false_iff_ne]; omega
  have g120 : (c == 120) = true := by rw [beq_iff_eq]; omega
  cases hn : numA s 1 2 16 with
  | none =>
    rw [hn] at HN0
    unfold numV at HN0
    have HN := Lib.hid HN0
    have HE := Lib.hid (show escS s q = none by rw [HE0]; unfold hexS; rw [hn])
    clear hn
    clear hx hcase hq hv hcb hcr HN0 hc0 HE0
    go_enter Tryz.func23, Tryz.ntmps23
    go_wp2_with fail
    refine (HN.out _).mono ?_
    rintro x w' ⟨rfl, rfl⟩
    go_wp2_with fail
    clear e0 e1 e2 f0 f1 f2
    obtain ⟨g0, g1, g2⟩ := set3_cells K8.out (.int .i32 0) (.bool true) (.int .i64 4)
    refine bodyPost_ret (v := .tuple #[.agg #[.int .i32 0, .bool true, .int .i64 4], .bool false]) (by simp [results, Tryz.results23, go_sem, g0, g1, g2]) rfl ⟨PcV.none HE.out, set3_below' B8.out _ _ _ (Nat.le_refl _)⟩
  | some v =>
    rw [hn] at HN0
    unfold numV at HN0
    have HN := Lib.hid HN0
    have HE := Lib.hid (show escS s q = some ⟨v, true, 4⟩ by rw [HE0]; unfold hexS; rw [hn])
    have hb := numF_bound s 16 (by decide) 2 1 0 v (by decide) (numA_some hn).2
    have v0 : 0 ≤ v := by omega
    have v1 : v ≤ 255 := by omega
    clear hn hb
    clear hx hcase hq hv hcb hcr HN0 hc0 HE0
    go_enter Tryz.func23, Tryz.ntmps23
    go_wp2_with fail
    refine (HN.out _).mono ?_
    rintro x w' ⟨rfl, rfl⟩
    go_wp2_with fail
    clear e0 e1 e2 f0 f1 f2
    obtain ⟨g0, g1, g2⟩ := set3_cells K8.out (.int .i32 v) (.bool true) (.int .i64 4)
    refine bodyPost_ret (v := .tuple #[.agg #[.int .i32 v, .bool true, .int .i64 4], .bool true]) (by simp [results, Tryz.results23, go_sem, g0, g1, g2]) rfl ⟨PcV.some HE.out rfl, set3_below' B8.out _ _ _ (Nat.le_refl _)⟩
set_option maxHeartbeats 8000000 in
set_option maxRecDepth 100000 in
theorem esc_u4 (s : ByteArray) (q : Int) (w : World) (hs : s.size ≤ 4010) (h0 : 0 < s.size) (hq : byteAt s 0 ≠ q) (hv : shortC (byteAt s 0) = none) (hc0 : byteAt s 0 = 117) :
    Calls Tryz.prog 23 #[.string s, .int .u8 q] w fun e w' => PcV (escS s q) e ∧ Below w.heap.size w w' := by
  have hne : s.toList.isEmpty = false := by
    rw [ByteArray.toList_eq]
    cases h9 : s.data.toList with
    | nil => exact absurd (show s.size = 0 by have := congrArg List.length h9; simpa using this) (by omega)
    | cons _ _ => rfl
  obtain ⟨c, hc⟩ : ∃ c : Int, (s[0].toNat : Int) = c := ⟨_, rfl⟩
  have hcb : byteAt s 0 = c := (byteAt_eq h0).trans hc
  have hcr := byteAt_range s 0
  rw [hcb] at hcr
  have hsI : (0 : Int) < (s.size : Int) := by omega
  have HE0 : escS s q = uniS s 4 := by unfold escS; rw [if_neg (show ¬ s.size = 0 by omega), if_neg hq, hv]; simp only; rw [if_neg (show ¬ byteAt s 0 = 120 by omega), if_pos hc0]
  have g : (c == q) = false := by rw [beq_eq_false_iff_ne, ← hcb]; exact hq
  have hb := BlockAt.new w #[.int .i32 0, .bool false, .int .i64 0] 38
  have bq : Below w.heap.size w (w.alloc (.cells #[.int .i32 0, .bool false, .int .i64 0] 38)) := (Below.refl _ _).alloc (Nat.le_refl _) _
  obtain ⟨x1, x2, x3, x4, x5, x6, x7, x8, ma, mok, r1, r2, r3, r4, r5, r6, r7, r8, rl, hcase, bl⟩ := short_map c (WalkArith.wf_u8 (by omega)) (w.alloc (.cells #[.int .i32 0, .bool false, .int .i64 0] 38))
  rw [show (w.alloc (.cells #[.int .i32 0, .bool false, .int .i64 0] 38)).heap.size = w.heap.size + 1 by simp] at r1 r2 r3 r4 r5 r6 r7 r8 rl
  have B8 := Lib.hid (bq.trans (bl.mono bq.size))
  have hb8 := hb.below bl
  have K8 := Lib.hid hb8
  have f0 := hb8.free 0
  have f1 := hb8.free 1
  have f2 := hb8.free 2
  obtain ⟨e0, e1, e2⟩ := cell3 hb8
  have hmm := @run_makeMap Tryz.prog
  clear hb bq bl hb8
  have hx : ma = 0 ∧ mok = false := by
    rw [hcb] at hv
    rcases hcase with ⟨p, r⟩ | ⟨_, p, r⟩
    · rw [hv] at p; cases p
    · exact ⟨p, r⟩
  rw [hx.1, hx.2] at rl
  have hsz := size_ext s 1 s.size (Nat.le_refl _)
  have HN0 := fun w => number_any (s.extract 1 s.size) 4 16 w (.inl rfl) (by decide) (by omega)
  rw [numA_end s 1 0 4 16 h0, Nat.add_zero] at HN0
  have g85 : (c == 85) = false := by rw [beq_eq_false_iff_ne]; omega
  have g117 : (c == 117) = true := by rw [beq_iff_eq]; omega
  have g120 : (c == 120) = false := by rw [beq_eq_false_iff_ne]; omega
  cases hn : numA s 1 4 16 with
  | none =>
    rw [hn] at HN0
    unfold numV at HN0
    have HN := Lib.hid HN0
    have HE := Lib.hid (show escS s q = none by rw [HE0]; unfold uniS; rw [hn])
    clear hn
    clear hx hcase hq hv hcb hcr HN0 hc0 HE0
    go_enter Tryz.func23, Tryz.ntmps23
    go_wp2_with fail
    refine (HN.out _).mono ?_
    rintro x w' ⟨rfl, rfl⟩
    go_wp2_with fail
    clear e0 e1 e2 f0 f1 f2
    obtain ⟨g0, g1, g2⟩ := set3_cells K8.out (.int .i32 0) (.bool false) (.int .i64 6)
    refine bodyPost_ret (v := .tuple #[.agg #[.int .i32 0, .bool false, .int .i64 6], .bool false]) (by simp [results, Tryz.results23, go_sem, g0, g1, g2]) rfl ⟨PcV.none HE.out, set3_below' B8.out _ _ _ (Nat.le_refl _)⟩
  | some v =>
    rw [hn] at HN0
    unfold numV at HN0
    have HN := Lib.hid HN0
    have hb := numF_bound s 16 (by decide) 4 1 0 v (by decide) (numA_some hn).2
    have v0 : 0 ≤ v := by have := hb.1; rw [Int.zero_mul] at this; exact this
    have v1 : v ≤ 4294967296 := by
      have := hb.2
      have h2 : (0 + 1) * (16 : Int) ^ 4 ≤ 4294967296 := by decide
      omega
    have HL0 := fun w => letter_any v w v0 v1
    cases hl : letV v
    · rw [hl] at HL0
      have HL := Lib.hid HL0
      have HE := Lib.hid (show escS s q = none by rw [HE0]; unfold uniS; rw [hn]; simp only; rw [if_neg (by rw [hl]; decide)])
      clear hn hb hl HL0
      clear hx hcase hq hv hcb hcr HN0 hc0 HE0
      go_enter Tryz.func23, Tryz.ntmps23
      go_wp2_with fail
      refine (HN.out _).mono ?_
      rintro x w' ⟨rfl, rfl⟩
      go_wp2_with fail
      refine (HL.out _).mono ?_
      rintro x w' ⟨rfl, rfl⟩
      go_wp2_with fail
      clear e0 e1 e2 f0 f1 f2
      obtain ⟨g0, g1, g2⟩ := set3_cells K8.out (.int .i32 (wrap32 v)) (.bool false) (.int .i64 6)
      refine bodyPost_ret (v := .tuple #[.agg #[.int .i32 (wrap32 v), .bool false, .int .i64 6], .bool false]) (by simp [results, Tryz.results23, go_sem, g0, g1, g2]) rfl ⟨PcV.none HE.out, set3_below' B8.out _ _ _ (Nat.le_refl _)⟩
    · rw [hl] at HL0
      have HL := Lib.hid HL0
      have HE := Lib.hid (show escS s q = some ⟨v, false, 6⟩ by rw [HE0]; unfold uniS; rw [hn]; simp only; rw [if_pos hl])
      have hl2 := hl
      unfold letV at hl2
      rw [decide_eq_true_iff] at hl2
      have v2 : v ≤ 1114111 := hl2.1
      clear hn hb hl HL0 hl2
      clear hx hcase hq hv hcb hcr HN0 hc0 HE0
      go_enter Tryz.func23, Tryz.ntmps23
      go_wp2_with fail
      refine (HN.out _).mono ?_
      rintro x w' ⟨rfl, rfl⟩
      go_wp2_with fail
      refine (HL.out _).mono ?_
      rintro x w' ⟨rfl, rfl⟩
      go_wp2_with fail
      clear e0 e1 e2 f0 f1 f2
      obtain ⟨g0, g1, g2⟩ := set3_cells K8.out (.int .i32 v) (.bool false) (.int .i64 6)
      refine bodyPost_ret (v := .tuple #[.agg #[.int .i32 v, .bool false, .int .i64 6], .bool true]) (by simp [results, Tryz.results23, go_sem, g0, g1, g2]) rfl ⟨PcV.some HE.out rfl, set3_below' B8.out _ _ _ (Nat.le_refl _)⟩
set_option maxHeartbeats 8000000 in
set_option maxRecDepth 100000 in
theorem esc_u8 (s : ByteArray) (q : Int) (w : World) (hs : s.size ≤ 4010) (h0 : 0 < s.size) (hq : byteAt s 0 ≠ q) (hv : shortC (byteAt s 0) = none) (hc0 : byteAt s 0 = 85) :
    Calls Tryz.prog 23 #[.string s, .int .u8 q] w fun e w' => PcV (escS s q) e ∧ Below w.heap.size w w' := by
  have hne : s.toList.isEmpty = false := by
    rw [ByteArray.toList_eq]
    cases h9 : s.data.toList with
    | nil => exact absurd (show s.size = 0 by have := congrArg List.length h9; simpa using this) (by omega)
    | cons _ _ => rfl
  obtain ⟨c, hc⟩ : ∃ c : Int, (s[0].toNat : Int) = c := ⟨_, rfl⟩
  have hcb : byteAt s 0 = c := (byteAt_eq h0).trans hc
  have hcr := byteAt_range s 0
  rw [hcb] at hcr
  have hsI : (0 : Int) < (s.size : Int) := by omega
  have HE0 : escS s q = uniS s 8 := by unfold escS; rw [if_neg (show ¬ s.size = 0 by omega), if_neg hq, hv]; simp only; rw [if_neg (show ¬ byteAt s 0 = 120 by omega), if_neg (show ¬ byteAt s 0 = 117 by omega), if_pos hc0]
  have g : (c == q) = false := by rw [beq_eq_false_iff_ne, ← hcb]; exact hq
  have hb := BlockAt.new w #[.int .i32 0, .bool false, .int .i64 0] 38
  have bq : Below w.heap.size w (w.alloc (.cells #[.int .i32 0, .bool false, .int .i64 0] 38)) := (Below.refl _ _).alloc (Nat.le_refl _) _
  obtain ⟨x1, x2, x3, x4, x5, x6, x7, x8, ma, mok, r1, r2, r3, r4, r5, r6, r7, r8, rl, hcase, bl⟩ := short_map c (WalkArith.wf_u8 (by omega)) (w.alloc (.cells #[.int .i32 0, .bool false, .int .i64 0] 38))
  rw [show (w.alloc (.cells #[.int .i32 0, .bool false, .int .i64 0] 38)).heap.size = w.heap.size + 1 by simp] at r1 r2 r3 r4 r5 r6 r7 r8 rl
  have B8 := Lib.hid (bq.trans (bl.mono bq.size))
  have hb8 := hb.below bl
  have K8 := Lib.hid hb8
  have f0 := hb8.free 0
  have f1 := hb8.free 1
  have f2 := hb8.free 2
  obtain ⟨e0, e1, e2⟩ := cell3 hb8
  have hmm := @run_makeMap Tryz.prog
  clear hb bq bl hb8
  have hx : ma = 0 ∧ mok = false := by
    rw [hcb] at hv
    rcases hcase with ⟨p, r⟩ | ⟨_, p, r⟩
    · rw [hv] at p; cases p
    · exact ⟨p, r⟩
  rw [hx.1, hx.2] at rl
  have hsz := size_ext s 1 s.size (Nat.le_refl _)
  have HN0 := fun w => number_any (s.extract 1 s.size) 8 16 w (.inl rfl) (by decide) (by omega)
  rw [numA_end s 1 0 8 16 h0, Nat.add_zero] at HN0
  have g85 : (c == 85) = true := by rw [beq_iff_eq]; omega
  have g117 : (c == 117) = false := by rw [beq_eq_false_iff_ne]; omega
  have g120 : (c == 120) = false := by rw [beq_eq_false_iff_ne]; omega
  cases hn : numA s 1 8 16 with
  | none =>
    rw [hn] at HN0
    unfold numV at HN0
    have HN := Lib.hid HN0
    have HE := Lib.hid (show escS s q = none by rw [HE0]; unfold uniS; rw [hn])
    clear hn
    clear hx hcase hq hv hcb hcr HN0 hc0 HE0
    go_enter Tryz.func23, Tryz.ntmps23
    go_wp2_with fail
    refine (HN.out _).mono ?_
    rintro x w' ⟨rfl, rfl⟩
    go_wp2_with fail
    clear e0 e1 e2 f0 f1 f2
    obtain ⟨g0, g1, g2⟩ := set3_cells K8.out (.int .i32 0) (.bool false) (.int .i64 10)
    refine bodyPost_ret (v := .tuple #[.agg #[.int .i32 0, .bool false, .int .i64 10], .bool false]) (by simp [results, Tryz.results23, go_sem, g0, g1, g2]) rfl ⟨PcV.none HE.out, set3_below' B8.out _ _ _ (Nat.le_refl _)⟩
  | some v =>
    rw [hn] at HN0
    unfold numV at HN0
    have HN := Lib.hid HN0
    have hb := numF_bound s 16 (by decide) 8 1 0 v (by decide) (numA_some hn).2
    have v0 : 0 ≤ v := by have := hb.1; rw [Int.zero_mul] at this; exact this
    have v1 : v ≤ 4294967296 := by
      have := hb.2
      have h2 : (0 + 1) * (16 : Int) ^ 8 ≤ 4294967296 := by decide
      omega
    have HL0 := fun w => letter_any v w v0 v1
    cases hl : letV v
    · rw [hl] at HL0
      have HL := Lib.hid HL0
      have HE := Lib.hid (show escS s q = none by rw [HE0]; unfold uniS; rw [hn]; simp only; rw [if_neg (by rw [hl]; decide)])
      clear hn hb hl HL0
      clear hx hcase hq hv hcb hcr HN0 hc0 HE0
      go_enter Tryz.func23, Tryz.ntmps23
      go_wp2_with fail
      refine (HN.out _).mono ?_
      rintro x w' ⟨rfl, rfl⟩
      go_wp2_with fail
      refine (HL.out _).mono ?_
      rintro x w' ⟨rfl, rfl⟩
      go_wp2_with fail
      clear e0 e1 e2 f0 f1 f2
      obtain ⟨g0, g1, g2⟩ := set3_cells K8.out (.int .i32 (wrap32 v)) (.bool false) (.int .i64 10)
      refine bodyPost_ret (v := .tuple #[.agg #[.int .i32 (wrap32 v), .bool false, .int .i64 10], .bool false]) (by simp [results, Tryz.results23, go_sem, g0, g1, g2]) rfl ⟨PcV.none HE.out, set3_below' B8.out _ _ _ (Nat.le_refl _)⟩
    · rw [hl] at HL0
      have HL := Lib.hid HL0
      have HE := Lib.hid (show escS s q = some ⟨v, false, 10⟩ by rw [HE0]; unfold uniS; rw [hn]; simp only; rw [if_pos hl])
      have hl2 := hl
      unfold letV at hl2
      rw [decide_eq_true_iff] at hl2
      have v2 : v ≤ 1114111 := hl2.1
      clear hn hb hl HL0 hl2
      clear hx hcase hq hv hcb hcr HN0 hc0 HE0
      go_enter Tryz.func23, Tryz.ntmps23
      go_wp2_with fail
      refine (HN.out _).mono ?_
      rintro x w' ⟨rfl, rfl⟩
      go_wp2_with fail
      refine (HL.out _).mono ?_
      rintro x w' ⟨rfl, rfl⟩
      go_wp2_with fail
      clear e0 e1 e2 f0 f1 f2
      obtain ⟨g0, g1, g2⟩ := set3_cells K8.out (.int .i32 v) (.bool false) (.int .i64 10)
      refine bodyPost_ret (v := .tuple #[.agg #[.int .i32 v, .bool false, .int .i64 10], .bool true]) (by simp [results, Tryz.results23, go_sem, g0, g1, g2]) rfl ⟨PcV.some HE.out rfl, set3_below' B8.out _ _ _ (Nat.le_refl _)⟩
set_option maxHeartbeats 8000000 in
set_option maxRecDepth 100000 in
theorem esc_oct (s : ByteArray) (q : Int) (w : World) (hs : s.size ≤ 4010) (h0 : 0 < s.size) (hq : byteAt s 0 ≠ q) (hv : shortC (byteAt s 0) = none) (n120 : ¬ byteAt s 0 = 120) (n117 : ¬ byteAt s 0 = 117) (n85 : ¬ byteAt s 0 = 85) :
    Calls Tryz.prog 23 #[.string s, .int .u8 q] w fun e w' => PcV (escS s q) e ∧ Below w.heap.size w w' := by
  have hne : s.toList.isEmpty = false := by
    rw [ByteArray.toList_eq]
    cases h9 : s.data.toList with
    | nil => exact absurd (show s.size = 0 by have := congrArg List.length h9; simpa using this) (by omega)
    | cons _ _ => rfl
  obtain ⟨c, hc⟩ : ∃ c : Int, (s[0].toNat : Int) = c := ⟨_, rfl⟩
  have hcb : byteAt s 0 = c := (byteAt_eq h0).trans hc
  have hcr := byteAt_range s 0
  rw [hcb] at hcr
  have hsI : (0 : Int) < (s.size : Int) := by omega
  have HE0 : escS s q = octS s := by unfold escS; rw [if_neg (show ¬ s.size = 0 by omega), if_neg hq, hv]; simp only; rw [if_neg n120, if_neg n117, if_neg n85]
  have g : (c == q) = false := by rw [beq_eq_false_iff_ne, ← hcb]; exact hq
  have hb := BlockAt.new w #[.int .i32 0, .bool false, .int .i64 0] 38
  have bq : Below w.heap.size w (w.alloc (.cells #[.int .i32 0, .bool false, .int .i64 0] 38)) := (Below.refl _ _).alloc (Nat.le_refl _) _
  obtain ⟨x1, x2, x3, x4, x5, x6, x7, x8, ma, mok, r1, r2, r3, r4, r5, r6, r7, r8, rl, hcase, bl⟩ := short_map c (WalkArith.wf_u8 (by omega)) (w.alloc (.cells #[.int .i32 0, .bool false, .int .i64 0] 38))
  rw [show (w.alloc (.cells #[.int .i32 0, .bool false, .int .i64 0] 38)).heap.size = w.heap.size + 1 by simp] at r1 r2 r3 r4 r5 r6 r7 r8 rl
  have B8 := Lib.hid (bq.trans (bl.mono bq.size))
  have hb8 := hb.below bl
  have K8 := Lib.hid hb8
  have f0 := hb8.free 0
  have f1 := hb8.free 1
  have f2 := hb8.free 2
  obtain ⟨e0, e1, e2⟩ := cell3 hb8
  have hmm := @run_makeMap Tryz.prog
  clear hb bq bl hb8
  have hx : ma = 0 ∧ mok = false := by
    rw [hcb] at hv
    rcases hcase with ⟨p, r⟩ | ⟨_, p, r⟩
    · rw [hv] at p; cases p
    · exact ⟨p, r⟩
  rw [hx.1, hx.2] at rl
  have HN0 := fun w => number_any s 3 8 w (.inr rfl) (by decide) hs
  have g85 : (c == 85) = false := by rw [beq_eq_false_iff_ne]; omega
  have g117 : (c == 117) = false := by rw [beq_eq_false_iff_ne]; omega
  have g120 : (c == 120) = false := by rw [beq_eq_false_iff_ne]; omega
  cases hn : numA s 0 3 8 with
  | none =>
    rw [hn] at HN0
    unfold numV at HN0
    have HN := Lib.hid HN0
    have HE := Lib.hid (show escS s q = none by rw [HE0]; unfold octS; rw [hn])
    clear hn
    clear hx hcase hq hv hcb hcr HN0 HE0 n120 n117 n85
    go_enter Tryz.func23, Tryz.ntmps23
    go_wp2_with fail
    refine (HN.out _).mono ?_
    rintro x w' ⟨rfl, rfl⟩
    go_wp2_with fail
    clear e0 e1 e2 f0 f1 f2
    obtain ⟨g0, g1, g2⟩ := set3_cells K8.out (.int .i32 0) (.bool true) (.int .i64 4)
    refine bodyPost_ret (v := .tuple #[.agg #[.int .i32 0, .bool true, .int .i64 4], .bool false]) (by simp [results, Tryz.results23, go_sem, g0, g1, g2]) rfl ⟨PcV.none HE.out, set3_below' B8.out _ _ _ (Nat.le_refl _)⟩
  | some v =>
    rw [hn] at HN0
    unfold numV at HN0
    have HN := Lib.hid HN0
    have hb := numF_bound s 8 (by decide) 3 0 0 v (by decide) (numA_some hn).2
    have v0 : 0 ≤ v := by omega
    have v1 : v ≤ 512 := by omega
    by_cases hl : v ≤ 255
    · have HE := Lib.hid (show escS s q = some ⟨v, true, 4⟩ by rw [HE0]; unfold octS; rw [hn]; simp only; rw [if_pos hl])
      clear hn hb
      clear hx hcase hq hv hcb hcr HN0 HE0 n120 n117 n85
      go_enter Tryz.func23, Tryz.ntmps23
      go_wp2_with fail
      refine (HN.out _).mono ?_
      rintro x w' ⟨rfl, rfl⟩
      go_wp2_with fail
      clear e0 e1 e2 f0 f1 f2
      obtain ⟨g0, g1, g2⟩ := set3_cells K8.out (.int .i32 v) (.bool true) (.int .i64 4)
      refine bodyPost_ret (v := .tuple #[.agg #[.int .i32 v, .bool true, .int .i64 4], .bool true]) (by simp [results, Tryz.results23, go_sem, g0, g1, g2]) rfl ⟨PcV.some HE.out rfl, set3_below' B8.out _ _ _ (Nat.le_refl _)⟩
    · have HE := Lib.hid (show escS s q = none by rw [HE0]; unfold octS; rw [hn]; simp only; rw [if_neg hl])
      have hd : decide (v ≤ 255) = false := by rw [decide_eq_false_iff_not]; exact hl
      clear hn hb hl
      clear hx hcase hq hv hcb hcr HN0 HE0 n120 n117 n85
      go_enter Tryz.func23, Tryz.ntmps23
      go_wp2_with fail
      refine (HN.out _).mono ?_
      rintro x w' ⟨rfl, rfl⟩
      go_wp2_with fail
      clear e0 e1 e2 f0 f1 f2
      obtain ⟨g0, g1, g2⟩ := set3_cells K8.out (.int .i32 v) (.bool true) (.int .i64 4)
      refine bodyPost_ret (v := .tuple #[.agg #[.int .i32 v, .bool true, .int .i64 4], .bool false]) (by simp [results, Tryz.results23, go_sem, g0, g1, g2]) rfl ⟨PcV.none HE.out, set3_below' B8.out _ _ _ (Nat.le_refl _)⟩
theorem esc_any (s : ByteArray) (q : Int) (w : World) (hs : s.size ≤ 4010) :
    Calls Tryz.prog 23 #[.string s, .int .u8 q] w fun e w' => PcV (escS s q) e ∧ Below w.heap.size w w' := by
  by_cases h : s.size = 0
  · exact esc_empty s q w hs h
  have h0 : 0 < s.size := by omega
  by_cases hq : byteAt s 0 = q
  · exact esc_quote s q w hs h0 hq
  cases hv : shortC (byteAt s 0) with
  | some v => exact esc_short s q w hs h0 hq v hv
  | none =>
    by_cases h1 : byteAt s 0 = 120
    · exact esc_hex s q w hs h0 hq hv h1
    by_cases h2 : byteAt s 0 = 117
    · exact esc_u4 s q w hs h0 hq hv h2
    by_cases h3 : byteAt s 0 = 85
    · exact esc_u8 s q w hs h0 hq hv h3
    · exact esc_oct s q w hs h0 hq hv h1 h2 h3
end Go.Proofs.YtkafkcmhekgheaaGreatDoor
