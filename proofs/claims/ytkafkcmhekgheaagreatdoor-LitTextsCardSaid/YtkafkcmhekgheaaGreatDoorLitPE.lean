/- Literals: the program's Text: its walk. -/
import Derived.Test.YtkafkcmhekgheaaGreatDoorLitPD
import Derived.Maps.AppendAt
namespace Go.Proofs.YtkafkcmhekgheaaGreatDoor
open Go.RowKit
set_option linter.unusedSimpArgs false
set_option linter.unusedVariables false

def MaxAt (w : World) : Prop := ∃ m : Int, w.cell? ⟨3, 0, none⟩ = some (.int .i64 m)
theorem max_lt {w : World} (hM : MaxAt w) : 3 < w.heap.size := by
  obtain ⟨m, h⟩ := hM
  rcases Nat.lt_or_ge 3 w.heap.size with h1 | h1
  · exact h1
  · simp only [World.cell?, Array.getElem?_eq_none h1] at h
    cases h
theorem MaxAt.below {w w' : World} (hM : MaxAt w) (hb : Below w.heap.size w w') : MaxAt w' := by
  have hMl := max_lt hM
  obtain ⟨m, hm⟩ := hM
  exact ⟨m, (hb.cell (p := ⟨3, 0, none⟩) hMl).trans hm⟩
def optV : Option (List Int) → Value
  | none => .tuple #[.string ⟨#[]⟩, .int .i64 5]
  | some l => .tuple #[.string (strOfNums l), .int .i64 0]
/-- What Text gives. -/
def textV (s : ByteArray) : Value := if badE s = 0 then optV (ptextT s) else .tuple #[.string ⟨#[]⟩, .int .i64 (badE s)]
theorem info_byte : (Tryz.prog.info? 5).map (fun i => (i.zero, i.size, i.bytes)) = some (some (.int .u8 0), 1, 1) := by kernel_rfl
theorem info_parts {t : TypeId} {z : Value} {s b : Nat} (h : (Tryz.prog.info? t).map (fun i => (i.zero, i.size, i.bytes)) = some (some z, s, b)) : ∃ i, Tryz.prog.info? t = some i ∧ i.zero = some z ∧ i.size = s ∧ i.bytes = b := by
  obtain ⟨i, hi, hz⟩ := Option.map_eq_some_iff.1 h
  simp only [Prod.mk.injEq] at hz
  exact ⟨i, hi, hz.1, hz.2.1, hz.2.2⟩
theorem inF_step {f : Nat} {u : ByteArray} {p : Pc} (hu : 0 < u.size) (hp : firstT u 34 = some p) : inF (f + 1) u = (inF f (u.extract p.size u.size)).map (pcB p ++ ·) := by
  show (if u.size = 0 then some [] else match firstT u 34 with | none => none | some p => (inF f (u.extract p.size u.size)).map (pcB p ++ ·)) = _
  rw [if_neg (by omega), hp]
theorem inF_none {f : Nat} {u : ByteArray} (hu : 0 < u.size) (hp : firstT u 34 = none) : inF (f + 1) u = none := by
  show (if u.size = 0 then some [] else match firstT u 34 with | none => none | some p => (inF f (u.extract p.size u.size)).map (pcB p ++ ·)) = _
  rw [if_neg (by omega), hp]
theorem inF_end {f : Nat} {u : ByteArray} (hu : u.size = 0) : inF (f + 1) u = some [] := by
  show (if u.size = 0 then some [] else match firstT u 34 with | none => none | some p => (inF f (u.extract p.size u.size)).map (pcB p ++ ·)) = _
  rw [if_pos hu]
theorem map_add (o : Option (List Int)) (a b : List Int) : (o.map (b ++ ·)).map (a ++ ·) = o.map ((a ++ b) ++ ·) := by
  cases o with
  | none => rfl
  | some l => show some (a ++ (b ++ l)) = some ((a ++ b) ++ l); rw [List.append_assoc]
theorem pcB_len (p : Pc) : (pcB p).length ≤ 4 := by
  unfold pcB
  split
  · simp
  · exact (Lib.encodeRuneZ_length p.val).2
theorem quoted_next {t : ByteArray} {n : Nat} {p : Pc} (hn : n + 1 = t.size) (hf : Fine t 0) (hl : byteAt t n = 34) (hp : firstT (t.extract 0 n) 34 = some p) :
    PcOk t p ∧ p.size ≤ n ∧ (t.extract 0 n).extract p.size (t.extract 0 n).size = (t.extract p.size t.size).extract 0 (n - p.size) ∧ (n - p.size) + 1 = (t.extract p.size t.size).size ∧ Fine (t.extract p.size t.size) 0 ∧ byteAt (t.extract p.size t.size) (n - p.size) = 34 := by
  rw [first_cut hn (by decide) hl] at hp
  cases hq : firstT t 34 with
  | none => rw [hq] at hp; cases hp
  | some r =>
    rw [hq] at hp
    by_cases hk : r.size ≤ n
    · rw [fit_yes hk] at hp
      injection hp with hp
      subst hp
      have ok := first_ok (.inr rfl) hf hq
      exact ⟨ok, hk, cut_cut t n r.size hn hk, by rw [size_ext _ _ _ (Nat.le_refl _)]; omega, ok.fine.part, by rw [byte_end, ← hl]; congr 1; omega⟩
    · rw [fit_no hk] at hp
      cases hp
theorem block_grown {w w' : World} {b : Nat} {xs : Array Value} {T : TypeId} {row : Option Nat} (hg : w.grownBy w' row) (h : BlockAt w b xs T) (hn : row ≠ some b) : BlockAt w' b xs T := by
  unfold BlockAt at *
  rw [hg.block b (Array.getElem?_eq_some_iff.1 h).1 (fun e => hn e.symm)]
  exact h
theorem OB.not_new {w : World} {base : Nat} {v : Value} {l : List Int} (h : OB w base v l) : v.ownBlock ≠ some w.heap.size := fun he => by
  have := World.ownsRow.lt h _ he
  omega
theorem B8_runes (r : Int) : Lib.runeCells r = B8 (Lib.encodeRuneZ r) := rfl
set_option maxHeartbeats 8000000 in
set_option maxRecDepth 100000 in
theorem ptext_bad (s : ByteArray) (w : World) (hs : s.size ≤ 4010) (hbad : badE s ≠ 0) :
    Calls Tryz.prog 5 #[.string s] w fun e w' => e = .returned (textV s) ∧ Below w.heap.size w w' := by
  have HC := Lib.hid (check_err s w hs)
  have HE := Lib.hid (show textV s = .tuple #[.string ⟨#[]⟩, .int .i64 (badE s)] by unfold textV; rw [if_neg hbad])
  obtain ⟨b, hb⟩ : ∃ b, badE s = b := ⟨_, rfl⟩
  have H1 := HC.out
  have H2 := HE.out
  rw [hb] at H1 H2 hbad
  have HC2 := Lib.hid H1
  have HE2 := Lib.hid H2
  have n1 : (b != 0) = true := by rw [bne_iff_ne]; exact hbad
  clear H1 H2 HC HE hb hbad
  go_enter Tryz.func5, Tryz.ntmps5
  go_wp2_with fail
  refine HC2.out.mono ?_
  rintro x w1 ⟨⟨k, rfl⟩, hb⟩
  have B1 := Lib.hid hb
  clear hb
  go_wp2_with fail
  go_ret2
  exact ⟨by rw [HE2.out]; rfl, B1.out⟩
set_option maxHeartbeats 8000000 in
set_option maxRecDepth 100000 in
theorem ptext_raw (s : ByteArray) (w : World) (hs : s.size ≤ 4010) (hbad : badE s = 0) (hM : MaxAt w) (hbt : betwB s 96 = true) (hh : hasB s 1 (s.size - 1) 96 = false) :
    Calls Tryz.prog 5 #[.string s] w fun e w' => e = .returned (textV s) ∧ Below w.heap.size w w' := by
  have H1 := check_err s w hs
  rw [hbad] at H1
  have HC2 := Lib.hid H1
  have HBT0 := fun w => between_any s 96 w hs
  have hbs : betwS s 96 = s.extract 1 (s.size - 1) := by unfold betwS; rw [if_pos hbt]
  have hb2 := hbt
  unfold betwB at hb2
  rw [decide_eq_true_iff] at hb2
  rw [hbt, hbs] at HBT0
  have hisz := size_ext s 1 (s.size - 1) (by omega)
  have HE := Lib.hid (show textV s = .tuple #[.string (strOfNums (rawL s 1 (s.size - 1))), .int .i64 0] by
    unfold textV ptextT
    rw [if_pos hbad, if_pos (show 2 ≤ s.size ∧ byteAt s 0 = 96 ∧ byteAt s (s.size - 1) = 96 ∧ hasB s 1 (s.size - 1) 96 = false from ⟨hb2.1, hb2.2.1, hb2.2.2, hh⟩)]
    rfl)
  have HN0 := fun w => Tryz.strings_Contains_one (s.extract 1 (s.size - 1)) 96 w
  rw [has_index s 1 (s.size - 1) (by omega) 96, show ((96 : UInt8).toNat : Int) = 96 from rfl, hh] at HN0
  have HR0 := fun w m hm => Tryz.strings_ReplaceAll (s.extract 1 (s.size - 1)) ⟨#[13]⟩ ⟨#[]⟩ m w (by omega) hm (by decide) (by rw [show (⟨#[]⟩ : ByteArray).size = 0 from rfl, Nat.mul_zero]; omega)
  have hraw := raw_out s 1 (s.size - 1) (by omega)
  have HR1 : ∀ w, MaxAt w → Calls Tryz.prog 14 #[.string (s.extract 1 (s.size - 1)), .string ⟨#[13]⟩, .string ⟨#[]⟩] w fun e w' => e = .returned (.string (strOfNums (rawL s 1 (s.size - 1)))) ∧ Below w.heap.size w w' := fun w hm => by
    obtain ⟨m, hm⟩ := hm
    have := HR0 w m hm
    rw [show (⟨#[13]⟩ : ByteArray).data.toList = [13] from rfl, show (⟨#[]⟩ : ByteArray).data.toList = [] from rfl, hraw] at this
    exact this
  obtain ⟨u, hu⟩ : ∃ u, s.extract 1 (s.size - 1) = u := ⟨_, rfl⟩
  rw [hu] at HBT0 HN0 HR1
  have HBT := Lib.hid HBT0
  have HN := Lib.hid HN0
  have HRA := Lib.hid HR1
  have HMM := Lib.hid (fun w' (hb : Below w.heap.size w w') => hM.below hb)
  clear H1 HBT0 HN0 HR0 HR1 hraw hbt hbad hh hb2 hbs hisz hu hM
  go_enter Tryz.func5, Tryz.ntmps5
  go_wp2_with fail
  refine HC2.out.mono ?_
  rintro x w1 ⟨⟨k, rfl⟩, hb⟩
  have B1 := Lib.hid hb
  clear hb
  go_wp2_with fail
  refine (HBT.out _).mono ?_
  rintro x w' ⟨rfl, rfl⟩
  go_wp2_with fail
  refine (HN.out _).mono ?_
  rintro x w' ⟨rfl, rfl⟩
  go_wp2_with fail
  refine (HRA.out _ (HMM.out _ B1.out)).mono ?_
  rintro x w2 ⟨rfl, hb⟩
  have B2 := Lib.hid (B1.out.trans (hb.mono B1.out.size))
  clear hb
  go_wp2_with fail
  go_ret2
  exact ⟨by rw [HE.out]; rfl, B2.out⟩
/-- Not between bytes 96, or one is inside: what the walk does up to the second look. -/
def NoRaw (s : ByteArray) : Prop := betwB s 96 = false ∨ (betwB s 96 = true ∧ hasB s 1 (s.size - 1) 96 = true)
theorem noraw {s : ByteArray} (h : NoRaw s) : ¬ (2 ≤ s.size ∧ byteAt s 0 = 96 ∧ byteAt s (s.size - 1) = 96 ∧ hasB s 1 (s.size - 1) 96 = false) := by
  rintro ⟨a, b, c, d⟩
  rcases h with h | ⟨h, h2⟩
  · unfold betwB at h
    rw [decide_eq_false_iff_not] at h
    exact h ⟨a, b, c⟩
  · rw [d] at h2; cases h2
set_option maxHeartbeats 8000000 in
set_option maxRecDepth 100000 in
theorem ptext_none (s : ByteArray) (w : World) (hs : s.size ≤ 4010) (hbad : badE s = 0) (hnr : NoRaw s) (h34 : betwB s 34 = false) :
    Calls Tryz.prog 5 #[.string s] w fun e w' => e = .returned (textV s) ∧ Below w.heap.size w w' := by
  have H1 := check_err s w hs
  rw [hbad] at H1
  have HC2 := Lib.hid H1
  have HE := Lib.hid (show textV s = .tuple #[.string ⟨#[]⟩, .int .i64 5] by
    unfold textV ptextT
    rw [if_pos hbad, if_neg (noraw hnr), if_neg]
    · rfl
    · unfold betwB at h34
      rw [decide_eq_false_iff_not] at h34
      exact h34)
  have HB0 := fun w => between_any s 34 w hs
  rw [h34] at HB0
  have HB34 := Lib.hid HB0
  have HA0 := fun w => between_any s 96 w hs
  clear H1 HB0 h34 hbad
  rcases hnr with h | ⟨h, h2⟩
  · rw [h] at HA0
    have HA := Lib.hid HA0
    clear HA0 h
    go_enter Tryz.func5, Tryz.ntmps5
    go_wp2_with fail
    refine HC2.out.mono ?_
    rintro x w1 ⟨⟨k, rfl⟩, hb⟩
    have B1 := Lib.hid hb
    clear hb
    go_wp2_with fail
    refine (HA.out _).mono ?_
    rintro x w' ⟨rfl, rfl⟩
    go_wp2_with fail
    refine (HB34.out _).mono ?_
    rintro x w' ⟨rfl, rfl⟩
    go_wp2_with fail
    go_ret2
    exact ⟨by rw [HE.out]; rfl, B1.out⟩
  · have hbs : betwS s 96 = s.extract 1 (s.size - 1) := by unfold betwS; rw [if_pos h]
    rw [h, hbs] at HA0
    have HA := Lib.hid HA0
    have HN0 := fun w => Tryz.strings_Contains_one (s.extract 1 (s.size - 1)) 96 w
    rw [has_index s 1 (s.size - 1) (by omega) 96, show ((96 : UInt8).toNat : Int) = 96 from rfl, h2] at HN0
    have HN := Lib.hid HN0
    clear HA0 h h2 hbs HN0
    go_enter Tryz.func5, Tryz.ntmps5
    go_wp2_with fail
    refine HC2.out.mono ?_
    rintro x w1 ⟨⟨k, rfl⟩, hb⟩
    have B1 := Lib.hid hb
    clear hb
    go_wp2_with fail
    refine (HA.out _).mono ?_
    rintro x w' ⟨rfl, rfl⟩
    go_wp2_with fail
    refine (HN.out _).mono ?_
    rintro x w' ⟨rfl, rfl⟩
    go_wp2_with fail
    refine (HB34.out _).mono ?_
    rintro x w' ⟨rfl, rfl⟩
    go_wp2_with fail
    go_ret2
    exact ⟨by rw [HE.out]; rfl, B1.out⟩
set_option maxHeartbeats 32000000 in
set_option maxRecDepth 100000 in
theorem ptext_quoted0 (s : ByteArray) (w : World) (hs : s.size ≤ 4010) (hbad : badE s = 0) (hT : Tabs w) (h96 : betwB s 96 = false) (h34 : betwB s 34 = true) (hnr : NoRaw s) :
    Calls Tryz.prog 5 #[.string s] w fun e w' => e = .returned (textV s) ∧ Below w.heap.size w w' := by
  have H1 := check_err s w hs
  rw [hbad] at H1
  have HC2 := Lib.hid H1
  have hsp : spoil s = -1 := by
    rcases badE_cases s with ⟨h, h1⟩ | ⟨h, h1, h2⟩ | ⟨h, h1, h2⟩
    · omega
    · exact h2
    · omega
  have hb2 := h34
  unfold betwB at hb2
  rw [decide_eq_true_iff] at hb2
  have hbs : betwS s 34 = s.extract 1 (s.size - 1) := by unfold betwS; rw [if_pos h34]
  obtain ⟨RR, hRR⟩ : ∃ RR, inF s.size (s.extract 1 (s.size - 1)) = RR := ⟨_, rfl⟩
  have HE := Lib.hid (show textV s = optV RR by
    unfold textV ptextT
    rw [if_pos hbad, if_neg (noraw hnr), if_pos hb2, hRR])
  have HB0 := fun w => between_any s 34 w hs
  rw [h34, hbs] at HB0
  have hsz1 : (s.extract 1 s.size).size = s.size - 1 := size_ext _ _ _ (Nat.le_refl _)
  have hfi := fine_one hsp (by omega) (by omega)
  have hla : byteAt (s.extract 1 s.size) (s.size - 2) = 34 := by rw [byte_end, ← hb2.2.2]; congr 1; omega
  obtain ⟨t0, ht0⟩ : ∃ t, s.extract 1 s.size = t := ⟨_, rfl⟩
  obtain ⟨n0, hn0⟩ : ∃ n, s.size - 2 = n := ⟨_, rfl⟩
  rw [part_cut s hb2.1, ht0, hn0] at HB0 hRR
  rw [ht0, hn0] at hla
  rw [ht0] at hfi hsz1
  have hnt : n0 + 1 = t0.size := by omega
  have hn4 : n0 ≤ 4010 := by omega
  have hfu : n0 + 1 ≤ s.size := by omega
  have HB34 := Lib.hid HB0
  have HFI := Lib.hid hfi
  have HLA := Lib.hid hla
  have HNT := Lib.hid hnt
  have HRR := Lib.hid (show (inF s.size (t0.extract 0 n0)).map ([] ++ ·) = RR by rw [hRR]; cases RR <;> rfl)
  have HFU := Lib.hid hfu
  have HTB := Lib.hid (fun w1 (hb : Below w.heap.size w w1) => hT.below hb)
  have hu0 : (t0.extract 0 n0).size = n0 := by rw [size_ext _ _ _ (by omega)]; omega
  obtain ⟨i0, hi0, hz0, hz1, hz2⟩ := info_parts info_byte
  obtain ⟨cur, hcs, hmk⟩ : ∃ cur : Array Value, cur.size = n0 * 1 ∧ ∀ W, (Instr.makeSlice 43 (.int .i64 0) (.int .i64 (n0 : Int))).run Tryz.prog W = .ok (.slice (some ⟨W.heap.size, 0, none⟩) 0 n0) (W.alloc (.cells cur 5)) := by
    refine ⟨madeCells (Value.int .u8 0).cells (n0 * 1), size_madeCells _ _, fun W => ?_⟩
    have h := run_make (P := Tryz.prog) W 43 5 i0 _ Tryz.underlying43 hi0 hz0 .i64 .i64 0 (n0 : Int) (Int.le_refl _) (by omega) (by rw [hz2]; omega) (by omega)
    rw [Int.toNat_natCast, hz1] at h
    exact h
  have HCS := Lib.hid hcs
  have HA0 := fun w => between_any s 96 w hs
  rw [h96] at HA0
  have HA := Lib.hid HA0
  clear HA0 h96
  clear H1 hsp hb2 hbs HB0 hsz1 hfi hla ht0 hn0 hnt hfu hRR hT hcs hbad h34
  go_enter Tryz.func5, Tryz.ntmps5
  go_wp2_with fail
  refine HC2.out.mono ?_
  rintro x w1 ⟨⟨k, rfl⟩, hb⟩
  have B1 := Lib.hid hb
  clear hb
  go_wp2_with fail
  refine (HA.out _).mono ?_
  rintro x w' ⟨rfl, rfl⟩
  go_wp2_with fail
  refine (HB34.out _).mono ?_
  rintro x w' ⟨rfl, rfl⟩
  go_wp2_with fail
  clear hmk hu0
  have bq : Below w1.heap.size w1 (w1.alloc (.cells cur 5)) := (Below.refl _ _).alloc (Nat.le_refl _) _
  have O1 := Lib.hid (show OB (w1.alloc (.cells cur 5)) w.heap.size (.slice (some ⟨w1.heap.size, 0, none⟩) 0 n0) [] from World.ownsRow_made w1 cur n0 B1.out.size (by unfold maxLen; omega) HCS.out)
  have B2 := Lib.hid (B1.out.trans (bq.mono B1.out.size))
  clear bq
  go_loopg [8, 10] n0 (fun k vu vo wr => ∃ (t : ByteArray) (f : Nat) (l : List Int), vu = .string (t.extract 0 k) ∧ Hid (k + 1 = t.size) ∧ Hid (k + 1 ≤ f) ∧ k ≤ 4010 ∧ l.length + 4 * k ≤ 16100 ∧ Hid (Fine t 0) ∧ Hid (byteAt t k = 34) ∧ Hid ((inF f (t.extract 0 k)).map (l ++ ·) = RR) ∧ Hid (OB wr w.heap.size vo l) ∧ Hid (Below w.heap.size w wr))
  case atStart => exact ⟨t0, s.size, [], rfl, HNT, HFU, hn4, by simp; omega, HFI, HLA, HRR, O1, B2⟩
  case round =>
    obtain ⟨t, f, l, rfl, HN, HF, hn4', hll, HFi, HLa, HR, HO, BR⟩ := hrel
    obtain ⟨n, rfl⟩ : ∃ n : Nat, n = gk := ⟨_, rfl⟩
    obtain ⟨u, hu⟩ : ∃ u, t.extract 0 n = u := ⟨_, rfl⟩
    have husz : u.size = n := by rw [← hu, size_ext _ _ _ (by have := HN.out; omega)]; omega
    have hR := HR.out
    rw [hu] at hR ⊢
    obtain ⟨f', hf'⟩ : ∃ f', f = f' + 1 := ⟨f - 1, by have := HF.out; omega⟩
    rw [hf'] at hR
    obtain ⟨ao, cap, rfl⟩ := HO.out.slice
    by_cases h0 : n = 0
    · have he := toList_nil (s := u) (by omega)
      rw [inF_end (by omega)] at hR
      have HRX := Lib.hid (show RR = some l by rw [← hR]; show some (l ++ []) = some l; rw [List.append_nil])
      have hconv := HO.out.text
      clear hR hu husz h0 hf'
      go_wp2_with fail
      go_ret2
      exact ⟨by rw [HE.out, HRX.out]; rfl, BR.out⟩
    · have hne := isEmpty_no (s := u) (by omega)
      have hz : 0 < u.size → szAt u 0 ≠ 0 := fun _ => by
        have hN := HN.out
        have hL := HLa.out
        have hg := good_size (HFi.out.good (by omega))
        rw [← hu, sz_cut hN (by omega) (by omega)]
        omega
      have HX := Lib.hid (pfirst_any u 34 wr (by omega) hz (HTB.out _ BR.out))
      have HU := Lib.hid hu
      have HS := Lib.hid husz
      have HR2 := Lib.hid hR
      have HF2 := Lib.hid hf'
      have HN0 := Lib.hid h0
      clear hz hR hu husz hf' h0 HR
      go_wp2_with fail
      refine HX.out.mono ?_
      rintro x w2 ⟨⟨a, p, m, ok, rfl, hcase⟩, hb⟩
      have B3 := Lib.hid (BR.out.trans (hb.mono BR.out.size))
      have O3 := Lib.hid (HO.out.kept hb)
      clear hb HX BR HO
      rcases hcase with ⟨hn, rfl⟩ | ⟨pc, hp, rfl, rfl, rfl, rfl⟩
      · have HRX := Lib.hid (show RR = none by
          have := HR2.out
          rw [inF_none (by have := HS.out; have := HN0.out; omega) hn] at this
          exact this.symm)
        clear hn
        go_wp2_with fail
        go_ret2
        exact ⟨by rw [HE.out, HRX.out]; rfl, B3.out.alloc B3.out.size _⟩
      · have hq := quoted_next (p := pc) HN.out HFi.out HLa.out (by rw [HU.out]; exact hp)
        rw [HU.out] at hq
        have HRX := Lib.hid (show (inF f' (u.extract pc.size u.size)).map ((l ++ pcB pc) ++ ·) = RR by
          have := HR2.out
          rw [inF_step (by have := HS.out; have := HN0.out; omega) hp, map_add] at this
          exact this)
        rw [hq.2.2.1] at HRX
        have HQ := Lib.hid hq
        have hpn := hq.2.1
        have hp1 := hq.1.pos
        have hlen := pcB_len pc
        have hszI : (pc.size : Int) ≤ (u.size : Int) := by have := HS.out; omega
        have hby := hq.1.byte
        have hle := hq.1.letter
        obtain ⟨pv, pp, pn⟩ := pc
        simp only at hpn hp1 hszI hby hle
        cases pp
        · have hv := hle rfl
          have v0 := hv.1
          have v1 := hv.2.1
          have hbx := BlockAt.new w2 #[.int .i32 pv, .bool false, .int .i64 (pn : Int)] 38
          have bqx : Below w2.heap.size w2 (w2.alloc (.cells #[.int .i32 pv, .bool false, .int .i64 (pn : Int)] 38)) := (Below.refl _ _).alloc (Nat.le_refl _) _
          have O4 := Lib.hid (O3.out.kept bqx)
          have B4 := Lib.hid (B3.out.trans (bqx.mono B3.out.size))
          have HAR := Lib.hid (Tryz.utf8_AppendRune_plain w.heap.size (.slice ao l.length cap) l.length (B8 l) pv (by omega) (by omega) (w2.alloc (.cells #[.int .i32 pv, .bool false, .int .i64 (pn : Int)] 38)) O4.out (by omega) B4.out.size)
          have KB := Lib.hid hbx
          have hpB : pcB ⟨pv, false, pn⟩ = Lib.encodeRuneZ pv := rfl
          have HPB := Lib.hid hpB
          clear hq hp hby hle hv hbx bqx hpB
          go_wp2_with fail
          refine HAR.out.mono ?_
          rintro x w5 ⟨v5, rfl, ho5, o5, hg5⟩
          have K5 := Lib.hid (block_grown hg5 (KB.out.below ((Below.refl _ _).alloc (Nat.le_refl _) o5)) O3.out.not_new)
          have B5 := Lib.hid (O4.out.grown B4.out (Nat.le_refl _) rfl hg5)
          rw [B8_runes] at ho5
          have O5 := Lib.hid (OB.more (l := l) (m := Lib.encodeRuneZ pv) (by simp [B8]) ho5)
          rw [← HPB.out] at O5
          clear ho5 hg5 HAR
          obtain ⟨e0, e1, e2⟩ := cell3 K5.out
          go_wp2_with fail
          go_roundg (n - pn)
          case rel => exact ⟨t.extract pn t.size, f', l ++ pcB ⟨pv, false, pn⟩, by rw [← HQ.out.2.2.1], Lib.hid HQ.out.2.2.2.1, Lib.hid (by have := HF.out; have := HF2.out; omega), by omega, by rw [List.length_append]; omega, Lib.hid HQ.out.2.2.2.2.1, Lib.hid HQ.out.2.2.2.2.2, HRX, O5, B5⟩
          case measure => have := HN0.out; omega
        · have hv := hby rfl
          have v0 := hv.1
          have v1 := hv.2
          have hbx := BlockAt.new w2 #[.int .i32 pv, .bool true, .int .i64 (pn : Int)] 38
          have bqx : Below w2.heap.size w2 (w2.alloc (.cells #[.int .i32 pv, .bool true, .int .i64 (pn : Int)] 38)) := (Below.refl _ _).alloc (Nat.le_refl _) _
          have O4 := Lib.hid (O3.out.kept bqx)
          have B4 := Lib.hid (B3.out.trans (bqx.mono B3.out.size))
          have KB := Lib.hid hbx
          have hpB : pcB ⟨pv, true, pn⟩ = [pv] := rfl
          have HPB := Lib.hid hpB
          have hb4 := B4.out.size
          have hb3 := B3.out.size
          clear hq hp hby hle hv hbx bqx hpB
          go_wp2_with (at_builtin; refine wpList_append_own_at _ rfl _ _ 43 rfl w.heap.size 5 i0 (.int .u8 0) 1 1 Tryz.underlying43 hi0 hz0 hz1 hz2 rfl (by decide) (.slice ao l.length cap) l.length (B8 l) rfl (World.ownsRow.alloc O4.out _) ⟨w2.heap.size + 1, 0, none⟩ 1 1 [.int .u8 pv] rfl rfl ?c1 ?c2 ?c3 ?c4 ?c5 ?_)
          case c1 =>
            intro j z hz
            have h := cell_one_new (w2.alloc (.cells #[.int .i32 pv, .bool true, .int .i64 (pn : Int)] 38)) (.int .u8 pv) 5 j z hz
            rw [show (w2.alloc (.cells #[.int .i32 pv, .bool true, .int .i64 (pn : Int)] 38)).heap.size = w2.heap.size + 1 by simp] at h
            exact h
          case c2 => simp [Value.oneCell']
          case c3 => unfold maxLen; omega
          case c4 => omega
          case c5 => simp; omega
          intro v5 w5 ho5 hg5 _ _
          have K5 := Lib.hid (block_grown hg5 (KB.out.below ((Below.refl _ _).alloc (Nat.le_refl _) _)) O3.out.not_new)
          have B5 := Lib.hid (O4.out.grown B4.out (Nat.le_refl _) rfl hg5)
          have O5 := Lib.hid (OB.more (l := l) (m := [pv]) rfl ho5)
          rw [← HPB.out] at O5
          clear ho5 hg5
          obtain ⟨e0, e1, e2⟩ := cell3 K5.out
          go_wp2_with fail
          go_roundg (n - pn)
          case rel => exact ⟨t.extract pn t.size, f', l ++ pcB ⟨pv, true, pn⟩, by rw [← HQ.out.2.2.1], Lib.hid HQ.out.2.2.2.1, Lib.hid (by have := HF.out; have := HF2.out; omega), by omega, by rw [List.length_append]; omega, Lib.hid HQ.out.2.2.2.2.1, Lib.hid HQ.out.2.2.2.2.2, HRX, O5, B5⟩
          case measure => have := HN0.out; omega
theorem betw_one {s : ByteArray} {p q : Int} (hp : betwB s p = true) (hq : betwB s q = true) : p = q := by
  unfold betwB at hp hq
  rw [decide_eq_true_iff] at hp hq
  exact hp.2.1.symm.trans hq.2.1
theorem ptext_any (s : ByteArray) (w : World) (hs : s.size ≤ 4010) (hT : Tabs w) (hM : MaxAt w) :
    Calls Tryz.prog 5 #[.string s] w fun e w' => e = .returned (textV s) ∧ Below w.heap.size w w' := by
  by_cases hbad : badE s = 0
  rotate_left
  · exact ptext_bad s w hs hbad
  cases h96 : betwB s 96
  · cases h34 : betwB s 34
    · exact ptext_none s w hs hbad (.inl h96) h34
    · exact ptext_quoted0 s w hs hbad hT h96 h34 (.inl h96)
  · have h34 : betwB s 34 = false := by
      cases h : betwB s 34
      · rfl
      · exact absurd (betw_one h96 h) (by decide)
    cases hh : hasB s 1 (s.size - 1) 96
    · exact ptext_raw s w hs hbad hM h96 hh
    · exact ptext_none s w hs hbad (.inr ⟨h96, hh⟩) h34
end Go.Proofs.YtkafkcmhekgheaaGreatDoor
