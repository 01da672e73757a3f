/- Literals: the program's first and Rune. -/
import Derived.Test.YtkafkcmhekgheaaGreatDoorLitPB
import Derived.Test.YtkafkcmhekgheaaGreatDoorSrcCheckWalk
namespace Go.Proofs.YtkafkcmhekgheaaGreatDoor
open Go.RowKit
set_option linter.unusedSimpArgs false
set_option linter.unusedVariables false

def Tabs (w : World) : Prop := Lib.Utf8Tabs 1 2 w
theorem Tabs.below {w w' : World} (h : Tabs w) (hb : Below w.heap.size w w') : Tabs w' := Utf8Tabs_below h hb
theorem isEmpty_no {s : ByteArray} (h : 0 < s.size) : s.toList.isEmpty = false := by
  rw [ByteArray.toList_eq]
  cases h9 : s.data.toList with
  | nil => exact absurd (show s.size = 0 by have := congrArg List.length h9; simpa using this) (by omega)
  | cons _ _ => rfl
theorem toList_nil {s : ByteArray} (h : s.size = 0) : s.toList = [] := by rw [ByteArray.toList_eq]; exact List.eq_nil_of_length_eq_zero (by simpa using h)
theorem first_none {s : ByteArray} {q : Int} (h : s.size = 0 ∨ byteAt s 0 = 10 ∨ byteAt s 0 = q) : firstT s q = none := if_pos h
set_option maxHeartbeats 4000000 in
set_option maxRecDepth 100000 in
theorem first_empty (s : ByteArray) (q : Int) (w : World) (h : s.size = 0) :
    Calls Tryz.prog 12 #[.string s, .int .u8 q] w fun e w' => PcV (firstT s q) e ∧ Below w.heap.size w w' := by
  have HE := Lib.hid (first_none (q := q) (.inl h))
  have he := toList_nil h
  clear h
  go_enter Tryz.func12, Tryz.ntmps12
  go_wp2_with fail
  refine bodyPost_ret (v := .tuple #[.agg #[.int .i32 0, .bool false, .int .i64 0], .bool false]) (by simp [results, Tryz.results12, go_sem]) rfl ⟨PcV.none HE.out, (Below.refl _ _).alloc (Nat.le_refl _) _⟩
set_option maxHeartbeats 4000000 in
set_option maxRecDepth 100000 in
theorem first_stop (s : ByteArray) (q : Int) (w : World) (h0 : 0 < s.size) (h : byteAt s 0 = 10 ∨ byteAt s 0 = q) :
    Calls Tryz.prog 12 #[.string s, .int .u8 q] w fun e w' => PcV (firstT s q) e ∧ Below w.heap.size w w' := by
  have HE := Lib.hid (first_none (q := q) (.inr h))
  have hne := isEmpty_no h0
  have hsI : (0 : Int) < (s.size : Int) := by omega
  obtain ⟨c, hc⟩ : ∃ c : Int, (s[0].toNat : Int) = c := ⟨_, rfl⟩
  have hcb : byteAt s 0 = c := (byteAt_eq h0).trans hc
  rw [hcb] at h
  clear hcb
  by_cases h1 : c = 10
  · have g : (c == 10) = true := by rw [h1]; rfl
    clear h h1
    go_enter Tryz.func12, Tryz.ntmps12
    go_wp2_with fail
    refine bodyPost_ret (v := .tuple #[.agg #[.int .i32 0, .bool false, .int .i64 0], .bool false]) (by simp [results, Tryz.results12, go_sem]) rfl ⟨PcV.none HE.out, (Below.refl _ _).alloc (Nat.le_refl _) _⟩
  · have g : (c == 10) = false := by rw [beq_eq_false_iff_ne]; exact h1
    have g2 : (c == q) = true := by rw [beq_iff_eq]; rcases h with h | h; · exact absurd h h1
                                    · exact h
    clear h h1
    go_enter Tryz.func12, Tryz.ntmps12
    go_wp2_with fail
    refine bodyPost_ret (v := .tuple #[.agg #[.int .i32 0, .bool false, .int .i64 0], .bool false]) (by simp [results, Tryz.results12, go_sem]) rfl ⟨PcV.none HE.out, (Below.refl _ _).alloc (Nat.le_refl _) _⟩
set_option maxHeartbeats 4000000 in
set_option maxRecDepth 100000 in
theorem first_go (s : ByteArray) (q : Int) (w : World) (hs : s.size ≤ 4010) (h0 : 0 < s.size) (h : ¬ (byteAt s 0 = 10 ∨ byteAt s 0 = q)) (hz : szAt s 0 ≠ 0) (hT : Tabs w) :
    Calls Tryz.prog 12 #[.string s, .int .u8 q] w fun e w' => PcV (firstT s q) e ∧ Below w.heap.size w w' := by
  have HE0 : firstT s q = if byteAt s 0 = 92 then escT s q else some ⟨valT s, false, (szAt s 0).toNat⟩ := by unfold firstT; rw [if_neg (show ¬ (s.size = 0 ∨ byteAt s 0 = 10 ∨ byteAt s 0 = q) by omega)]
  have hne := isEmpty_no h0
  have hsI : (0 : Int) < (s.size : Int) := by omega
  obtain ⟨c, hc⟩ : ∃ c : Int, (s[0].toNat : Int) = c := ⟨_, rfl⟩
  have hcb : byteAt s 0 = c := (byteAt_eq h0).trans hc
  rw [hcb] at h HE0
  have g10 : (c == 10) = false := by rw [beq_eq_false_iff_ne]; omega
  have gq : (c == q) = false := by rw [beq_eq_false_iff_ne]; omega
  obtain ⟨w1, hw⟩ : ∃ w1, w.alloc (.cells #[.int .i32 0, .bool false, .int .i64 0] 38) = w1 := ⟨_, rfl⟩
  have hb := BlockAt.new w #[.int .i32 0, .bool false, .int .i64 0] 38
  have bq : Below w.heap.size w (w.alloc (.cells #[.int .i32 0, .bool false, .int .i64 0] 38)) := (Below.refl _ _).alloc (Nat.le_refl _) _
  rw [hw] at hb bq
  have K1 := Lib.hid hb
  have B1 := Lib.hid bq
  have HT1 := Lib.hid (hT.below bq)
  clear hb bq hT h hcb
  by_cases h92 : c = 92
  · have g92 : (c == 92) = true := by rw [h92]; rfl
    rw [if_pos h92, ← escS_eq q h0] at HE0
    have hsz := size_ext s 1 s.size (Nat.le_refl _)
    have HX := Lib.hid (esc_any (s.extract 1 s.size) q w1 (by omega))
    have HE := Lib.hid HE0
    clear HE0 h92
    go_enter Tryz.func12, Tryz.ntmps12
    go_wp2_with fail
    clear hw
    refine HX.out.mono ?_
    rintro x w2 ⟨⟨a, p, n, ok, rfl, hcase⟩, hb2⟩
    have K2 := Lib.hid (K1.out.below hb2)
    have B2 := Lib.hid (B1.out.trans (hb2.mono B1.out.size))
    have HC := Lib.hid hcase
    clear hb2 hcase K1 B1 HX
    have f0 := K2.out.free 0
    have f1 := K2.out.free 1
    have f2 := K2.out.free 2
    obtain ⟨e0, e1, e2⟩ := cell3 K2.out
    go_wp2_with fail
    clear e0 e1 e2 f0 f1 f2
    obtain ⟨g0, g1, g2⟩ := set3_cells K2.out (.int .i32 a) (.bool p) (.int .i64 n)
    refine bodyPost_ret (v := .tuple #[.agg #[.int .i32 a, .bool p, .int .i64 n], .bool ok]) (by simp [results, Tryz.results12, go_sem, g0, g1, g2]) rfl ⟨⟨a, p, n, ok, rfl, by rw [HE.out]; exact HC.out⟩, set3_below' B2.out _ _ _ (Nat.le_refl _)⟩
  · have g92 : (c == 92) = false := by rw [beq_eq_false_iff_ne]; exact h92
    rw [if_neg h92] at HE0
    have hdv := dec_val s hz
    have hdg : Lib.decodeGo s = Utf8.decode s 0 := by unfold Lib.decodeGo; rw [if_neg (by omega)]
    obtain ⟨r, hr⟩ : ∃ r : Int, valT s = r := ⟨_, rfl⟩
    obtain ⟨m, hm⟩ : ∃ m : Nat, (szAt s 0).toNat = m := ⟨_, rfl⟩
    have hm2 : szAt s 0 = (m : Int) := by rcases szAt_cases s 0 with e | e | e | e | e <;> omega
    have hX0 := Tryz.utf8_DecodeRuneInString s w1 HT1.out
    rw [hdg, hdv.1, hdv.2, hr, hm2] at hX0
    rw [hr, hm] at HE0
    have HX := Lib.hid hX0
    have HE := Lib.hid HE0
    clear HE0 hX0 hdv hdg hr hm hm2 h92 hz HT1
    go_enter Tryz.func12, Tryz.ntmps12
    go_wp2_with fail
    clear hw
    refine HX.out.mono ?_
    rintro x w2 ⟨rfl, hb2⟩
    have K2 := Lib.hid (K1.out.below hb2)
    have B2 := Lib.hid (B1.out.trans (hb2.mono B1.out.size))
    clear hb2 K1 B1 HX
    have f0 := K2.out.free 0
    have f1 := K2.out.free 1
    have f2 := K2.out.free 2
    obtain ⟨e0, e1, e2⟩ := cell3 K2.out
    go_wp2_with fail
    clear e0 e1 e2 f0 f1 f2
    obtain ⟨g0, g1, g2⟩ := set3_cells K2.out (.int .i32 r) (.bool false) (.int .i64 (m : Int))
    refine bodyPost_ret (v := .tuple #[.agg #[.int .i32 r, .bool false, .int .i64 (m : Int)], .bool true]) (by simp [results, Tryz.results12, go_sem, g0, g1, g2]) rfl ⟨PcV.some HE.out rfl, set3_below' B2.out _ _ _ (Nat.le_refl _)⟩
theorem pfirst_any (s : ByteArray) (q : Int) (w : World) (hs : s.size ≤ 4010) (hz : 0 < s.size → szAt s 0 ≠ 0) (hT : Tabs w) :
    Calls Tryz.prog 12 #[.string s, .int .u8 q] w fun e w' => PcV (firstT s q) e ∧ Below w.heap.size w w' := by
  by_cases h : s.size = 0
  · exact first_empty s q w h
  have h0 : 0 < s.size := by omega
  by_cases h1 : byteAt s 0 = 10 ∨ byteAt s 0 = q
  · exact first_stop s q w h0 h1
  · exact first_go s q w hs h0 h1 (hz h0) hT
/-- Why a text can't be a literal. -/
def badE (s : ByteArray) : Int := if 4000 < s.size then 7 else if spoil s = -1 then 0 else 12
theorem badE_cases (s : ByteArray) : (badE s = 7 ∧ 4000 < s.size) ∨ (badE s = 0 ∧ s.size ≤ 4000 ∧ spoil s = -1) ∨ (badE s = 12 ∧ s.size ≤ 4000 ∧ spoil s ≠ -1) := by
  unfold badE
  split
  · exact .inl ⟨rfl, by assumption⟩
  split
  · exact .inr (.inl ⟨rfl, by omega, by assumption⟩)
  · exact .inr (.inr ⟨rfl, by omega, by assumption⟩)
/-- What Check gives, of an error alone. -/
theorem check_err (s : ByteArray) (w : World) (hs : s.size ≤ 4010) :
    Calls Tryz.prog 10 #[.string s] w fun e w' => (∃ k : Int, e = .returned (.tuple #[.int .i64 k, .int .i64 (badE s)])) ∧ Below w.heap.size w w' := by
  rcases badE_cases s with ⟨h, h1⟩ | ⟨h, h1, h2⟩ | ⟨h, h1, h2⟩
  · rw [h]
    exact (check_many s w h1).mono fun e w' ⟨he, hb⟩ => ⟨⟨0, he⟩, hb⟩
  · rw [h]
    exact (check_few s w h1).mono fun e w' ⟨he, hb⟩ => ⟨⟨0, by rw [he, chk_ok h2]⟩, hb⟩
  · rw [h]
    exact (check_few s w h1).mono fun e w' ⟨he, hb⟩ => ⟨⟨spoil s, by rw [he]; unfold chk; rw [if_neg h2]⟩, hb⟩
def runeV (s : ByteArray) : Value := if badE s = 0 then (match runeT s with
  | none => .tuple #[.int .i32 0, .int .i64 5]
  | some v => .tuple #[.int .i32 v, .int .i64 0]) else .tuple #[.int .i32 0, .int .i64 (badE s)]
theorem inner_size {s : ByteArray} {q : Int} (hf : spoil s = -1) (hq : q < 128) (hb : betwB s q = true) : 0 < (s.extract 1 (s.size - 1)).size → szAt (s.extract 1 (s.size - 1)) 0 ≠ 0 := by
  intro h
  unfold betwB at hb
  rw [decide_eq_true_iff] at hb
  rw [size_ext _ _ _ (by omega)] at h
  have hsz : (s.extract 1 s.size).size = s.size - 1 := size_ext _ _ _ (Nat.le_refl _)
  have hl : byteAt (s.extract 1 s.size) (s.size - 2) = q := by rw [byte_end, ← hb.2.2]; congr 1; omega
  have hfi := fine_one hf (by omega) (by omega)
  have := good_size (hfi.good (by omega))
  rw [part_cut s hb.1, sz_cut (n := s.size - 2) (by omega) (by omega) (by omega)]
  omega
set_option maxHeartbeats 8000000 in
set_option maxRecDepth 100000 in
theorem prune_any (s : ByteArray) (w : World) (hs : s.size ≤ 4010) (hT : Tabs w) :
    Calls Tryz.prog 4 #[.string s] w fun e w' => e = .returned (runeV s) ∧ Below w.heap.size w w' := by
  have HC := Lib.hid (check_err s w hs)
  by_cases hbad : badE s = 0
  rotate_left
  · have HE := Lib.hid (show runeV s = .tuple #[.int .i32 0, .int .i64 (badE s)] by unfold runeV; rw [if_neg hbad])
    obtain ⟨b, hb⟩ : ∃ b, badE s = b := ⟨_, rfl⟩
    have H1 := HC.out
    have H2 := HE.out
    rw [hb] at H1 H2 hbad
    have HC2 := Lib.hid H1
    have HE2 := Lib.hid H2
    have n1 : (b != 0) = true := by rw [bne_iff_ne]; exact hbad
    clear H1 H2 HC HE hb hbad
    go_enter Tryz.func4, Tryz.ntmps4
    go_wp2_with fail
    refine HC2.out.mono ?_
    rintro x w1 ⟨⟨k, rfl⟩, hb⟩
    have B1 := Lib.hid hb
    clear hb
    go_wp2_with fail
    go_ret2
    exact ⟨by rw [HE2.out]; rfl, B1.out⟩
  have hsp : spoil s = -1 := by
    rcases badE_cases s with ⟨h, h1⟩ | ⟨h, h1, h2⟩ | ⟨h, h1, h2⟩
    · omega
    · exact h2
    · omega
  have H1 := HC.out
  rw [hbad] at H1
  have HC2 := Lib.hid H1
  have HE0 : runeV s = match pruneT s with
      | none => .tuple #[.int .i32 0, .int .i64 5]
      | some v => .tuple #[.int .i32 v, .int .i64 0] := by unfold runeV; rw [if_pos hbad, prune_eq]
  have HTB := Lib.hid (fun w1 (hb : Below w.heap.size w w1) => hT.below hb)
  have HBT0 := fun w => between_any s 39 w hs
  clear hbad HC H1 hT
  cases hbt : betwB s 39
  · have HE := Lib.hid (show runeV s = .tuple #[.int .i32 0, .int .i64 5] by
      rw [HE0, show pruneT s = none by
        unfold pruneT; rw [if_pos]
        unfold betwB at hbt; rw [decide_eq_false_iff_not] at hbt; omega])
    rw [hbt] at HBT0
    have HBT := Lib.hid HBT0
    clear HBT0 hbt HE0
    go_enter Tryz.func4, Tryz.ntmps4
    go_wp2_with fail
    refine HC2.out.mono ?_
    rintro x w1 ⟨⟨k, rfl⟩, hb⟩
    have B1 := Lib.hid hb
    clear hb
    go_wp2_with fail
    refine (HBT.out _).mono ?_
    rintro x w' ⟨rfl, rfl⟩
    go_wp2_with fail
    go_ret2
    exact ⟨by rw [HE.out]; rfl, B1.out⟩
  · have hin := inner_size hsp (by decide) hbt
    have hbs : betwS s 39 = s.extract 1 (s.size - 1) := by unfold betwS; rw [if_pos hbt]
    have hb2 := hbt
    unfold betwB at hb2
    rw [decide_eq_true_iff] at hb2
    have hisz := size_ext s 1 (s.size - 1) (by omega)
    have HE1 : runeV s = match firstT (s.extract 1 (s.size - 1)) 39 with
      | none => .tuple #[.int .i32 0, .int .i64 5]
      | some p => if p.size = s.size - 2 then .tuple #[.int .i32 p.val, .int .i64 0] else .tuple #[.int .i32 0, .int .i64 5] := by
      rw [HE0]
      unfold pruneT
      rw [if_neg (show ¬ (s.size < 2 ∨ byteAt s 0 ≠ 39 ∨ byteAt s (s.size - 1) ≠ 39) by omega)]
      cases firstT (s.extract 1 (s.size - 1)) 39 with
      | none => rfl
      | some p =>
        simp only
        by_cases h : p.size = s.size - 2
        · rw [if_pos h, if_pos h]
        · rw [if_neg h, if_neg h]
    rw [hbt, hbs] at HBT0
    have HBT := Lib.hid HBT0
    have HX := Lib.hid (fun w1 (ht : Tabs w1) => pfirst_any (s.extract 1 (s.size - 1)) 39 w1 (by omega) hin ht)
    obtain ⟨u, hu⟩ : ∃ u, s.extract 1 (s.size - 1) = u := ⟨_, rfl⟩
    have G1 := HBT.out
    have G2 := HX.out
    rw [hu] at G1 G2 hisz HE1
    have HBT2 := Lib.hid G1
    have HX2 := Lib.hid G2
    have HE2 := Lib.hid HE1
    have HUS := Lib.hid (show u.size = s.size - 2 by omega)
    clear HBT HX hu HBT0 hbt HE0 HE1 hb2 hbs hin G1 G2 hsp hisz
    go_enter Tryz.func4, Tryz.ntmps4
    go_wp2_with fail
    refine HC2.out.mono ?_
    rintro x w1 ⟨⟨k, rfl⟩, hb⟩
    have B1 := Lib.hid hb
    clear hb
    go_wp2_with fail
    refine (HBT2.out _).mono ?_
    rintro x w' ⟨rfl, rfl⟩
    go_wp2_with fail
    refine (HX2.out _ (HTB.out _ B1.out)).mono ?_
    rintro x w2 ⟨⟨a, p, n, ok, rfl, hcase⟩, hb⟩
    have B2 := Lib.hid (B1.out.trans (hb.mono B1.out.size))
    clear hb
    rcases hcase with ⟨hn, rfl⟩ | ⟨pc, hp, rfl, rfl, rfl, rfl⟩
    · have HE := HE2.out
      rw [hn] at HE
      have HE3 := Lib.hid HE
      clear HE hn
      go_wp2_with fail
      go_ret2
      exact ⟨by rw [HE3.out]; rfl, B2.out.alloc B2.out.size _⟩
    · have HE := HE2.out
      rw [hp] at HE
      simp only at HE
      by_cases he : pc.size = s.size - 2
      · rw [if_pos he] at HE
        have HE3 := Lib.hid HE
        have g : ((pc.size : Int) != (u.size : Int)) = false := by rw [show pc.size = u.size by rw [he, HUS.out], bne_self_eq_false]
        clear HE hp he
        go_wp2_with fail
        go_ret2
        exact ⟨by rw [HE3.out]; rfl, B2.out.alloc B2.out.size _⟩
      · rw [if_neg he] at HE
        have HE3 := Lib.hid HE
        have g : ((pc.size : Int) != (u.size : Int)) = true := by rw [bne_iff_ne]; have := HUS.out; omega
        clear HE hp he
        go_wp2_with fail
        go_ret2
        exact ⟨by rw [HE3.out]; rfl, B2.out.alloc B2.out.size _⟩
end Go.Proofs.YtkafkcmhekgheaaGreatDoor
