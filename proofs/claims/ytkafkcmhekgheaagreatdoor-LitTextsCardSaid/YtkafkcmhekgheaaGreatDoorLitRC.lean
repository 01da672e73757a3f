/- Literals: the document's answer: Bytes, raw, Rune, Text. -/
import Derived.Test.YtkafkcmhekgheaaGreatDoorLitRB
import Derived.Test.YtkafkcmhekgheaaGreatDoorLitPE
namespace Go.Proofs.YtkafkcmhekgheaaGreatDoor
open Go.RowKit
set_option linter.unusedSimpArgs false
set_option linter.unusedVariables false

def lettR (r : Int) : Prop := 0 ≤ r ∧ r ≤ 1114111 ∧ ¬ (55296 ≤ r ∧ r ≤ 57343)
set_option maxHeartbeats 4000000 in
set_option maxRecDepth 100000 in
theorem rbytes_any (r : Int) (w : World) (h : lettR r) :
    Calls Tryz.prog 21 #[.int .i32 r] w fun e w' => e = .returned (.slice (some ⟨w.heap.size, 0, none⟩) (Lib.encodeRuneZ r).length (Lib.encodeRuneZ r).length) ∧ w' = w.alloc (.cells (B8 (Lib.encodeRuneZ r)).toArray 5) := by
  obtain ⟨r0, r1, r2⟩ := h
  by_cases h1 : r < 128
  · rw [Lib.encodeRuneZ_one r0 (by omega)]
    clear r2
    go_enter Tryz.func21, Tryz.ntmps21
    go_wp2_with fail
    go_ret
    exact ⟨rfl, rfl⟩
  by_cases h2 : r < 2048
  · rw [Lib.encodeRuneZ_two (by omega) (by omega)]
    clear r2
    go_enter Tryz.func21, Tryz.ntmps21
    go_wp2_with fail
    go_ret
    exact ⟨rfl, rfl⟩
  by_cases h3 : r < 65536
  · rw [Lib.encodeRuneZ_three (by omega)]
    clear r2
    go_enter Tryz.func21, Tryz.ntmps21
    go_wp2_with fail
    go_ret
    exact ⟨rfl, rfl⟩
  · rw [Lib.encodeRuneZ_four (by omega) (by omega)]
    clear r2
    go_enter Tryz.func21, Tryz.ntmps21
    go_wp2_with fail
    go_ret
    exact ⟨rfl, rfl⟩
def refV : Option (List Int) → Value
  | none => .tuple #[.string ⟨#[]⟩, .bool false]
  | some l => .tuple #[.string (strOfNums l), .bool true]
theorem rawL_one (s : ByteArray) : rawL s 1 1 = [] := rfl
theorem rawL_next {s : ByteArray} {k : Nat} (h : 1 ≤ k) : rawL s 1 (k + 1) = rawL s 1 k ++ (if byteAt s k = 13 then [] else [byteAt s k]) := by
  unfold rawL
  rw [show k + 1 - 1 = (k - 1) + 1 by omega, List.range'_1_concat, List.map_append, List.filter_append, show 1 + (k - 1) = k by omega]
  congr 1
  by_cases e : byteAt s k = 13
  · rw [if_pos e]; simp [e]
  · rw [if_neg e]; simp [e]
theorem hasB_next {s : ByteArray} {k : Nat} (c : Int) (h : 1 ≤ k) : hasB s 1 (k + 1) c = (hasB s 1 k c || decide (byteAt s k = c)) := by
  unfold hasB
  rw [show k + 1 - 1 = (k - 1) + 1 by omega, List.range'_1_concat, List.any_append, show 1 + (k - 1) = k by omega]
  simp
theorem hasB_more {s : ByteArray} {k n : Nat} (c : Int) (h : 1 ≤ k) (hk : k < n) (hc : byteAt s k = c) : hasB s 1 n c = true := by
  unfold hasB
  rw [List.any_eq_true]
  exact ⟨k, by rw [List.mem_range'_1]; omega, by rw [decide_eq_true_iff]; exact hc⟩
set_option maxHeartbeats 16000000 in
set_option maxRecDepth 100000 in
theorem rraw_any (s : ByteArray) (w : World) (hs : s.size ≤ 4010) (h0 : 0 < s.size) :
    Calls Tryz.prog 20 #[.string s] w fun e w' => e = .returned (refV (rawT s)) ∧ Below w.heap.size w w' := by
  obtain ⟨i0, hi0, hz0, hz1, hz2⟩ := info_parts info_byte
  have bq : Below w.heap.size w (w.alloc (.cells #[] 5)) := (Below.refl _ _).alloc (Nat.le_refl _) _
  have O1 := Lib.hid (show OB (w.alloc (.cells #[] 5)) w.heap.size (.slice (some ⟨w.heap.size, 0, none⟩) 0 0) [] from World.ownsRow_made w #[] 0 (Nat.le_refl _) (by unfold maxLen; omega) rfl)
  have B1 := Lib.hid bq
  clear bq
  obtain ⟨n, hn⟩ : ∃ n, s.size = n + 1 := ⟨s.size - 1, by omega⟩
  have hsub : (s.size : Int) - 1 = (n : Int) := by omega
  have HRT := Lib.hid (show rawT s = if s.size < 2 ∨ byteAt s n ≠ 96 ∨ hasB s 1 n 96 = true then none else some (rawL s 1 n) by unfold rawT; rw [show s.size - 1 = n by omega])
  have HN := Lib.hid hn
  clear hn
  go_enter Tryz.func20, Tryz.ntmps20
  go_wp2_with fail
  go_loopw [4, 5] (fun v i wr => ∃ k : Nat, 1 ≤ k ∧ (k ≤ n ∨ k = 1) ∧ i = .int .i64 k ∧ Hid (hasB s 1 k 96 = false) ∧ Hid (OB wr w.heap.size v (rawL s 1 k)) ∧ Hid (Below w.heap.size w wr)) (fun _ i _ => n - (intOf i).toNat)
  case atStart => exact ⟨1, Nat.le_refl _, .inr rfl, rfl, Lib.hid rfl, O1, B1⟩
  case round =>
    obtain ⟨k, hk1, hk, rfl, HH, HO, BR⟩ := hrel
    by_cases hlt : k < n
    · have hltI : (k : Int) < (n : Int) := by omega
      have hks : k < s.size := by have := HN.out; omega
      have hksI : (k : Int) < (s.size : Int) := by omega
      obtain ⟨c, hc⟩ : ∃ c : Int, (s[k].toNat : Int) = c := ⟨_, rfl⟩
      have hcb : byteAt s k = c := (byteAt_eq hks).trans hc
      have hcr := byteAt_range s k
      rw [hcb] at hcr
      obtain ⟨c0, c1⟩ := hcr
      by_cases h96 : c = 96
      · have g : (c == 96) = true := by rw [h96]; rfl
        have HX := Lib.hid (show rawT s = none by rw [HRT.out, if_pos (.inr (.inr (hasB_more 96 hk1 hlt (hcb.trans h96))))])
        clear hcb h96
        go_wp2_with fail
        go_ret2
        exact ⟨by rw [HX.out]; rfl, BR.out⟩
      · have g : (c == 96) = false := by rw [beq_eq_false_iff_ne]; exact h96
        have HH2 := Lib.hid (show hasB s 1 (k + 1) 96 = false by rw [hasB_next 96 hk1, HH.out, hcb, decide_eq_false h96]; rfl)
        by_cases h13 : c = 13
        · have g2 : (c != 13) = false := by rw [h13]; rfl
          have HX := Lib.hid (show rawL s 1 (k + 1) = rawL s 1 k by rw [rawL_next hk1, hcb, if_pos h13, List.append_nil])
          clear hcb h96 h13 HH
          go_wp2_with fail
          go_roundw
          case rel => exact ⟨k + 1, by omega, by omega, by go_num, HH2, Lib.hid (by rw [HX.out]; exact HO.out), BR⟩
          case measure => simp [intOf]; omega
        · have g2 : (c != 13) = true := by rw [bne_iff_ne]; exact h13
          have HX := Lib.hid (show rawL s 1 (k + 1) = rawL s 1 k ++ [c] by rw [rawL_next hk1, hcb, if_neg h13])
          obtain ⟨l, hl⟩ : ∃ l, rawL s 1 k = l := ⟨_, rfl⟩
          have hll : l.length ≤ 4010 := by
            rw [← hl]; unfold rawL
            exact Nat.le_trans (List.length_filter_le _ _) (by simp; omega)
          have hO := HO.out
          have hX := HX.out
          rw [hl] at hO hX
          have HO2 := Lib.hid hO
          have HX2 := Lib.hid hX
          obtain ⟨ao, cap, rfl⟩ := hO.slice
          have hbs := BR.out.size
          clear hcb h96 h13 HH HO HX hO hX hl
          go_wp2_with (at_builtin; refine wpList_append_own_at _ rfl _ _ 43 rfl w.heap.size 5 i0 (.int .u8 0) 1 1 Tryz.underlying43 hi0 hz0 hz1 hz2 rfl (by decide) (.slice ao l.length cap) l.length (B8 l) rfl (World.ownsRow.alloc HO2.out _) ⟨wr.heap.size, 0, none⟩ 1 1 [.int .u8 c] rfl rfl ?c1 ?c2 ?c3 ?c4 ?c5 ?_)
          try case c1 => exact cell_one_new _ _ _
          case c2 => simp [Value.oneCell']
          case c3 => unfold maxLen; omega
          case c4 => omega
          case c5 => simp; omega
          intro v5 w5 ho5 hg5 _ _
          have B5 := Lib.hid (HO2.out.grown BR.out (Nat.le_refl _) rfl hg5)
          have O5 := Lib.hid (show OB w5 w.heap.size v5 (rawL s 1 (k + 1)) by rw [HX2.out]; exact OB.more (l := l) (m := [c]) rfl ho5)
          clear ho5 hg5
          go_wp2_with fail
          go_roundw
          case rel => exact ⟨k + 1, by omega, by omega, by go_num, HH2, O5, B5⟩
          case measure => simp [intOf]; omega
    · have hltI : ¬ (k : Int) < (n : Int) := by omega
      by_cases hz : s.size < 2
      · have hzI : (s.size : Int) < 2 := by omega
        have HX := Lib.hid (show rawT s = none by rw [HRT.out, if_pos (.inl hz)])
        go_wp2_with fail
        go_ret2
        exact ⟨by rw [HX.out]; rfl, BR.out⟩
      have hzI : ¬ (s.size : Int) < 2 := by omega
      have hke : k = n := by have := HN.out; omega
      subst hke
      have hks : k < s.size := by have := HN.out; omega
      have hksI : (k : Int) < (s.size : Int) := by omega
      obtain ⟨c, hc⟩ : ∃ c : Int, (s[k].toNat : Int) = c := ⟨_, rfl⟩
      have hcb : byteAt s k = c := (byteAt_eq hks).trans hc
      by_cases h96 : c = 96
      · have g : (c != 96) = false := by rw [h96]; rfl
        have HX := Lib.hid (show rawT s = some (rawL s 1 k) by
          rw [HRT.out, if_neg]
          rintro (h | h | h)
          · exact hz h
          · exact h (hcb.trans h96)
          · rw [HH.out] at h; cases h)
        have hconv := HO.out.text
        obtain ⟨ao, cap, rfl⟩ := HO.out.slice
        clear hcb h96 hz
        go_wp2_with fail
        go_ret2
        exact ⟨by rw [HX.out]; rfl, BR.out⟩
      · have g : (c != 96) = true := by rw [bne_iff_ne]; exact h96
        have HX := Lib.hid (show rawT s = none by rw [HRT.out, if_pos (.inr (.inl (by rw [hcb]; exact h96)))])
        clear hcb h96 hz
        go_wp2_with fail
        go_ret2
        exact ⟨by rw [HX.out]; rfl, BR.out⟩
/-- What Rune gives. -/
def refRV (s : ByteArray) : Value := match runeT s with
  | none => .tuple #[.int .i32 0, .bool false]
  | some v => .tuple #[.int .i32 v, .bool true]
theorem quote_is (s : ByteArray) (i : Nat) (hi : i ≤ s.size) (q : UInt8) : ((s.extract i s.size).toList == [q]) = decide (i + 1 = s.size ∧ byteAt s i = (q.toNat : Int)) := by
  have hz : (s.extract i s.size).size = s.size - i := size_ext _ _ _ (Nat.le_refl _)
  have hl : (s.extract i s.size).data.toList.length = s.size - i := by rw [← hz]; simp
  have hb := byte_end s i 0
  rw [Nat.add_zero] at hb
  rw [← hb, ByteArray.toList_eq]
  by_cases h : i + 1 = s.size
  · have h0 : 0 < (s.extract i s.size).size := by omega
    rw [byteAt_eq h0]
    have e : (s.extract i s.size).data.toList = [(s.extract i s.size)[0]] := by
      apply List.ext_getElem
      · simp [hl]; simp at hl; omega
      · intro j h1 h2
        have hj : j = 0 := by simp at h2; exact h2
        subst hj
        rfl
    rw [e]
    by_cases hq : (s.extract i s.size)[0] = q
    · rw [hq]; simp [h]
    · have h1 : ¬ (((s.extract i s.size)[0].toNat : Int) = (q.toNat : Int)) := fun g => hq (UInt8.toNat_inj.1 (by omega))
      rw [decide_eq_false (fun g => h1 g.2)]
      show (((s.extract i s.size)[0] == q) && _) = false
      rw [show ((s.extract i s.size)[0] == q) = false by rw [beq_eq_false_iff_ne]; exact hq]
      rfl
  · rw [decide_eq_false (fun g => h g.1)]
    rw [beq_eq_false_iff_ne]
    intro e
    rw [e] at hl
    simp at hl
    omega
set_option maxHeartbeats 16000000 in
set_option maxRecDepth 100000 in
theorem rrune_any (s : ByteArray) (w : World) (hs : s.size ≤ 4010) (hsp : spoil s = -1) :
    Calls Tryz.prog 8 #[.string s] w fun e w' => e = .returned (refRV s) ∧ Below w.heap.size w w' := by
  by_cases h2 : s.size < 2
  · have h2I : (s.size : Int) < 2 := by omega
    have HX := Lib.hid (show refRV s = .tuple #[.int .i32 0, .bool false] by unfold refRV runeT; rw [if_pos (.inl h2)])
    clear hsp
    go_enter Tryz.func8, Tryz.ntmps8
    go_wp2_with fail
    go_ret2
    exact ⟨by rw [HX.out]; rfl, Below.refl _ _⟩
  have h2I : ¬ (s.size : Int) < 2 := by omega
  have h0 : 0 < s.size := by omega
  have hsI : (0 : Int) < (s.size : Int) := by omega
  obtain ⟨c, hc⟩ : ∃ c : Int, (s[0].toNat : Int) = c := ⟨_, rfl⟩
  have hcb : byteAt s 0 = c := (byteAt_eq h0).trans hc
  by_cases h39 : c = 39
  rotate_left
  · have g : (c != 39) = true := by rw [bne_iff_ne]; exact h39
    have HX := Lib.hid (show refRV s = .tuple #[.int .i32 0, .bool false] by unfold refRV runeT; rw [if_pos (.inr (by rw [hcb]; exact h39))])
    clear hsp hcb h39
    go_enter Tryz.func8, Tryz.ntmps8
    go_wp2_with fail
    go_ret2
    exact ⟨by rw [HX.out]; rfl, Below.refl _ _⟩
  have g : (c != 39) = false := by rw [h39]; rfl
  have hfi := fine_one hsp (by omega) (by omega)
  have hz1 := size_ext s 1 s.size (Nat.le_refl _)
  have HO := fun w => rone_any (s.extract 1 s.size) 39 w (by omega) (.inl rfl) hfi
  have HX0 : refRV s = match firstT (s.extract 1 s.size) 39 with
      | none => .tuple #[.int .i32 0, .bool false]
      | some p => if p.size + 2 = s.size ∧ byteAt s (s.size - 1) = 39 then .tuple #[.int .i32 p.val, .bool true] else .tuple #[.int .i32 0, .bool false] := by
    unfold refRV runeT
    rw [if_neg (show ¬ (s.size < 2 ∨ byteAt s 0 ≠ 39) by omega)]
    cases firstT (s.extract 1 s.size) 39 with
    | none => rfl
    | some p =>
      simp only
      by_cases h : p.size + 2 = s.size ∧ byteAt s (s.size - 1) = 39
      · rw [if_pos h, if_pos h]
      · rw [if_neg h, if_neg h]
  cases hp : firstT (s.extract 1 s.size) 39 with
  | none =>
    rw [hp] at HO HX0
    have HX := Lib.hid HX0
    unfold oV at HO
    have HO2 := Lib.hid HO
    clear HX0 HO hp hfi hcb h39 hsp hz1
    go_enter Tryz.func8, Tryz.ntmps8
    go_wp2_with fail
    refine (HO2.out _).mono ?_
    rintro x w1 ⟨rfl, hb⟩
    have B1 := Lib.hid hb
    clear hb
    go_wp2_with fail
    go_ret2
    exact ⟨by rw [HX.out]; rfl, B1.out.alloc B1.out.size _⟩
  | some p =>
    have ok := first_ok (.inl rfl) hfi hp
    rw [hp] at HO HX0
    simp only at HX0
    have hfit := ok.fits
    have hpos := ok.pos
    have hle : 1 + p.size ≤ s.size := by omega
    have hleI : (1 : Int) + (p.size : Int) ≤ (s.size : Int) := by omega
    have hpz : ((p.size : Int) == 0) = false := by rw [beq_eq_false_iff_ne]; omega
    have hq := quote_is s (1 + p.size) hle 39
    have hqe : (1 + p.size + 1 = s.size ∧ byteAt s (1 + p.size) = ((39 : UInt8).toNat : Int)) ↔ (p.size + 2 = s.size ∧ byteAt s (s.size - 1) = 39) := by
      constructor
      · rintro ⟨a, b⟩; exact ⟨by omega, by rw [show s.size - 1 = 1 + p.size by omega]; exact b⟩
      · rintro ⟨a, b⟩; exact ⟨by omega, by rw [show 1 + p.size = s.size - 1 by omega]; exact b⟩
    unfold oV at HO
    simp only at HO
    have HO2 := Lib.hid HO
    obtain ⟨v, pl, m⟩ := p
    simp only at *
    have hbm : ((1 : Nat) : Int) + (m : Int) = ((1 + m : Nat) : Int) := by omega
    by_cases hy : m + 2 = s.size ∧ byteAt s (s.size - 1) = 39
    · have hq2 : ((s.extract (1 + m) s.size).toList == [39]) = true := by rw [hq, decide_eq_true_iff]; exact hqe.2 hy
      rw [if_pos hy] at HX0
      have HX := Lib.hid HX0
      clear HX0 HO hp hfi hcb h39 hsp hz1 ok hq hqe hy hfit
      go_enter Tryz.func8, Tryz.ntmps8
      go_wp2_with fail
      refine (HO2.out _).mono ?_
      rintro x w1 ⟨rfl, hb⟩
      have B1 := Lib.hid hb
      clear hb
      go_wp2_with fail
      go_ret2
      exact ⟨by rw [HX.out]; rfl, B1.out.alloc B1.out.size _⟩
    · have hq2 : ((s.extract (1 + m) s.size).toList == [39]) = false := by rw [hq, decide_eq_false_iff_not]; exact fun h => hy (hqe.1 h)
      rw [if_neg hy] at HX0
      have HX := Lib.hid HX0
      clear HX0 HO hp hfi hcb h39 hsp hz1 ok hq hqe hy hfit
      go_enter Tryz.func8, Tryz.ntmps8
      go_wp2_with fail
      refine (HO2.out _).mono ?_
      rintro x w1 ⟨rfl, hb⟩
      have B1 := Lib.hid hb
      clear hb
      go_wp2_with fail
      go_ret2
      exact ⟨by rw [HX.out]; rfl, B1.out.alloc B1.out.size _⟩
theorem restF_yes {f : Nat} {t : ByteArray} (h : t.size = 1 ∧ byteAt t 0 = 34) : restF (f + 1) t = some [] := if_pos h
theorem restF_no {f : Nat} {t : ByteArray} (h : ¬ (t.size = 1 ∧ byteAt t 0 = 34)) (hp : firstT t 34 = none) : restF (f + 1) t = none := by
  show (if t.size = 1 ∧ byteAt t 0 = 34 then some [] else match firstT t 34 with | none => none | some p => (restF f (t.extract p.size t.size)).map (pcB p ++ ·)) = _
  rw [if_neg h, hp]
theorem restF_step {f : Nat} {t : ByteArray} {p : Pc} (h : ¬ (t.size = 1 ∧ byteAt t 0 = 34)) (hp : firstT t 34 = some p) : restF (f + 1) t = (restF f (t.extract p.size t.size)).map (pcB p ++ ·) := by
  show (if t.size = 1 ∧ byteAt t 0 = 34 then some [] else match firstT t 34 with | none => none | some p => (restF f (t.extract p.size t.size)).map (pcB p ++ ·)) = _
  rw [if_neg h, hp]
theorem isquote (t : ByteArray) : (t.toList == [34]) = decide (t.size = 1 ∧ byteAt t 0 = 34) := by
  have h := quote_is t 0 (Nat.zero_le _) 34
  rw [Nat.zero_add, show t.extract 0 t.size = t from ByteArray.extract_zero_size] at h
  rw [h, decide_eq_decide]
  constructor
  · rintro ⟨a, b⟩; exact ⟨a.symm, b⟩
  · rintro ⟨a, b⟩; exact ⟨a.symm, b⟩
set_option maxHeartbeats 4000000 in
set_option maxRecDepth 100000 in
theorem rtext_raw (s : ByteArray) (w : World) (hs : s.size ≤ 4010) (h0 : 0 < s.size) (h96 : byteAt s 0 = 96) :
    Calls Tryz.prog 9 #[.string s] w fun e w' => e = .returned (refV (textT s)) ∧ Below w.heap.size w w' := by
  have hsI : (0 : Int) < (s.size : Int) := by omega
  obtain ⟨c, hc⟩ : ∃ c : Int, (s[0].toNat : Int) = c := ⟨_, rfl⟩
  have hcb : byteAt s 0 = c := (byteAt_eq h0).trans hc
  have g : (c == 96) = true := by rw [beq_iff_eq]; omega
  have hR := rraw_any s w hs h0
  rw [show rawT s = textT s by unfold textT; rw [if_pos ⟨h0, h96⟩]] at hR
  have hrt : ∃ a b, refV (textT s) = .tuple #[a, b] := by unfold refV; cases textT s <;> exact ⟨_, _, rfl⟩
  obtain ⟨a, b, hab⟩ := hrt
  rw [hab] at hR ⊢
  have HR := Lib.hid hR
  clear hR hab hcb h96
  go_enter Tryz.func9, Tryz.ntmps9
  go_wp2_with fail
  refine HR.out.mono ?_
  rintro x w1 ⟨rfl, hb⟩
  have B1 := Lib.hid hb
  clear hb
  go_wp2_with fail
  go_ret2
  exact ⟨rfl, B1.out⟩
set_option maxHeartbeats 4000000 in
set_option maxRecDepth 100000 in
theorem rtext_none (s : ByteArray) (w : World) (hs : s.size ≤ 4010) (h96 : ¬ (0 < s.size ∧ byteAt s 0 = 96)) (h : s.size < 2 ∨ byteAt s 0 ≠ 34) :
    Calls Tryz.prog 9 #[.string s] w fun e w' => e = .returned (refV (textT s)) ∧ Below w.heap.size w w' := by
  have HX := Lib.hid (show refV (textT s) = .tuple #[.string ⟨#[]⟩, .bool false] by unfold textT; rw [if_neg h96, if_pos h]; rfl)
  by_cases h0 : 0 < s.size
  · have hsI : (0 : Int) < (s.size : Int) := by omega
    obtain ⟨c, hc⟩ : ∃ c : Int, (s[0].toNat : Int) = c := ⟨_, rfl⟩
    have hcb : byteAt s 0 = c := (byteAt_eq h0).trans hc
    have g : (c == 96) = false := by rw [beq_eq_false_iff_ne]; omega
    by_cases h2 : s.size < 2
    · have h2I : (s.size : Int) < 2 := by omega
      clear h h96 hcb
      go_enter Tryz.func9, Tryz.ntmps9
      go_wp2_with fail
      go_ret2
      exact ⟨by rw [HX.out]; rfl, Below.refl _ _⟩
    · have h2I : ¬ (s.size : Int) < 2 := by omega
      have g2 : (c != 34) = true := by rw [bne_iff_ne]; omega
      clear h h96 hcb
      go_enter Tryz.func9, Tryz.ntmps9
      go_wp2_with fail
      go_ret2
      exact ⟨by rw [HX.out]; rfl, Below.refl _ _⟩
  · have hsI : ¬ (0 : Int) < (s.size : Int) := by omega
    have h2I : (s.size : Int) < 2 := by omega
    clear h h96
    go_enter Tryz.func9, Tryz.ntmps9
    go_wp2_with fail
    go_ret2
    exact ⟨by rw [HX.out]; rfl, Below.refl _ _⟩
theorem runes_cells (r : Int) : ∀ j u, (B8 (Lib.encodeRuneZ r))[j]? = some u → ∀ (w : World), (w.alloc (.cells (B8 (Lib.encodeRuneZ r)).toArray 5)).cell? ((⟨w.heap.size, 0, none⟩ : Addr).add j) = some u := by
  intro j u hu w
  have hadd : (⟨w.heap.size, 0, none⟩ : Addr).add j = ⟨w.heap.size, j, none⟩ := by unfold Addr.add; split <;> simp_all
  rw [hadd, World.cell?_alloc_at _ _ _ _ rfl]
  simpa using hu
set_option maxHeartbeats 32000000 in
set_option maxRecDepth 100000 in
theorem rtext_quoted (s : ByteArray) (w : World) (hs : s.size ≤ 4010) (hsp : spoil s = -1) (h2 : 2 ≤ s.size) (h34 : byteAt s 0 = 34) :
    Calls Tryz.prog 9 #[.string s] w fun e w' => e = .returned (refV (textT s)) ∧ Below w.heap.size w w' := by
  have h0 : 0 < s.size := by omega
  have hsI : (0 : Int) < (s.size : Int) := by omega
  have h2I : ¬ (s.size : Int) < 2 := by omega
  have h1I : (1 : Int) ≤ (s.size : Int) := by omega
  obtain ⟨c, hc⟩ : ∃ c : Int, (s[0].toNat : Int) = c := ⟨_, rfl⟩
  have hcb : byteAt s 0 = c := (byteAt_eq h0).trans hc
  have g : (c == 96) = false := by rw [beq_eq_false_iff_ne]; omega
  have g2 : (c != 34) = false := by rw [← hcb, h34]; rfl
  have hfi := fine_one hsp (by omega) (by omega)
  have hz1 := size_ext s 1 s.size (Nat.le_refl _)
  obtain ⟨RR, hRR⟩ : ∃ RR, textT s = RR := ⟨_, rfl⟩
  have hrest : restF s.size (s.extract 1 s.size) = RR := by rw [← hRR]; unfold textT; rw [if_neg (show ¬ (0 < s.size ∧ byteAt s 0 = 96) by omega), if_neg (show ¬ (s.size < 2 ∨ byteAt s 0 ≠ 34) by omega)]
  rw [hRR]
  have HR0 := Lib.hid (show (restF s.size (s.extract 1 s.size)).map ([] ++ ·) = RR by rw [hrest]; cases RR <;> rfl)
  have HFI := Lib.hid hfi
  have HZ1 := Lib.hid (show (s.extract 1 s.size).size + 1 ≤ s.size by omega)
  obtain ⟨i0, hi0, hz0, hz1', hz2⟩ := info_parts info_byte
  have bq : Below w.heap.size w (w.alloc (.cells #[] 5)) := (Below.refl _ _).alloc (Nat.le_refl _) _
  have O1 := Lib.hid (show OB (w.alloc (.cells #[] 5)) w.heap.size (.slice (some ⟨w.heap.size, 0, none⟩) 0 0) [] from World.ownsRow_made w #[] 0 (Nat.le_refl _) (by unfold maxLen; omega) rfl)
  have B1 := Lib.hid bq
  have hlen0 : (s.extract 1 s.size).size ≤ 4010 := by omega
  clear bq hcb hfi hz1 hrest hRR h34 hsp h2
  go_enter Tryz.func9, Tryz.ntmps9
  go_wp2_with fail
  go_loopg [0, 4] s.size (fun k vt vo wr => ∃ (t : ByteArray) (f : Nat) (l : List Int), vt = .string t ∧ Hid (t.size + 1 ≤ f) ∧ Hid (f ≤ k) ∧ t.size ≤ 4010 ∧ l.length + 4 * t.size ≤ 16100 ∧ Hid (Fine t 0) ∧ Hid ((restF f t).map (l ++ ·) = RR) ∧ Hid (OB wr w.heap.size vo l) ∧ Hid (Below w.heap.size w wr))
  case atStart => exact ⟨s.extract 1 s.size, s.size, [], rfl, HZ1, Lib.hid (Nat.le_refl _), hlen0, by simp; omega, HFI, HR0, O1, B1⟩
  case round =>
    obtain ⟨t, f, l, rfl, HF, HK, htl, hll, HFi, HR, HO, BR⟩ := hrel
    obtain ⟨n, rfl⟩ : ∃ n : Nat, n = gk := ⟨_, rfl⟩
    obtain ⟨f', hf'⟩ : ∃ f', f = f' + 1 := ⟨f - 1, by have := HF.out; omega⟩
    have hR := HR.out
    rw [hf'] at hR
    obtain ⟨ao, cap, rfl⟩ := HO.out.slice
    have hq := isquote t
    by_cases hiq : t.size = 1 ∧ byteAt t 0 = 34
    · rw [decide_eq_true hiq] at hq
      rw [restF_yes hiq] at hR
      have HRX := Lib.hid (show RR = some l by rw [← hR]; show some (l ++ []) = some l; rw [List.append_nil])
      have hconv := HO.out.text
      clear hR hiq hf'
      go_wp2_with fail
      go_ret2
      exact ⟨by rw [HRX.out]; rfl, BR.out⟩
    rw [decide_eq_false hiq] at hq
    have HX0 := rone_any t 34 wr htl (.inr rfl) HFi.out
    cases hp : firstT t 34 with
    | none =>
      rw [hp] at HX0
      unfold oV at HX0
      have HX := Lib.hid HX0
      have HRX := Lib.hid (show RR = none by
        have := hR
        rw [restF_no hiq hp] at this
        exact this.symm)
      clear hR HX0 hp hiq hf'
      go_wp2_with fail
      refine HX.out.mono ?_
      rintro x w2 ⟨rfl, hb⟩
      have B3 := Lib.hid (BR.out.trans (hb.mono BR.out.size))
      clear hb HX BR HO
      go_wp2_with fail
      go_ret2
      exact ⟨by rw [HRX.out]; rfl, B3.out.alloc B3.out.size _⟩
    | some p =>
      have ok := first_ok (.inr rfl) HFi.out hp
      have hlen := pcB_len p
      have hp1 := ok.pos
      have hfit := ok.fits
      have HRX := Lib.hid (show (restF f' (t.extract p.size t.size)).map ((l ++ pcB p) ++ ·) = RR by
        have := hR
        rw [restF_step hiq hp, map_add] at this
        exact this)
      have HFN := Lib.hid ok.fine.part
      have hby := ok.byte
      have hle := ok.letter
      have hzn := size_ext t p.size t.size (Nat.le_refl _)
      rw [hp] at HX0
      unfold oV at HX0
      simp only at HX0
      have HX := Lib.hid HX0
      have HF2 := Lib.hid hf'
      have hpz : ((p.size : Int) == 0) = false := by rw [beq_eq_false_iff_ne]; omega
      have hszI : (p.size : Int) ≤ (t.size : Int) := by omega
      obtain ⟨t', ht'⟩ : ∃ t', t.extract p.size t.size = t' := ⟨_, rfl⟩
      have HT' := Lib.hid ht'
      have H1 := HRX.out
      have H2 := HFN.out
      rw [ht'] at H1 H2 hzn
      have HRX2 := Lib.hid H1
      have HFN2 := Lib.hid H2
      have HZN := Lib.hid hzn
      clear hR HX0 hp hiq hf' ok HRX HFN H1 H2 ht' hzn
      obtain ⟨pv, pp, pn⟩ := p
      simp only at *
      cases pp
      · have hv := hle rfl
        have v0 := hv.1
        have v1 := hv.2.1
        have HBY := Lib.hid (fun w => rbytes_any pv w ⟨hv.1, hv.2.1, hv.2.2⟩)
        have hpB : pcB ⟨pv, false, pn⟩ = Lib.encodeRuneZ pv := rfl
        have HPB := Lib.hid hpB
        have HRC := Lib.hid (runes_cells pv)
        have hel := Lib.encodeRuneZ_length pv
        have HEL := Lib.hid hel
        obtain ⟨L, hL⟩ : ∃ L, Lib.encodeRuneZ pv = L := ⟨_, rfl⟩
        have G1 := HBY.out
        have G2 := HRC.out
        rw [hL] at G1 G2 hel hpB
        rw [hpB] at hlen
        have HBY2 := Lib.hid G1
        have HRC2 := Lib.hid G2
        have HPB2 := Lib.hid hpB
        have hLl := hel.2
        clear hby hle hv HBY HRC HPB HEL G1 G2 hpB hel hL
        go_wp2_with fail
        refine HX.out.mono ?_
        rintro x w2 ⟨rfl, hb⟩
        have hbx := BlockAt.new w2 #[.int .i32 pv, .bool false, .int .i64 (pn : Int)] 56
        have bqx : Below w2.heap.size w2 (w2.alloc (.cells #[.int .i32 pv, .bool false, .int .i64 (pn : Int)] 56)) := (Below.refl _ _).alloc (Nat.le_refl _) _
        have O3 := Lib.hid (HO.out.kept hb)
        have O4 := Lib.hid (O3.out.kept bqx)
        have B3 := Lib.hid (BR.out.trans (hb.mono BR.out.size))
        have B4 := Lib.hid (B3.out.trans (bqx.mono B3.out.size))
        have KB := Lib.hid hbx
        have hb4 := B4.out.size
        have hb3 := B3.out.size
        clear hb HX BR HO hbx bqx
        go_wp2_with fail
        refine (HBY2.out _).mono ?_
        rintro x w3 ⟨rfl, rfl⟩
        have hz3 : (w2.alloc (.cells #[.int .i32 pv, .bool false, .int .i64 (pn : Int)] 56)).heap.size = w2.heap.size + 1 := by simp
        rw [hz3]
        have hnews : ∀ j u, (B8 L)[j]? = some u → ((w2.alloc (.cells #[.int .i32 pv, .bool false, .int .i64 (pn : Int)] 56)).alloc (.cells (B8 L).toArray 5)).cell? ((⟨w2.heap.size + 1, 0, none⟩ : Addr).add j) = some u := fun j u hu => by
          have := HRC2.out j u hu (w2.alloc (.cells #[.int .i32 pv, .bool false, .int .i64 (pn : Int)] 56))
          rw [hz3] at this
          exact this
        have HNW := Lib.hid hnews
        have hBL : (B8 L).length = L.length := by unfold B8; simp
        have HBL := Lib.hid hBL
        clear hz3 hnews hBL
        go_wp2_with (at_builtin; refine wpList_append_own_at _ rfl _ _ 43 rfl w.heap.size 5 i0 (.int .u8 0) 1 1 Tryz.underlying43 hi0 hz0 hz1' hz2 rfl (by decide) (.slice ao l.length cap) l.length (B8 l) rfl (World.ownsRow.alloc O4.out _) ⟨w2.heap.size + 1, 0, none⟩ L.length L.length (B8 L) rfl ?c0 ?c1 ?c2 ?c3 ?c4 ?c5 ?_)
        case c0 => rw [HBL.out]; omega
        case c1 => exact HNW.out
        case c2 =>
          intro u hu
          unfold B8 at hu
          obtain ⟨z, -, rfl⟩ := List.mem_map.1 hu
          rfl
        case c3 => unfold maxLen; omega
        case c4 => omega
        case c5 => simp; omega
        intro v5 w5 ho5 hg5 _ _
        have K5 := Lib.hid (block_grown hg5 (KB.out.below ((Below.refl _ _).alloc (Nat.le_refl _) _)) O3.out.not_new)
        have B5 := Lib.hid (O4.out.grown B4.out (Nat.le_refl _) rfl hg5)
        have O5 := Lib.hid (OB.more (l := l) (m := L) rfl ho5)
        rw [← HPB2.out] at O5
        clear ho5 hg5
        obtain ⟨e0, e1, e2⟩ := cell3 K5.out
        go_wp2_with fail
        go_roundg (n - 1)
        case rel => exact ⟨t', f', l ++ pcB ⟨pv, false, pn⟩, by rw [HT'.out], Lib.hid (by have := HF.out; have := HF2.out; have := HZN.out; omega), Lib.hid (by have := HK.out; have := HF2.out; omega), by have := HZN.out; omega, by rw [List.length_append, HPB2.out]; have := HZN.out; omega, HFN2, HRX2, O5, B5⟩
        case measure => have := HK.out; have := HF2.out; omega
      · have hv := hby rfl
        have v0 := hv.1
        have v1 := hv.2
        have hpB : pcB ⟨pv, true, pn⟩ = [pv] := rfl
        have HPB := Lib.hid hpB
        clear hby hle hv hpB
        go_wp2_with fail
        refine HX.out.mono ?_
        rintro x w2 ⟨rfl, hb⟩
        have hbx := BlockAt.new w2 #[.int .i32 pv, .bool true, .int .i64 (pn : Int)] 56
        have bqx : Below w2.heap.size w2 (w2.alloc (.cells #[.int .i32 pv, .bool true, .int .i64 (pn : Int)] 56)) := (Below.refl _ _).alloc (Nat.le_refl _) _
        have O3 := Lib.hid (HO.out.kept hb)
        have O4 := Lib.hid (O3.out.kept bqx)
        have B3 := Lib.hid (BR.out.trans (hb.mono BR.out.size))
        have B4 := Lib.hid (B3.out.trans (bqx.mono B3.out.size))
        have KB := Lib.hid hbx
        have hb4 := B4.out.size
        have hb3 := B3.out.size
        clear hb HX BR HO hbx bqx
        go_wp2_with (at_builtin; refine wpList_append_own_at _ rfl _ _ 43 rfl w.heap.size 5 i0 (.int .u8 0) 1 1 Tryz.underlying43 hi0 hz0 hz1' hz2 rfl (by decide) (.slice ao l.length cap) l.length (B8 l) rfl (World.ownsRow.alloc O4.out _) ⟨w2.heap.size + 1, 0, none⟩ 1 1 [.int .u8 pv] rfl rfl ?c1 ?c2 ?c3 ?c4 ?c5 ?_)
        case c1 =>
          intro j z hz
          have h := cell_one_new (w2.alloc (.cells #[.int .i32 pv, .bool true, .int .i64 (pn : Int)] 56)) (.int .u8 pv) 5 j z hz
          rw [show (w2.alloc (.cells #[.int .i32 pv, .bool true, .int .i64 (pn : Int)] 56)).heap.size = w2.heap.size + 1 by simp] at h
          exact h
        case c2 => simp [Value.oneCell']
        case c3 => unfold maxLen; omega
        case c4 => omega
        case c5 => simp; omega
        intro v5 w5 ho5 hg5 _ _
        have K5 := Lib.hid (block_grown hg5 (KB.out.below ((Below.refl _ _).alloc (Nat.le_refl _) _)) O3.out.not_new)
        have B5 := Lib.hid (O4.out.grown B4.out (Nat.le_refl _) rfl hg5)
        have O5 := Lib.hid (OB.more (l := l) (m := [pv]) rfl ho5)
        rw [← HPB.out] at O5
        clear ho5 hg5
        obtain ⟨e0, e1, e2⟩ := cell3 K5.out
        go_wp2_with fail
        go_roundg (n - 1)
        case rel => exact ⟨t', f', l ++ pcB ⟨pv, true, pn⟩, by rw [HT'.out], Lib.hid (by have := HF.out; have := HF2.out; have := HZN.out; omega), Lib.hid (by have := HK.out; have := HF2.out; omega), by have := HZN.out; omega, by rw [List.length_append]; have := HZN.out; omega, HFN2, HRX2, O5, B5⟩
        case measure => have := HK.out; have := HF2.out; omega
theorem rtext_any (s : ByteArray) (w : World) (hs : s.size ≤ 4010) (hsp : spoil s = -1) :
    Calls Tryz.prog 9 #[.string s] w fun e w' => e = .returned (refV (textT s)) ∧ Below w.heap.size w w' := by
  by_cases h96 : 0 < s.size ∧ byteAt s 0 = 96
  · exact rtext_raw s w hs h96.1 h96.2
  by_cases h : s.size < 2 ∨ byteAt s 0 ≠ 34
  · exact rtext_none s w hs h96 h
  · exact rtext_quoted s w hs hsp (by omega) (by omega)
end Go.Proofs.YtkafkcmhekgheaaGreatDoor
