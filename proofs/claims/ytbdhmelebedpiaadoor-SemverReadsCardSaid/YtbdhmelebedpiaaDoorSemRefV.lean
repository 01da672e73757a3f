/- The reference's value, split. -/
import Derived.Test.YtbdhmelebedpiaaDoorSemRefP
namespace Go.Proofs.YtbdhmelebedpiaaDoor
open Go.RowKit
set_option linter.unusedSimpArgs false
set_option linter.unusedVariables false

theorem valL_split (l : List UInt8) (k : Nat) : valL 0 l = valL (valL 0 (l.take k)) (l.drop k) := by
  unfold valL
  rw [← List.foldl_append, List.take_append_drop]
theorem valL_take {l : List UInt8} (h : DigL l) (k : Nat) : valL 0 (l.take k) ≤ valL 0 l := by
  rw [valL_split l k]
  have := (valL_range (l.drop k) (valL 0 (l.take k)) (fun c hc => h c (List.mem_of_mem_drop hc))).1
  have hp : 1 ≤ 10 ^ (l.drop k).length := Nat.pow_pos (by decide)
  have := Nat.le_trans (Nat.mul_le_mul_left (valL 0 (l.take k)) hp) this
  omega
set_option maxHeartbeats 4000000 in
theorem value_any (s : ByteArray) (w : World) (hd : DigL s.data.toList) (hv : valL 0 s.data.toList ≤ 9223372036854775807) (hs : s.size ≤ 1000) :
    Calls Tryd.prog 29 #[.string s] w fun e w' => e = .returned (.int .i64 ((valL 0 s.data.toList : Nat) : Int)) ∧ w = w' := by
  have HD := Lib.hid hd
  have HV := Lib.hid hv
  clear hd hv
  go_enter Tryd.func29, Tryd.ntmps29
  go_wp2_with fail
  go_loop [3, 4] (fun n i => ∃ k : Nat, k ≤ s.size ∧ i = .int .i64 k ∧ n = .int .i64 ((valL 0 (s.data.toList.take k) : Nat) : Int)) (fun _ i => s.size - (intOf i).toNat)
  case atStart => exact ⟨0, Nat.zero_le _, rfl, rfl⟩
  case round =>
    obtain ⟨k, hk, rfl, rfl⟩ := hrel
    by_cases hlt : k < s.size
    · have hlt' : k < s.data.toList.length := hlt
      have hb := byte_eq hlt
      have hdc := HD.out _ (List.getElem_mem hlt')
      have hst : valL 0 (s.data.toList.take (k + 1)) = valL 0 (s.data.toList.take k) * 10 + (s[k].toNat - 48) := by
        rw [List.take_succ_eq_append_getElem hlt', valL_append, hb]
      have hup := valL_take HD.out (k + 1)
      rw [hst] at hup
      rw [← hb] at hdc
      obtain ⟨n, hn⟩ : ∃ n, valL 0 (s.data.toList.take k) = n := ⟨_, rfl⟩
      rw [hn] at hst hup ⊢
      obtain ⟨x, hx⟩ : ∃ x : Nat, s[k].toNat = x := ⟨_, rfl⟩
      have HX := Lib.hid hx
      rw [hx] at hst hup hdc
      have hV := HV.out
      have b1 : (48 : Int) ≤ (x : Int) := by omega
      have b2 : (x : Int) ≤ 57 := by omega
      have b3 : (0 : Int) ≤ (n : Int) := by omega
      have b4 : (n : Int) * 10 ≤ 9223372036854775807 := by omega
      have b5 : 10 * (n : Int) + ((x : Int) - 48) ≤ 9223372036854775807 := by omega
      have HST := Lib.hid hst
      have hxc : ((s[k].toNat : Nat) : Int) = (x : Int) := by rw [hx]
      clear hb hst hup hV hdc hx hn
      go_wp2_with fail
      go_round
      case rel => exact ⟨k + 1, by omega, by go_num, by rw [HST.out]; first | rfl | (congr 1; omega)⟩
      case measure => simp [intOf]; omega
    · obtain rfl : k = s.size := by omega
      go_wp2_with fail
      go_ret
      exact ⟨ret_int (by rw [show s.data.toList.take s.size = s.data.toList from List.take_of_length_le (Nat.le_refl _)]), rfl⟩
def partsOf (c : UInt8) (l : List UInt8) : List ByteArray := (partsL c l).map mkS
theorem extract_list (s : ByteArray) (f k : Nat) : (s.extract f k).data.toList = (s.data.toList.drop f).take (k - f) := by
  rw [Lib.extract_data]
theorem drop_cut {c : UInt8} {l : List UInt8} {f k : Nat} (hf : f ≤ k) (hk : k < l.length) (hc : l[k] = c) (hno : ∀ j (h : j < l.length), f ≤ j → j < k → l[j] ≠ c) :
    partsL c (l.drop f) = (l.drop f).take (k - f) :: partsL c (l.drop (k + 1)) := by
  have e : l.drop f = (l.drop f).take (k - f) ++ c :: l.drop (k + 1) := by
    have h1 : (l.drop f).drop (k - f) = l.drop k := by rw [List.drop_drop]; congr 1; omega
    have h2 : l.drop k = c :: l.drop (k + 1) := by rw [List.drop_eq_getElem_cons hk, hc]
    rw [← h2, ← h1, List.take_append_drop]
  have hn : c ∉ (l.drop f).take (k - f) := by
    intro hm
    obtain ⟨j, hj, he⟩ := List.getElem_of_mem hm
    simp at hj
    rw [List.getElem_take, List.getElem_drop] at he
    exact hno (f + j) (by omega) (by omega) (by omega) he
  conv => lhs; rw [e]
  exact parts_cons _ hn
theorem drop_end {c : UInt8} {l : List UInt8} {f : Nat} (hno : ∀ j (h : j < l.length), f ≤ j → l[j] ≠ c) : partsL c (l.drop f) = [l.drop f] := by
  refine parts_plain (fun hm => ?_)
  obtain ⟨j, hj, he⟩ := List.getElem_of_mem hm
  simp at hj
  rw [List.getElem_drop] at he
  exact hno (f + j) (by omega) (by omega) he
/-- What the reference's split has put together, k bytes on. -/
def SplitI (s : ByteArray) (c : UInt8) (f k : Nat) (xs : List ByteArray) : Prop :=
  f ≤ k ∧ k ≤ s.size ∧ partsOf c s.data.toList = xs ++ partsOf c (s.data.toList.drop f) ∧ ∀ j (h : j < s.data.toList.length), f ≤ j → j < k → s.data.toList[j] ≠ c
theorem split_hit {s : ByteArray} {c : UInt8} {f k : Nat} {xs : List ByteArray} (h : SplitI s c f k xs) (hk : k < s.size) (hc : s[k] = c) : SplitI s c (k + 1) (k + 1) (xs ++ [s.extract f k]) := by
  obtain ⟨h1, h2, h3, h4⟩ := h
  have hk' : k < s.data.toList.length := hk
  refine ⟨Nat.le_refl _, hk, ?_, fun j _ h5 h6 => by omega⟩
  rw [h3]
  unfold partsOf
  rw [drop_cut h1 hk' (by rw [← byte_eq hk]; exact hc) h4, List.map_cons, List.append_assoc]
  congr 1
  rw [List.singleton_append]
  congr 1
  apply data_inj
  rw [mkS_data, extract_list]
theorem split_miss {s : ByteArray} {c : UInt8} {f k : Nat} {xs : List ByteArray} (h : SplitI s c f k xs) (hk : k < s.size) (hc : s[k] ≠ c) : SplitI s c f (k + 1) xs := by
  obtain ⟨h1, h2, h3, h4⟩ := h
  refine ⟨by omega, hk, h3, fun j hj h5 h6 => ?_⟩
  rcases Nat.lt_or_eq_of_le (Nat.le_of_lt_succ h6) with h7 | h7
  · exact h4 j hj h5 h7
  · subst h7
    rw [← byte_eq hk]
    exact hc
theorem split_last {s : ByteArray} {c : UInt8} {f : Nat} {xs : List ByteArray} (h : SplitI s c f s.size xs) : partsOf c s.data.toList = xs ++ [s.extract f s.size] := by
  obtain ⟨h1, h2, h3, h4⟩ := h
  rw [h3]
  unfold partsOf
  rw [drop_end (fun j hj h5 => h4 j hj h5 hj), List.map_cons, List.map_nil]
  congr 2
  apply data_inj
  rw [mkS_data, extract_list, List.take_of_length_le (by rw [List.length_drop]; exact Nat.le_refl _)]
theorem splitI_len {s : ByteArray} {c : UInt8} {f k : Nat} {xs : List ByteArray} (h : SplitI s c f k xs) : xs.length ≤ s.size + 1 := by
  have h1 := (parts_len c s.data.toList).1
  have h2 : (partsOf c s.data.toList).length = (partsL c s.data.toList).length := by unfold partsOf; rw [List.length_map]
  rw [h.2.2.1, List.length_append] at h2
  have : s.data.toList.length = s.size := rfl
  omega
set_option maxHeartbeats 8000000 in
set_option maxRecDepth 100000 in
theorem refsplit_any (s : ByteArray) (c : UInt8) (w : World) (hs : s.size ≤ 1000) :
    Calls Tryd.prog 24 #[.string s, .int .u8 (c.toNat : Int)] w fun e w' => (∃ ao cap, e = .returned (.slice ao (partsOf c s.data.toList).length cap) ∧ SRowN w.heap.size w' ao (partsOf c s.data.toList) ∧ (partsOf c s.data.toList).length ≤ cap) ∧ Below w.heap.size w w' := by
  obtain ⟨i0, hi, hz0, hz1, hz2⟩ := info_parts info_str
  obtain ⟨z, hz⟩ : ∃ z : Int, (c.toNat : Int) = z := ⟨_, rfl⟩
  have HZ := Lib.hid hz
  rw [hz]
  clear hz
  go_enter Tryd.func24, Tryd.ntmps24
  go_wp2_with fail
  go_loopw [5, 6, 7] (fun vo fr i wr => ∃ (f k : Nat) (xs : List ByteArray), fr = .int .i64 f ∧ i = .int .i64 k ∧ Hid (SplitI s c f k xs) ∧ Hid (wr.ownsRow w.heap.size 9 1 vo xs.length (S9 xs)) ∧ Hid (Below w.heap.size w wr)) (fun _ _ i _ => s.size - (intOf i).toNat)
  case atStart =>
    refine ⟨0, 0, [], rfl, rfl, Lib.hid ⟨Nat.le_refl _, Nat.zero_le _, by simp, fun j _ _ h => absurd h (Nat.not_lt_zero _)⟩, Lib.hid ⟨rfl, .inr ⟨w.heap.size, 0, #[], rfl, Nat.le_refl _, BlockAt.new _ _ _, Nat.le_refl _, by decide, rfl, rfl⟩⟩, Lib.hid ((Below.refl _ _).alloc (Nat.le_refl _) _)⟩
  case round =>
    obtain ⟨f, k, xs, rfl, rfl, HI, Hown, HB⟩ := hrel
    have hfk := HI.out.1
    have hks := HI.out.2.1
    have BZ := Lib.hid HB.out.size
    have hxl := splitI_len HI.out
    by_cases hlt : k < s.size
    · obtain ⟨x, hx⟩ : ∃ x : Int, (s[k].toNat : Int) = x := ⟨_, rfl⟩
      by_cases he : x = z
      · have Hnx := Lib.hid (split_hit HI.out hlt (u8_eq (by rw [hx, HZ.out, he])))
        subst he
        have heq : (x == x) = true := beq_self_eq_true _
        go_wp2_with (at_builtin; refine wpList_append_own_at _ rfl _ _ 22 rfl w.heap.size 9 i0 (.string ⟨#[]⟩) 1 16 Tryd.underlying22 hi hz0 hz1 hz2 rfl (by decide) _ xs.length (S9 xs) rfl (Hown.out.alloc _) ⟨wr.heap.size, 0, none⟩ 1 1 [.string (s.extract f k)] rfl ?c1 ?c2 ?c3 ?c4 ?c5 ?c6 ?_)
        try (case c1 => rfl)
        try (case c2 => exact cell_newS _ _ _)
        try (case c3 =>
          intro u hu
          simp at hu
          subst hu
          rfl)
        try (case c4 => unfold maxLen; omega)
        try (case c5 => omega)
        try (case c6 => have := BZ.out; simp; omega)
        intro v' w2 hown3 hgrow _ hblk
        have hb2 := Lib.hid (own_pushS Hown.out HB.out hgrow)
        have ho2 := Lib.hid (show w2.ownsRow w.heap.size 9 1 v' (xs ++ [s.extract f k]).length (S9 (xs ++ [s.extract f k])) by
          rw [S9, List.map_append, List.length_append]
          exact hown3)
        clear hown3 hgrow hblk
        go_wp2_with fail
        go_roundw
        case rel => exact ⟨k + 1, k + 1, _, by go_num, by go_num, Hnx, ho2, hb2⟩
        case measure => simp [intOf]; omega
      · have Hnx := Lib.hid (split_miss HI.out hlt (fun e => he (by rw [← hx, ← HZ.out, e])))
        have heq : (x == z) = false := by rw [beq_eq_false_iff_ne]; exact he
        clear he
        go_wp2_with fail
        go_roundw
        case rel => exact ⟨f, k + 1, xs, rfl, by go_num, Hnx, Hown, HB⟩
        case measure => simp [intOf]; omega
    · obtain rfl : k = s.size := by omega
      have Hl := Lib.hid (split_last HI.out)
      go_wp2_with (at_builtin; refine wpList_append_own_at _ rfl _ _ 22 rfl w.heap.size 9 i0 (.string ⟨#[]⟩) 1 16 Tryd.underlying22 hi hz0 hz1 hz2 rfl (by decide) _ xs.length (S9 xs) rfl (Hown.out.alloc _) ⟨wr.heap.size, 0, none⟩ 1 1 [.string (s.extract f s.size)] rfl ?c1 ?c2 ?c3 ?c4 ?c5 ?c6 ?_)
      try (case c1 => rfl)
      try (case c2 => exact cell_newS _ _ _)
      try (case c3 =>
        intro u hu
        simp at hu
        subst hu
        rfl)
      try (case c4 => unfold maxLen; omega)
      try (case c5 => omega)
      try (case c6 => have := BZ.out; simp; omega)
      intro v' w2 hown3 hgrow _ hblk
      have hb2 := Lib.hid (own_pushS Hown.out HB.out hgrow)
      have ho2 : w2.ownsRow w.heap.size 9 1 v' (xs ++ [s.extract f s.size]).length (S9 (xs ++ [s.extract f s.size])) := by
        rw [S9, List.map_append, List.length_append]
        exact hown3
      rw [← Hl.out] at ho2
      obtain ⟨ao, cap, rfl, r1, r2⟩ := srow_own ho2
      have R1 := Lib.hid r1
      have R2 := Lib.hid r2
      clear hown3 hgrow hblk ho2 r1 r2
      go_wp2_with fail
      go_ret
      exact ⟨⟨ao, cap, rfl, R1.out, R2.out⟩, hb2.out⟩
end Go.Proofs.YtbdhmelebedpiaaDoor
