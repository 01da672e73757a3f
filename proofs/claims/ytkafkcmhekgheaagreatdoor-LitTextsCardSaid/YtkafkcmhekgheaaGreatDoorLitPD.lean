/- Literals: the program's Text. -/
import Derived.Test.YtkafkcmhekgheaaGreatDoorLitPC
import Derived.Laws.BytesArg
import Derived.Lib.CountLaws
import Derived.Lib.SplitLaws
import Derived.Lib.Replace
import Derived.Laws.MakeOwn
import Derived.Deep.LoopGhost
namespace Go.Proofs.YtkafkcmhekgheaaGreatDoor
open Go.RowKit
set_option linter.unusedSimpArgs false
set_option linter.unusedVariables false

/-! ### What is taken out -/
theorem index_parts (c : UInt8) : ∀ l : List UInt8, (Lib.index l [c] = -1 ∧ c ∉ l) ∨ ∃ i : Nat, Lib.index l [c] = i ∧ c ∉ l.take i ∧ l.drop i = c :: l.drop (i + 1)
  | [] => .inl ⟨rfl, by simp⟩
  | b :: l => by
    by_cases h : b = c
    · subst h
      refine .inr ⟨0, ?_, by simp, rfl⟩
      simp [Lib.index]
    · have hn : ([c] : List UInt8).isPrefixOf (b :: l) = false := by
        show ((c == b) && _) = false
        rw [show (c == b) = false by rw [beq_eq_false_iff_ne]; exact fun e => h e.symm]
        rfl
      rcases index_parts c l with ⟨h1, h2⟩ | ⟨i, h1, h2, h3⟩
      · refine .inl ⟨?_, ?_⟩
        · simp [Lib.index, hn, h1]
        · simp only [List.mem_cons, not_or]; exact ⟨fun e => h e.symm, h2⟩
      · refine .inr ⟨i + 1, ?_, ?_, ?_⟩
        · have hne : ¬ (Lib.index l [c] == -1) = true := fun e => by have := beq_iff_eq.1 e; omega
          show (if ([c] : List UInt8).isPrefixOf (b :: l) = true then (0 : Int) else if (Lib.index l [c] == -1) = true then -1 else Lib.index l [c] + 1) = _
          rw [hn, if_neg (by decide), if_neg hne, h1]
          omega
        · simp only [List.take_succ_cons, List.mem_cons, not_or]; exact ⟨fun e => h e.symm, h2⟩
        · simpa using h3
theorem out_filter (c : UInt8) : ∀ (n : Nat) (l : List UInt8), l.length ≤ n → Lib.replaceK [c] [] (Lib.count l [c]) l = l.filter (fun x => x != c)
  | n, l, hn => by
    rcases index_parts c l with ⟨h1, h2⟩ | ⟨i, h1, h2, h3⟩
    · rw [Lib.count_miss h1]
      show l = _
      rw [List.filter_eq_self.2]
      intro x hx
      rw [bne_iff_ne]
      exact fun e => h2 (e ▸ hx)
    · have hlen : 0 < l.length := by
        rcases Nat.eq_zero_or_pos l.length with e | e
        · rw [List.eq_nil_of_length_eq_zero e] at h3; simp at h3
        · exact e
      cases n with
      | zero => omega
      | succ n =>
        rw [Lib.count_hit (by simp) h1, Nat.add_comm, Lib.replaceK_hit _ _ _ _ i h1]
        have ih := out_filter c n (l.drop (i + 1)) (by rw [List.length_drop]; omega)
        rw [show i + ([c] : List UInt8).length = i + 1 from rfl, ih]
        have e : l = l.take i ++ c :: l.drop (i + 1) := by rw [← h3, List.take_append_drop]
        have hf : (l.take i).filter (fun x => x != c) = l.take i := List.filter_eq_self.2 (fun x hx => by rw [bne_iff_ne]; exact fun e => h2 (e ▸ hx))
        have hs : l.filter (fun x => x != c) = (l.take i).filter (fun x => x != c) ++ (l.drop (i + 1)).filter (fun x => x != c) := by
          generalize l.take i = a at *
          generalize l.drop (i + 1) = d at *
          rw [e, List.filter_append, List.filter_cons, bne_self_eq_false, if_neg (by decide)]
        rw [hs, hf, List.append_nil]
theorem replace_out (c : UInt8) (l : List UInt8) : Lib.replaceAll l [c] [] = l.filter (fun x => x != c) := by
  unfold Lib.replaceAll Lib.replace
  rw [if_neg (by simp), show Lib.replaceNum l [c] (-1) = Lib.count l [c] by unfold Lib.replaceNum; rw [if_pos (.inl (by decide))]]
  exact out_filter c l.length l (Nat.le_refl _)
theorem byte_list (s : ByteArray) (i n : Nat) (hn : n ≤ s.size) : ((s.extract i n).data.toList).map (fun b => (b.toNat : Int)) = (List.range' i (n - i)).map (byteAt s) := by
  apply List.ext_getElem
  · simp [size_ext]
    have := size_ext s i n hn
    rw [ByteArray.size] at this
    simp at this ⊢
    omega
  · intro k h1 h2
    simp at h2
    have hk : k < (s.extract i n).size := by rw [size_ext s i n hn]; omega
    have hb := byte_ext s i n k hn
    rw [if_pos (by omega), byteAt_eq hk] at hb
    simp only [List.getElem_map, List.getElem_range', Nat.one_mul]
    rw [← hb]
    rfl
theorem raw_out (s : ByteArray) (i n : Nat) (hn : n ≤ s.size) : (⟨(Lib.replaceAll (s.extract i n).data.toList [13] []).toArray⟩ : ByteArray) = strOfNums (rawL s i n) := by
  rw [replace_out]
  unfold strOfNums rawL
  rw [← byte_list s i n hn]
  congr 2
  generalize (s.extract i n).data.toList = l
  induction l with
  | nil => rfl
  | cons b l ih =>
    simp only [List.map_cons, List.filter_cons]
    by_cases h : b = 13
    · subst h
      rw [show ((13 : UInt8) != 13) = false from rfl, show (!decide (((13 : UInt8).toNat : Int) = 13)) = false from rfl, if_neg (by decide), if_neg (by decide), ih]
    · have h1 : (b != 13) = true := by rw [bne_iff_ne]; exact h
      have h2 : (!decide ((b.toNat : Int) = 13)) = true := by
        rw [Bool.not_eq_true', decide_eq_false_iff_not]
        intro e
        apply h
        apply UInt8.toNat_inj.1
        have : (13 : UInt8).toNat = 13 := rfl
        omega
      rw [h1, h2, if_pos rfl, if_pos rfl, List.map_cons, ih]
      congr 1
      simp
theorem has_index (s : ByteArray) (i n : Nat) (hn : n ≤ s.size) (c : UInt8) : decide (0 ≤ Lib.indexByte (s.extract i n).data.toList c) = hasB s i n (c.toNat : Int) := by
  unfold hasB
  have e : (List.range' i (n - i)).any (fun k => decide (byteAt s k = (c.toNat : Int))) = ((List.range' i (n - i)).map (byteAt s)).any (fun x => decide (x = (c.toNat : Int))) := by rw [List.any_map]; rfl
  rw [e, ← byte_list s i n hn]
  generalize (s.extract i n).data.toList = l
  induction l with
  | nil => rfl
  | cons b l ih =>
    simp only [List.map_cons, List.any_cons, ← ih]
    have hstep : Lib.indexByte (b :: l) c = if b == c then 0 else if Lib.indexByte l c == -1 then -1 else Lib.indexByte l c + 1 := rfl
    rw [hstep]
    have hge := Lib.indexByte_ge l c
    by_cases h : b = c
    · subst h
      simp
    · have h1 : (b == c) = false := by rw [beq_eq_false_iff_ne]; exact h
      have h2 : decide ((b.toNat : Int) = (c.toNat : Int)) = false := by
        rw [decide_eq_false_iff_not]
        exact fun e => h (UInt8.toNat_inj.1 (by omega))
      rw [h1, h2, Bool.false_or, if_neg (by decide), decide_eq_decide]
      split
      · rename_i h3; have := beq_iff_eq.1 h3; omega
      · rename_i h3
        have : Lib.indexByte l c ≠ -1 := fun e => h3 (by rw [e]; rfl)
        omega
/-! ### Bytes in a row of the call's own -/
def B8 (es : List Int) : List Value := es.map (Value.int .u8)
def OB (w : World) (base : Nat) (v : Value) (l : List Int) : Prop := w.ownsRow base 5 1 v l.length (B8 l)
theorem OB.kept {w w' : World} {base : Nat} {v : Value} {l : List Int} (h : OB w base v l) (hb : Below w.heap.size w w') : OB w' base v l := by
  obtain ⟨h1, h2⟩ := h
  refine ⟨h1, ?_⟩
  rcases h2 with h2 | ⟨g, cap, cur, hv, hg, hcur, rest⟩
  · exact .inl h2
  · exact .inr ⟨g, cap, cur, hv, hg, by rw [hb.block _ (Array.getElem?_eq_some_iff.1 hcur).1]; exact hcur, rest⟩
theorem B8_add (l m : List Int) : B8 (l ++ m) = B8 l ++ B8 m := by unfold B8; rw [List.map_append]
theorem OB.more {w : World} {base n : Nat} {v : Value} {l m : List Int} (hn : n = l.length + m.length) (h : w.ownsRow base 5 1 v n (B8 l ++ B8 m)) : OB w base v (l ++ m) := by
  unfold OB
  rw [B8_add, List.length_append, ← hn]
  exact h
theorem OB.slice {w : World} {base : Nat} {v : Value} {l : List Int} (h : OB w base v l) : ∃ ao cap, v = .slice ao l.length cap := by
  obtain ⟨h1, h2⟩ := h
  rcases h2 with ⟨rfl, h0⟩ | ⟨g, cap, cur, rfl, -⟩
  · exact ⟨none, 0, by rw [h0]⟩
  · exact ⟨_, _, rfl⟩
theorem conv_nil (w : World) : (convert 43 9 (.slice none 0 0)).run Tryz.prog w = .ok (.string ⟨#[]⟩) w := by kernel_rfl
theorem OB.text {w : World} {base : Nat} {v : Value} {l : List Int} (h : OB w base v l) : (convert 43 9 v).run Tryz.prog w = .ok (.string (strOfNums l)) w := by
  obtain ⟨h1, h2⟩ := h
  rcases h2 with ⟨rfl, h0⟩ | ⟨g, cap, cur, rfl, hg, hcur, hcap1, hcap2, hcs, htk⟩
  · rw [List.eq_nil_of_length_eq_zero h0]
    exact conv_nil w
  · refine run_convert_bytes_arg w 43 5 Tryz.underlying43 Tryz.underlying5 g 0 l.length cap l rfl (fun i hi => ?_) 9 Tryz.underlying9
    rw [Nat.zero_add]
    simp only [World.cell?, hcur, Option.isSome_none, Bool.false_eq_true, if_false]
    have e : cur[i]? = (cur.toList.take (l.length * 1))[i]? := by
      rw [List.getElem?_take_of_lt (by omega)]
      simp
    rw [e, htk]
    simp [B8, hi]
theorem OB.grown {W w w1 w2 : World} {base : Nat} {v : Value} {l : List Int} {o : Obj} (h : OB w base v l) (hB : Below W.heap.size W w) (hb : W.heap.size ≤ base) (ho : w1 = w.alloc o) (hg : w1.grownBy w2 v.ownBlock) : Below W.heap.size W w2 := by
  subst ho
  exact (hB.alloc hB.size _).grown hg (by have := hB.size; simp; omega) (fun k hk => by have := World.ownsRow.lt h k hk; omega)
end Go.Proofs.YtkafkcmhekgheaaGreatDoor
