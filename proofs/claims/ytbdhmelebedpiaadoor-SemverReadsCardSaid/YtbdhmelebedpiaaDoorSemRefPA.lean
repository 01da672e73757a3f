/- The reference's Parse, whole. -/
import Derived.Test.YtbdhmelebedpiaaDoorSemRefPW
namespace Go.Proofs.YtbdhmelebedpiaaDoor
open Go.RowKit
set_option linter.unusedSimpArgs false
set_option linter.unusedVariables false
theorem all_any {p q : ByteArray → Bool} (h : ∀ x, p x = !q x) : ∀ l : List ByteArray, l.all p = !l.any q
  | [] => rfl
  | x :: r => by rw [List.all_cons, List.any_cons, h, all_any h r, Bool.not_or]
theorem any_same {p q : ByteArray → Bool} : ∀ {l : List ByteArray} (_h : ∀ x ∈ l, p x = q x), l.any p = l.any q
  | [], _ => rfl
  | x :: r, h => by rw [List.any_cons, List.any_cons, h x List.mem_cons_self, any_same fun y hy => h y (List.mem_cons_of_mem _ hy)]
theorem syn_pre (s : ByteArray) : synB true s = !badPre s := by unfold synB badPre preB; cases wordB s <;> cases numB s <;> cases isnumB s <;> rfl
theorem syn_word (s : ByteArray) : synB false s = !badWord s := by unfold synB badWord; cases wordB s <;> cases numB s <;> cases isnumB s <;> rfl
theorem err_len {s : ByteArray} (h : ¬ (numsOf s).length = 3) : parseE s = 5 := by unfold parseE okSplit; rw [decide_eq_false h]; rfl
theorem err_pre {s : ByteArray} (h : (preOf s).all (synB true) = false) : parseE s = 5 := by
  rw [all_any syn_pre] at h
  unfold parseE okSplit
  rw [h, Bool.and_false, Bool.false_and]
  rfl
theorem err_bld {s : ByteArray} (h : (buildOf s).all (synB false) = false) : parseE s = 5 := by
  rw [all_any syn_word] at h
  unfold parseE okSplit
  rw [h, Bool.and_false]
  rfl
theorem err_main {s a b c : ByteArray} (h : numsOf s = [a, b, c]) (h2 : (preOf s).all (synB true) = true) (h3 : (buildOf s).all (synB false) = true) : parseE s = mainE [a, b, c] (preOf s) (buildOf s) := by
  rw [all_any syn_pre] at h2
  rw [all_any syn_word] at h3
  have p2 : (preOf s).any badPre = false := by
    cases hh : (preOf s).any badPre
    · rfl
    · rw [hh] at h2; cases h2
  have p3 : (buildOf s).any badWord = false := by
    cases hh : (buildOf s).any badWord
    · rfl
    · rw [hh] at h3; cases h3
  have o2 : overP (preOf s) = (preOf s).any greatB := any_same fun x hx => by
    have hb := List.any_eq_false.1 p2 x hx
    cases hn : numB x
    · unfold greatB; rw [hn]; rfl
    · have hi : isnumB x = true := by
        unfold badPre preB at hb; rw [hn] at hb
        revert hb; cases wordB x <;> cases isnumB x <;> decide
      rw [(numRes_val hi).1, Bool.not_not, Bool.true_and]
  unfold parseE okSplit mainE
  rw [p2, p3, h, o2]
  cases n : [a, b, c].any badNum
  · have o1 : overN [a, b, c] = [a, b, c].any greatB := any_same fun x hx => by
      have hb := List.any_eq_false.1 n x hx
      have hi : isnumB x = true := by unfold badNum at hb; revert hb; cases isnumB x <;> decide
      rw [(numRes_val hi).1, Bool.not_not]
    rw [o1]
    rfl
  · rfl
theorem val_main {s a b c : ByteArray} (h : numsOf s = [a, b, c]) (h0 : mainE [a, b, c] (preOf s) (buildOf s) = 0) : parseV s = ⟨((valL 0 a.data.toList : Nat) : Int), ((valL 0 b.data.toList : Nat) : Int), ((valL 0 c.data.toList : Nat) : Int), preOf s, buildOf s⟩ := by
  have n1 : [a, b, c].any badNum = false := by
    cases n : [a, b, c].any badNum
    · rfl
    · rw [main5 n] at h0; cases h0
  have n2 : [a, b, c].any greatB = false := by
    cases n : [a, b, c].any greatB
    · rfl
    · unfold mainE at h0
      rw [if_neg (by rw [n1]; decide)] at h0
      split at h0
      · cases h0
      · first
          | (exact absurd h0 (by decide))
          | (rw [if_pos n] at h0; cases h0)
  have key : ∀ x ∈ [a, b, c], (numRes x).1 = ((valL 0 x.data.toList : Nat) : Int) := fun x hx => by
    have hb := List.any_eq_false.1 n1 x hx
    have hg := List.any_eq_false.1 n2 x hx
    have hi : isnumB x = true := by unfold badNum at hb; revert hb; cases isnumB x <;> decide
    rw [← ByteArray.toList_eq]
    exact (numRes_val hi).2 (Bool.eq_false_iff.2 hg)
  unfold parseV
  rw [h]
  have k1 := key a (by simp)
  have k2 := key b (by simp)
  have k3 := key c (by simp)
  show (⟨(numRes a).1, (numRes b).1, (numRes c).1, preOf s, buildOf s⟩ : Vr) = _
  rw [k1, k2, k3]
/-- What the reference's Parse gives. -/
def RefPP (w0 : World) (V : Vr) (E : Int) (e : Ending) (w' : World) : Prop := Below w0.heap.size w0 w' ∧
  ((E ≠ 0 ∧ e = .returned (refErr E)) ∨
   (E = 0 ∧ ∃ po pc bo bc, e = .returned (.agg #[.int .i64 V.ma, .int .i64 V.mi, .int .i64 V.pa, .slice po V.pre.length pc, .slice bo V.build.length bc, .int .i64 0]) ∧ SRow w' po V.pre ∧ SRow w' bo V.build))
theorem pp_five {s : ByteArray} {w : World} (h : parseE s = 5) (hC : Calls Tryd.prog 9 #[.string s] w fun e w' => e = .returned (refErr 5) ∧ Below w.heap.size w w') :
    Calls Tryd.prog 9 #[.string s] w (RefPP w (parseV s) (parseE s)) := by
  rw [h]
  refine hC.mono ?_
  rintro e w' ⟨rfl, hb⟩
  exact ⟨hb, .inl ⟨by decide, rfl⟩⟩
theorem pp_main {s a b c : ByteArray} {w : World} (h : numsOf s = [a, b, c]) (h2 : (preOf s).all (synB true) = true) (h3 : (buildOf s).all (synB false) = true) (hC : Calls Tryd.prog 9 #[.string s] w (RefM w a b c (preOf s) (buildOf s))) :
    Calls Tryd.prog 9 #[.string s] w (RefPP w (parseV s) (parseE s)) := by
  rw [err_main h h2 h3]
  refine hC.mono ?_
  rintro e w' ⟨hb, ⟨hn, rfl⟩ | ⟨h0, po, pc, bo, bc, rfl, r1, r2⟩⟩
  · exact ⟨hb, .inl ⟨hn, rfl⟩⟩
  · rw [val_main h h0]
    exact ⟨hb, .inr ⟨h0, po, pc, bo, bc, rfl, r1, r2⟩⟩
theorem three {l : List ByteArray} (h : l.length = 3) : ∃ a b c, l = [a, b, c] := by
  match l, h with
  | [a, b, c], _ => exact ⟨a, b, c, rfl⟩
theorem refparse_any (s : ByteArray) (w : World) (hs : s.size ≤ 1000) :
    Calls Tryd.prog 9 #[.string s] w (RefPP w (parseV s) (parseE s)) := by
  obtain ⟨x, b, fb, hc1⟩ : ∃ x b f, cutL 43 s.data.toList = (x, b, f) := ⟨_, _, _, rfl⟩
  obtain ⟨x2, p, fp, hc2⟩ : ∃ x2 p f, cutL 45 x = (x2, p, f) := ⟨_, _, _, rfl⟩
  have hN : dotsOf x2 = numsOf s := by unfold numsOf coreL; simp only [hc1, hc2]
  have hP : preOf s = if fp = true then dotsOf p else [] := by unfold preOf; simp only [hc1, hc2]
  have hB : buildOf s = if fb = true then dotsOf b else [] := by unfold buildOf; simp only [hc1]
  by_cases t1 : (numsOf s).length = 3
  · obtain ⟨na, nb, nc, h3⟩ := three t1
    cases fp <;> cases fb
    · have gP : preOf s = [] := by simpa using hP
      have gB : buildOf s = [] := by simpa using hB
      have q2 : (preOf s).all (synB true) = true := by rw [gP]; rfl
      have q3 : (buildOf s).all (synB false) = true := by rw [gB]; rfl
      exact pp_main h3 q2 q3 (refparse_ff_main s x b x2 p _ _ _ w hs hc1 hc2 hN gP gB na nb nc h3 q2 q3)
    · have gP : preOf s = [] := by simpa using hP
      have gB : dotsOf b = buildOf s := by simpa using hB.symm
      have q2 : (preOf s).all (synB true) = true := by rw [gP]; rfl
      cases q3 : (buildOf s).all (synB false)
      · exact pp_five (err_bld q3) (refparse_ft_bld s x b x2 p _ _ _ w hs hc1 hc2 hN gP gB t1 q2 q3)
      · exact pp_main h3 q2 q3 (refparse_ft_main s x b x2 p _ _ _ w hs hc1 hc2 hN gP gB na nb nc h3 q2 q3)
    · have gP : dotsOf p = preOf s := by simpa using hP.symm
      have gB : buildOf s = [] := by simpa using hB
      cases q2 : (preOf s).all (synB true)
      · exact pp_five (err_pre q2) (refparse_tf_pre s x b x2 p _ _ _ w hs hc1 hc2 hN gP gB t1 q2)
      · have q3 : (buildOf s).all (synB false) = true := by rw [gB]; rfl
        exact pp_main h3 q2 q3 (refparse_tf_main s x b x2 p _ _ _ w hs hc1 hc2 hN gP gB na nb nc h3 q2 q3)
    · have gP : dotsOf p = preOf s := by simpa using hP.symm
      have gB : dotsOf b = buildOf s := by simpa using hB.symm
      cases q2 : (preOf s).all (synB true)
      · exact pp_five (err_pre q2) (refparse_tt_pre s x b x2 p _ _ _ w hs hc1 hc2 hN gP gB t1 q2)
      · cases q3 : (buildOf s).all (synB false)
        · exact pp_five (err_bld q3) (refparse_tt_bld s x b x2 p _ _ _ w hs hc1 hc2 hN gP gB t1 q2 q3)
        · exact pp_main h3 q2 q3 (refparse_tt_main s x b x2 p _ _ _ w hs hc1 hc2 hN gP gB na nb nc h3 q2 q3)
  · cases fp <;> cases fb
    · exact pp_five (err_len t1) (refparse_ff_len s x b x2 p _ _ _ w hs hc1 hc2 hN (by simpa using hP) (by simpa using hB) t1)
    · exact pp_five (err_len t1) (refparse_ft_len s x b x2 p _ _ _ w hs hc1 hc2 hN (by simpa using hP) (by simpa using hB.symm) t1)
    · exact pp_five (err_len t1) (refparse_tf_len s x b x2 p _ _ _ w hs hc1 hc2 hN (by simpa using hP.symm) (by simpa using hB) t1)
    · exact pp_five (err_len t1) (refparse_tt_len s x b x2 p _ _ _ w hs hc1 hc2 hN (by simpa using hP.symm) (by simpa using hB.symm) t1)
end Go.Proofs.YtbdhmelebedpiaaDoor
