/- Reading and writing undo each other. -/
import Derived.Test.YtbdhmelebedpiaaDoorSemBackM
namespace Go.Proofs.YtbdhmelebedpiaaDoor
open Go.RowKit

theorem app_list (a b : ByteArray) : (a ++ b).data.toList = a.data.toList ++ b.data.toList := by simp
theorem word_bytes {s : ByteArray} (h : wordB s = true) : ∀ c ∈ s.data.toList, wordC (c.toNat : Int) = true := by
  intro c hc
  unfold wordB at h
  rw [Bool.and_eq_true] at h
  have hall := of_decide_eq_true h.1
  obtain ⟨k, hk, rfl⟩ := List.getElem_of_mem hc
  have hk' : k < s.size := hk
  have := hall k hk'
  rw [byteAt_eq hk'] at this
  exact this
theorem word_free {s : ByteArray} (h : wordB s = true) : (46 : UInt8) ∉ s.data.toList ∧ (43 : UInt8) ∉ s.data.toList := by
  refine ⟨fun hm => ?_, fun hm => ?_⟩
  · have := word_bytes h _ hm; revert this; decide
  · have := word_bytes h _ hm; revert this; decide
theorem dig_free {l : List UInt8} (h : DigL l) : (46 : UInt8) ∉ l ∧ (43 : UInt8) ∉ l ∧ (45 : UInt8) ∉ l := by
  refine ⟨fun hm => ?_, fun hm => ?_, fun hm => ?_⟩
  all_goals
    have := h _ hm
    revert this
    decide
theorem joinD_free {c d : UInt8} (hcd : c ≠ d) : ∀ {ls : List (List UInt8)}, (∀ x ∈ ls, d ∉ x) → d ∉ joinD c ls
  | [], _ => by simp [joinD]
  | [x], h => h x (by simp)
  | x :: y :: r, h => by
    rw [joinD, List.mem_append, List.mem_cons]
    have ih := joinD_free hcd (ls := y :: r) (fun z hz => h z (by simp at hz ⊢; exact .inr hz))
    exact fun hm => hm.elim (h x (by simp)) (fun hm => hm.elim (fun e => hcd e.symm) ih)
theorem joinS_list (ss : List ByteArray) : (joinS ss).data.toList = joinD 46 (ss.map (·.data.toList)) := join_eq 46 _
def headL (V : Vr) : List UInt8 := joinD 46 [(itoaS V.ma).data.toList, (itoaS V.mi).data.toList, (itoaS V.pa).data.toList]
def preL (V : Vr) : List UInt8 := if 0 < V.pre.length then 45 :: joinD 46 (V.pre.map (·.data.toList)) else []
def bldL (V : Vr) : List UInt8 := if 0 < V.build.length then 43 :: joinD 46 (V.build.map (·.data.toList)) else []
theorem textS_list (V : Vr) : (textS V).data.toList = headL V ++ preL V ++ bldL V := by
  have h1 : (headS V).data.toList = headL V := by
    unfold headS headL joinD joinD joinD
    simp only [app_list]
    simp
  have h2 : (preS V).data.toList = headL V ++ preL V := by
    unfold preS preL
    split
    · rw [app_list, app_list, h1, joinS_list]; rfl
    · rw [h1, List.append_nil]
  unfold textS bldL
  split
  · rw [app_list, app_list, h2, joinS_list]; rfl
  · rw [h2, List.append_nil]
theorem map_dots (l : List UInt8) : (dotsOf l).map (·.data.toList) = partsL 46 l := by
  unfold dotsOf
  rw [List.map_map]
  exact List.map_id' _
theorem dots_join {ss : List ByteArray} (h0 : 0 < ss.length) (h : ∀ s ∈ ss, (46 : UInt8) ∉ s.data.toList) : dotsOf (joinD 46 (ss.map (·.data.toList))) = ss := by
  unfold dotsOf
  rw [join_parts (by intro e; rw [List.map_eq_nil_iff] at e; rw [e] at h0; exact absurd h0 (Nat.lt_irrefl _)) (fun x hx => by
    obtain ⟨s, hs, rfl⟩ := List.mem_map.1 hx
    exact h s hs)]
  rw [List.map_map]
  exact List.map_id' _
theorem dots_pos (l : List UInt8) : 0 < (dotsOf l).length := by
  unfold dotsOf
  rw [List.length_map]
  exact List.length_pos_iff.2 (parts_ne 46 l)
theorem data_inj {s t : ByteArray} (h : s.data.toList = t.data.toList) : s = t := by
  obtain ⟨⟨a⟩⟩ := s
  obtain ⟨⟨b⟩⟩ := t
  simp at h
  rw [h]
/-- What is read is written. -/
theorem back_text {s : ByteArray} (h : parseE s = 0) : textS (parseV s) = s ∧ rightB (parseV s) = true := by
  have hok : okSplit s = true := by
    cases ho : okSplit s
    · unfold parseE at h; rw [if_pos ho] at h; cases h
    · rfl
  have hfw : fewB (preOf s) = true ∧ fewB (buildOf s) = true := by
    cases hf : (fewB (preOf s) && fewB (buildOf s))
    · unfold parseE at h; rw [if_neg (by rw [hok]; decide), if_pos hf] at h; cases h
    · rwa [Bool.and_eq_true] at hf
  have hon : overN (numsOf s) = false := by
    cases ho : overN (numsOf s)
    · rfl
    · unfold parseE at h; rw [if_neg (by rw [hok]; decide), if_neg (by rw [hfw.1, hfw.2]; decide), if_pos ho] at h; cases h
  have hop : overP (preOf s) = false := by
    cases ho : overP (preOf s)
    · rfl
    · unfold parseE at h; rw [if_neg (by rw [hok]; decide), if_neg (by rw [hfw.1, hfw.2]; decide), if_neg (by rw [hon]; decide), if_pos ho] at h; cases h
  unfold okSplit at hok
  simp only [Bool.and_eq_true, decide_eq_true_eq, Bool.not_eq_true'] at hok
  obtain ⟨⟨⟨hl, hnb⟩, hpb⟩, hbb⟩ := hok
  obtain ⟨a, b, c, hN⟩ : ∃ a b c, numsOf s = [a, b, c] := by
    match h : numsOf s, hl with
    | [a, b, c], _ => exact ⟨a, b, c, rfl⟩
  rw [hN] at hnb hon
  have hV : parseV s = ⟨(numRes a).1, (numRes b).1, (numRes c).1, preOf s, buildOf s⟩ := by unfold parseV; rw [hN]; rfl
  simp only [List.any_cons, List.any_nil, Bool.or_eq_false_iff, badNum, Bool.not_eq_false'] at hnb
  unfold overN at hon
  simp only [List.any_cons, List.any_nil, Bool.or_eq_false_iff, Bool.not_eq_false'] at hon
  have ia := itoa_num hnb.1 hon.1
  have ib := itoa_num hnb.2.1 hon.2.1
  have ic := itoa_num hnb.2.2.1 hon.2.2.1
  have vr : ∀ q : ByteArray, isnumB q = true → (numRes q).2 = true → 0 ≤ (numRes q).1 := fun q h1 h2 => by
    obtain ⟨x, y⟩ := numRes_val h1
    rw [h2] at x
    rw [y (by cases hh : greatB q <;> rw [hh] at x <;> first | rfl | cases x)]
    omega
  constructor
  · apply data_inj
    rw [hV, textS_list]
    have e1 : headL ⟨(numRes a).1, (numRes b).1, (numRes c).1, preOf s, buildOf s⟩ = coreL s := by
      unfold headL
      simp only
      rw [ia, ib, ic, ← parts_join 46 (coreL s), ← map_dots, show dotsOf (coreL s) = [a, b, c] from hN]
      rfl
    rw [e1]
    have hcore : coreL s = (cutL 45 (cutL 43 s.data.toList).1).1 := rfl
    have hpre : preOf s = if (cutL 45 (cutL 43 s.data.toList).1).2.2 = true then dotsOf (cutL 45 (cutL 43 s.data.toList).1).2.1 else [] := rfl
    have hbld : buildOf s = if (cutL 43 s.data.toList).2.2 = true then dotsOf (cutL 43 s.data.toList).2.1 else [] := rfl
    obtain ⟨x, y, fB, hc1⟩ : ∃ x b f, cutL 43 s.data.toList = (x, b, f) := ⟨_, _, _, rfl⟩
    rw [hc1] at hcore hpre hbld
    simp only at hcore hpre hbld
    obtain ⟨x2, p, fP, hc2⟩ : ∃ y c f, cutL 45 x = (y, c, f) := ⟨_, _, _, rfl⟩
    rw [hc2] at hcore hpre
    simp only at hcore hpre
    have e2 : coreL s ++ preL ⟨(numRes a).1, (numRes b).1, (numRes c).1, preOf s, buildOf s⟩ = x := by
      unfold preL
      simp only
      rw [hcore, hpre]
      cases fP
      · obtain ⟨i1, i2⟩ := cut_no hc2
        simp [i1]
      · obtain ⟨i1, i2⟩ := cut_yes hc2
        simp only [if_true]
        rw [if_pos (dots_pos _), map_dots, parts_join, ← i1]
    rw [e2]
    unfold bldL
    simp only
    rw [hbld]
    cases fB
    · obtain ⟨i1, i2⟩ := cut_no hc1
      simp [i1]
    · obtain ⟨i1, i2⟩ := cut_yes hc1
      simp only [if_true]
      rw [if_pos (dots_pos _), map_dots, parts_join, ← i1]
  · rw [hV]
    refine (right_eq (vr a hnb.1 hon.1) (vr b hnb.2.1 hon.2.1) (vr c hnb.2.2.1 hon.2.2.1) hfw.1 hfw.2 ?_).trans ?_
    · simp only
      rw [List.all_eq_true]
      intro q hq
      have h1 := List.any_eq_false.1 hpb q hq
      have h2 : ¬ (numB q && !(numRes q).2) = true := by
        unfold overP at hop
        exact List.any_eq_false.1 hop q hq
      unfold badPre at h1
      unfold okPre
      cases hw : wordB q <;> cases hp : preB q <;> cases hn : numB q <;> cases hr : (numRes q).2 <;> rw [hw, hp] at h1 <;> rw [hn, hr] at h2 <;> simp at h1 h2 ⊢
    · simp only
      rw [hbb]
      rfl
theorem num_itoa {n : Int} (h0 : 0 ≤ n) (h1 : n ≤ 9223372036854775807) : isnumB (itoaS n) = true ∧ numRes (itoaS n) = (n, true) := by
  have hl := itoaS_list h0
  have hd : Lead (itoaS n).toList := by rw [hl]; exact dec_lead _
  have hv : valL 0 (itoaS n).toList = n.toNat := by rw [hl]; exact dec_val _
  have hlen := size_list (itoaS n)
  have hsz : 0 < (itoaS n).size := by rw [← hlen]; exact hd.2.1
  have hall : allB digC (itoaS n) = true := by
    apply decide_eq_true
    intro k hk
    rw [byteAt_eq hk]
    have hm : (itoaS n)[k] ∈ (itoaS n).toList := by rw [ByteArray.toList_eq]; exact List.getElem_mem (l := (itoaS n).data.toList) hk
    have := hd.1 _ hm
    exact decide_eq_true (by omega)
  have hnum : numB (itoaS n) = true := by unfold numB; rw [hall, decide_eq_true hsz]; rfl
  have hn : isnumB (itoaS n) = true := by
    unfold isnumB
    rw [hnum, Bool.true_and, Bool.or_eq_true]
    rcases hd.2.2 with h | h
    · left; exact decide_eq_true (by omega)
    · right
      apply decide_eq_true
      rw [byteAt_eq hsz]
      obtain ⟨r, hr, _⟩ := first_list hsz
      have := h _ _ hr
      omega
  refine ⟨hn, ?_⟩
  unfold numRes
  rw [← ByteArray.toList_eq, parseInt_dig _ hd.1 hd.2.1, hv, if_pos (by omega)]
  simp only [Prod.mk.injEq, and_true]
  omega
/-- What is written is read. -/
theorem text_back {V : Vr} (hr : rightB V = true) (h1 : V.ma ≤ 9223372036854775807) (h2 : V.mi ≤ 9223372036854775807) (h3 : V.pa ≤ 9223372036854775807) : parseE (textS V) = 0 ∧ parseV (textS V) = V := by
  have hr' := hr
  unfold rightB at hr'
  simp only [Bool.and_eq_true, decide_eq_true_eq, Bool.not_eq_true'] at hr'
  obtain ⟨⟨⟨⟨⟨⟨p1, p2⟩, p3⟩, f1⟩, f2⟩, hp⟩, hb⟩ := hr'
  have ia := num_itoa p1 h1
  have ib := num_itoa p2 h2
  have ic := num_itoa p3 h3
  have dl : ∀ {n : Int}, 0 ≤ n → DigL (itoaS n).data.toList := fun {n} h => by rw [← ByteArray.toList_eq, itoaS_list h]; exact dec_dig _
  have wp : ∀ s ∈ V.pre, wordB s = true := fun s hs => by
    have := List.all_eq_true.1 hp s hs
    unfold okPre at this
    simp only [Bool.and_eq_true] at this
    exact this.1.1
  have wb : ∀ s ∈ V.build, wordB s = true := fun s hs => by
    have := List.any_eq_false.1 hb s hs
    unfold badWord at this
    simpa using this
  have q43 : (43 : UInt8) ∉ headL V := joinD_free (by decide) (fun x hx => by
    simp at hx
    rcases hx with rfl | rfl | rfl
    · exact (dig_free (dl p1)).2.1
    · exact (dig_free (dl p2)).2.1
    · exact (dig_free (dl p3)).2.1)
  have q45 : (45 : UInt8) ∉ headL V := joinD_free (by decide) (fun x hx => by
    simp at hx
    rcases hx with rfl | rfl | rfl
    · exact (dig_free (dl p1)).2.2
    · exact (dig_free (dl p2)).2.2
    · exact (dig_free (dl p3)).2.2)
  have r43 : (43 : UInt8) ∉ preL V := by
    unfold preL
    split
    · rw [List.mem_cons]
      refine fun h => h.elim (by decide) ?_
      exact joinD_free (by decide) (fun x hx => by
        obtain ⟨s, hs, rfl⟩ := List.mem_map.1 hx
        exact (word_free (wp s hs)).2)
    · simp
  -- the cut at '+'
  have hc1 : (cutL 43 (textS V).data.toList).1 = headL V ++ preL V ∧ (if (cutL 43 (textS V).data.toList).2.2 = true then dotsOf (cutL 43 (textS V).data.toList).2.1 else []) = V.build := by
    rw [textS_list]
    unfold bldL
    by_cases hl : 0 < V.build.length
    · rw [if_pos hl, cut_at _ (by rw [List.mem_append]; exact fun h => h.elim q43 r43)]
      exact ⟨rfl, dots_join hl (fun s hs => (word_free (wb s hs)).1)⟩
    · rw [if_neg hl, List.append_nil, cut_none (by rw [List.mem_append]; exact fun h => h.elim q43 r43)]
      exact ⟨rfl, (List.eq_nil_of_length_eq_zero (by omega)).symm⟩
  have hc2 : (cutL 45 (headL V ++ preL V)).1 = headL V ∧ (if (cutL 45 (headL V ++ preL V)).2.2 = true then dotsOf (cutL 45 (headL V ++ preL V)).2.1 else []) = V.pre := by
    unfold preL
    by_cases hl : 0 < V.pre.length
    · rw [if_pos hl, cut_at _ q45]
      exact ⟨rfl, dots_join hl (fun s hs => (word_free (wp s hs)).1)⟩
    · rw [if_neg hl, List.append_nil, cut_none q45]
      exact ⟨rfl, (List.eq_nil_of_length_eq_zero (by omega)).symm⟩
  have hB : buildOf (textS V) = V.build := hc1.2
  have hP : preOf (textS V) = V.pre := by unfold preOf; rw [hc1.1]; exact hc2.2
  have hN : numsOf (textS V) = [itoaS V.ma, itoaS V.mi, itoaS V.pa] := by
    unfold numsOf coreL
    rw [hc1.1, hc2.1]
    exact dots_join (ss := [itoaS V.ma, itoaS V.mi, itoaS V.pa]) (by simp) (fun s hs => by
      simp at hs
      rcases hs with rfl | rfl | rfl
      · exact (dig_free (dl p1)).1
      · exact (dig_free (dl p2)).1
      · exact (dig_free (dl p3)).1)
  constructor
  · have ok : okSplit (textS V) = true := by
      unfold okSplit
      rw [hN, hP, hB]
      have e1 : ([itoaS V.ma, itoaS V.mi, itoaS V.pa].any badNum) = false := by
        simp only [List.any_cons, List.any_nil, badNum, ia.1, ib.1, ic.1]
        rfl
      have e2 : V.pre.any badPre = false := by
        rw [List.any_eq_false]
        intro s hs
        have := List.all_eq_true.1 hp s hs
        unfold okPre at this
        unfold badPre
        simp only [Bool.and_eq_true] at this
        rw [this.1.1, this.1.2]
        decide
      rw [e1, e2, hb]
      rfl
    have on : overN (numsOf (textS V)) = false := by
      rw [hN]
      unfold overN
      simp only [List.any_cons, List.any_nil, ia.2, ib.2, ic.2]
      rfl
    have op : overP (preOf (textS V)) = false := by
      rw [hP]
      unfold overP
      rw [List.any_eq_false]
      intro s hs
      have := List.all_eq_true.1 hp s hs
      unfold okPre at this
      simp only [Bool.and_eq_true] at this
      cases h1 : numB s <;> cases h2 : (numRes s).2 <;> rw [h1, h2] at this <;> simp at this ⊢
    unfold parseE
    rw [if_neg (by rw [ok]; decide), if_neg (by rw [hP, hB, f1, f2]; decide), if_neg (by rw [on]; decide), if_neg (by rw [op]; decide)]
  · unfold parseV
    rw [hN, hP, hB]
    show (⟨(numRes (itoaS V.ma)).1, (numRes (itoaS V.mi)).1, (numRes (itoaS V.pa)).1, V.pre, V.build⟩ : Vr) = V
    rw [ia.2, ib.2, ic.2]
theorem textS_size {V : Vr} (hr : rightB V = true) (h1 : V.ma ≤ 9223372036854775807) (h2 : V.mi ≤ 9223372036854775807) (h3 : V.pa ≤ 9223372036854775807) : (textS V).size ≤ 1000 := by
  unfold rightB at hr
  simp only [Bool.and_eq_true, decide_eq_true_eq] at hr
  obtain ⟨⟨⟨⟨⟨⟨p1, p2⟩, p3⟩, f1⟩, f2⟩, _⟩, _⟩ := hr
  have z1 := itoaS_size V.ma (by omega) h1
  have z2 := itoaS_size V.mi (by omega) h2
  have z3 := itoaS_size V.pa (by omega) h3
  have js : ∀ ss : List ByteArray, fewB ss = true → (joinS ss).size ≤ 330 := fun ss hf => by
    obtain ⟨a, b⟩ := few_sizes hf
    show (Lib.join (ss.map (·.data.toList)) [46]).length ≤ 330
    cases ss with
    | nil => simp [Lib.join]
    | cons x r =>
      have := lens_le 40 (x :: r) b
      rw [List.map_cons] at this ⊢
      rw [Lib.join_length]
      have h3 : (x :: r).length * 40 ≤ 8 * 40 := Nat.mul_le_mul_right _ a
      simp at a ⊢
      omega
  have j1 := js V.pre f1
  have j2 := js V.build f2
  have hh : (headS V).size ≤ 65 := by unfold headS; simp only [ByteArray.size_append]; have : (⟨#[46]⟩ : ByteArray).size = 1 := rfl; omega
  have hpr : (preS V).size ≤ 396 := by
    unfold preS
    have : (⟨#[45]⟩ : ByteArray).size = 1 := rfl
    split
    · simp only [ByteArray.size_append]; omega
    · omega
  unfold textS
  have : (⟨#[43]⟩ : ByteArray).size = 1 := rfl
  split
  · simp only [ByteArray.size_append]; omega
  · omega
end Go.Proofs.YtbdhmelebedpiaaDoor
