import Derived.Test.YtkmnfkhchcoamaaGreatDoorSubS
import Derived.Test.YtkmnfkhchcoamaaGreatDoorUnA
import Derived.Test.YtkmnfkhchcoamaaGreatDoorUnV
import Derived.Test.YtkmnfkhchcoamaaGreatDoorUnF
/- Types put instead of params in a unit: what is put in is made right; no error is that of wrong args; kinds and names stay. -/
namespace Go.Proofs.YtkmnfkhchcoamaaGreatDoor
open Go.RowKit
set_option linter.unusedSimpArgs false
set_option linter.unusedVariables false

theorem kind_fun (l : List Ty) (k : Int) : kindAt l k = (funT l k.toNat).kind := by
  unfold kindAt funT
  rw [List.getD_eq_getElem?_getD]
  cases l[k.toNat]? <;> rfl
/-- An element of an interface by itself, and one behind the other. -/
def okP (l : List Ty) (n : Int) (p : ByteArray × Int) : Bool :=
  if markB p.1 = true then decide (2 ≤ n ∧ kindAt l p.2 ≠ 7 ∧ kindAt l p.2 ≠ 9 ∧ ¬ (14 ≤ p.2 ∧ p.2 ≤ 19)) else nameB p.1 && decide (kindAt l p.2 = 5)
def nextP (p q : ByteArray × Int) : Prop := if markB q.1 = true then (markB p.1 = true → p.2 < q.2) else markB p.1 = false ∧ Op.bytesLess p.1.toList q.1.toList = true
theorem nextP.trans {p q r : ByteArray × Int} (h : nextP p q) (h2 : nextP q r) : nextP p r := by
  unfold nextP at *
  by_cases hr : markB r.1 = true
  · rw [if_pos hr] at h2 ⊢
    intro hp
    by_cases hq : markB q.1 = true
    · rw [if_pos hq] at h
      exact Int.lt_trans (h hp) (h2 hq)
    · rw [if_neg hq, hp] at h
      cases h.1
  · rw [if_neg hr] at h2 ⊢
    rw [if_neg (by rw [h2.1]; decide)] at h
    exact ⟨h.1, bytes_trans _ _ _ h.2 h2.2⟩
theorem elem_ok {l : List Ty} {n : Int} {ahead : Option (ByteArray × Int)} {w : ByteArray} {k : Int} : elemB l n ahead w k = true ↔ okP l n (w, k) = true ∧ ∀ p, ahead = some p → nextP p (w, k) := by
  unfold elemB okP nextP
  by_cases hw : markB w = true
  · rw [if_pos hw]
    simp only [hw, if_true]
    cases ahead with
    | none => simp
    | some p =>
      obtain ⟨v, j⟩ := p
      cases hv : markB v <;> simp [hv]
  · rw [if_neg hw]
    simp only [hw, if_false]
    cases ahead with
    | none => simp
    | some p =>
      obtain ⟨v, j⟩ := p
      cases hv : markB v <;> simp [hv]
theorem elems_all {l : List Ty} {n : Int} {ws : List ByteArray} {ks : List Int} (hl : ws.length = ks.length) (h : elemsB l n ws ks = true) : (∀ p ∈ ws.zip ks, okP l n p = true) ∧ (ws.zip ks).Pairwise nextP := by
  have hz : (ws.zip ks).length = ws.length := by rw [List.length_zip]; omega
  have at_ : ∀ i (hi : i < ws.length), elemB l n (aheadOf ws ks i) (ws.getD i ⟨#[]⟩) (ks.getD i 0) = true := fun i hi => elem_step h hi
  refine ⟨fun p hp => ?_, ?_⟩
  · obtain ⟨i, hi, rfl⟩ := List.getElem_of_mem hp
    have h1 := (elem_ok.1 (at_ i (by omega))).1
    rw [getD_of (show i < ws.length by omega), getD_of (show i < ks.length by omega)] at h1
    rw [List.getElem_zip]
    exact h1
  · have step : ∀ b (hb : b + 1 < (ws.zip ks).length), nextP ((ws.zip ks)[b]'(by omega)) (ws.zip ks)[b + 1] := fun b hb => by
      have h1 := (elem_ok.1 (at_ (b + 1) (by omega))).2 (ws.getD b ⟨#[]⟩, ks.getD b 0) (by unfold aheadOf; rw [if_neg (by omega), Nat.add_sub_cancel])
      rw [getD_of (show b < ws.length by omega), getD_of (show b + 1 < ws.length by omega), getD_of (show b < ks.length by omega), getD_of (show b + 1 < ks.length by omega)] at h1
      rw [List.getElem_zip, List.getElem_zip]
      exact h1
    rw [List.pairwise_iff_getElem]
    have all : ∀ b a (ha : a < b) (hb : b < (ws.zip ks).length), nextP ((ws.zip ks)[a]'(by omega)) (ws.zip ks)[b] := fun b => by
      induction b with
      | zero => intro a ha; omega
      | succ b ih =>
        intro a ha hb
        have hs := step b hb
        rcases Nat.lt_or_eq_of_le (Nat.le_of_lt_succ ha) with c | c
        · exact (ih a c (by omega)).trans hs
        · subst c; exact hs
    exact fun a b ha hb hab => all b a hab hb
theorem elems_of {l : List Ty} {n : Int} {ps : List (ByteArray × Int)} (h1 : ∀ p ∈ ps, okP l n p = true) (h2 : ps.Pairwise nextP) : elemsB l n (ps.map (·.1)) (ps.map (·.2)) = true := by
  unfold elemsB
  rw [List.all_eq_true]
  intro i hi
  rw [List.mem_range, List.length_map] at hi
  rw [getD_of (by rw [List.length_map]; exact hi), getD_of (by rw [List.length_map]; exact hi), List.getElem_map, List.getElem_map, elem_ok]
  refine ⟨h1 _ (List.getElem_mem hi), fun p hp => ?_⟩
  unfold aheadOf at hp
  by_cases h0 : i = 0
  · rw [if_pos h0] at hp; cases hp
  · rw [if_neg h0, getD_of (by rw [List.length_map]; omega), getD_of (by rw [List.length_map]; omega), List.getElem_map, List.getElem_map] at hp
    injection hp with hp
    subst hp
    exact List.pairwise_iff_getElem.1 h2 (i - 1) i (by omega) hi (by omega)
theorem map_pair {α β : Type} : ∀ (ps : List (α × β)), ps.map (fun p => (p.1, p.2)) = ps
  | [] => rfl
  | p :: r => by rw [List.map_cons, map_pair r]
/-- A tidied interface's elements. -/
theorem tidy_elems {l N : List Ty} {n : Int} {ps : List (ByteArray × Int)} {I : Nat → Int} (h1 : ∀ p ∈ ps, okP l n p = true) (h2 : ps.Pairwise nextP)
    (hI : ∀ p ∈ ps, 0 ≤ I p.2.toNat ∧ I p.2.toNat < (N.length : Int)) (hk : ∀ p ∈ ps, kindAt l p.2 = 5 → kindAt N (I p.2.toNat) = 5)
    (ho : ∀ p ∈ ps, markB p.1 = true → badT N (I p.2.toNat) = false) :
    (∀ p ∈ tidP N.length (mapP I ps), okP N n p = true) ∧ (tidP N.length (mapP I ps)).Pairwise nextP := by
  have hin : ∀ q ∈ mapP I ps, 0 ≤ q.2 ∧ q.2 < (N.length : Int) := fun q hq => by
    obtain ⟨p, hp, rfl⟩ := List.mem_map.1 hq
    exact hI p hp
  unfold tidP
  rw [filter_mapP]
  refine ⟨fun q hq => ?_, ?_⟩
  · rcases List.mem_append.1 hq with hq | hq
    · obtain ⟨p, hp, rfl⟩ := List.mem_map.1 hq
      rw [List.mem_filter] at hp
      have hm : ¬ markB p.1 = true := by simpa using hp.2
      have g := h1 p hp.1
      unfold okP at g ⊢
      rw [if_neg hm] at g
      rw [if_neg hm, Bool.and_eq_true] at *
      exact ⟨g.1, decide_eq_true (hk p hp.1 (of_decide_eq_true g.2))⟩
    · have hm := term_marked hq
      obtain ⟨u, k⟩ := q
      have hm : markB u = true := hm
      have hq2 : (u, k) ∈ mapP I ps := by
        rw [mark_word hm] at hq ⊢
        exact ((mem_term hin _ _).1 hq).1
      obtain ⟨p, hp, e⟩ := List.mem_map.1 hq2
      injection e with e1 e2
      have e1 : p.1 = u := e1
      have e2 : I p.2.toNat = k := e2
      have g := h1 p hp
      have b := ho p hp (by rw [e1]; exact hm)
      unfold okP at g ⊢
      rw [if_pos (by rw [e1]; exact hm)] at g
      rw [if_pos hm]
      unfold badT at b
      rw [e2] at b
      have b := of_decide_eq_false b
      exact decide_eq_true ⟨(of_decide_eq_true g).1, fun c => b (.inl c), fun c => b (.inr (.inl c)), fun c => b (.inr (.inr c))⟩
  · rw [List.pairwise_append]
    refine ⟨?_, ?_, fun p hp q hq => ?_⟩
    · unfold mapP
      rw [List.pairwise_map]
      have hs := h2.sublist (List.filter_sublist (l := ps) (p := fun p => !markB p.1))
      refine (List.pairwise_iff_forall_sublist.2 fun {a b} hab => ?_)
      have hb := hab.subset (List.mem_cons_of_mem _ (List.mem_singleton.2 rfl))
      rw [List.mem_filter] at hb
      have hm : ¬ markB b.1 = true := by simpa using hb.2
      have g : nextP a b := List.pairwise_iff_forall_sublist.1 hs hab
      unfold nextP at g ⊢
      rw [if_neg hm] at g
      show if markB b.1 = true then _ else _
      rw [if_neg hm]
      exact g
    · rw [termP_marks, List.pairwise_map]
      refine (termQ_strict _ _).imp fun {x y} h => ?_
      unfold nextP
      rw [if_pos (show markB (decP y).1 = true from word_mark _)]
      exact fun _ => h
    · have hmq := term_marked hq
      obtain ⟨x, hx, rfl⟩ := List.mem_map.1 hp
      rw [List.mem_filter] at hx
      unfold nextP
      rw [if_pos hmq]
      intro hc
      have : markB x.1 = true := hc
      rw [this] at hx
      exact absurd hx.2 (by decide)
theorem odd_pairs {N : List Ty} {t : Ty} {I : Nat → Int} (ho : oddT N (swapT t I) = false) : ∀ p ∈ t.words.zip t.kids, markB p.1 = true → badT N (I p.2.toNat) = false := fun p hp hm => by
  unfold oddT at ho
  rw [zip_swap, List.any_eq_false] at ho
  have := ho (p.1, I p.2.toNat) (List.mem_map.2 ⟨p, hp, rfl⟩)
  simpa [hm] using this
/-- What is put in is made right. -/
theorem made_new {l N : List Ty} {t : Ty} {I : Nat → Int} (hm : madeB l t = true) (hI : ∀ k ∈ t.kids, 0 ≤ I k.toNat ∧ I k.toNat < (N.length : Int)) (hk : ∀ k ∈ t.kids, kindAt l k = 5 → kindAt N (I k.toNat) = 5) (h9 : t.kind ≠ 9)
    (ho : ¬ (t.kind = 7 ∧ oddT N (swapT t I) = true)) : madeB N (newT N t I) = true := by
  have hsw : ∀ k ∈ (swapT t I).kids, 0 ≤ k ∧ k < (N.length : Int) := swap_in hI
  by_cases h7 : t.kind = 7
  · have ho7 : oddT N (swapT t I) = false := by
      cases h : oddT N (swapT t I)
      · rfl
      · exact absurd ⟨h7, h⟩ ho
    unfold newT
    rw [if_pos h7]
    unfold madeB at hm ⊢
    rw [Bool.and_eq_true] at hm ⊢
    refine ⟨List.all_eq_true.2 fun k hk => decide_eq_true (tidy_kid hsw hk), ?_⟩
    have hm2 := hm.2
    have hkd : (tidyT N.length (swapT t I)).kind = 7 := h7
    rw [h7] at hm2
    rw [hkd]
    simp only [show ¬ ((7 : Int) = 1 ∨ (7 : Int) = 2) by omega, show ¬ (7 : Int) = 3 by omega, show ¬ (7 : Int) = 4 by omega, show ¬ (7 : Int) = 5 by omega, show ¬ (7 : Int) = 6 by omega, if_false, if_true, Bool.and_eq_true, decide_eq_true_eq] at hm2 ⊢
    obtain ⟨⟨a1, a2, a3, a4, a5⟩, a6⟩ := hm2
    obtain ⟨b1, b2⟩ := elems_all a5 a6
    have hp : ∀ p ∈ t.words.zip t.kids, p.2 ∈ t.kids := fun p hp => (List.of_mem_zip hp).2
    obtain ⟨c1, c2⟩ := tidy_elems (N := N) (I := I) b1 b2 (fun p h => hI _ (hp p h)) (fun p h => hk _ (hp p h)) (odd_pairs ho7)
    rw [← zip_swap] at c1 c2
    obtain ⟨d1, d2⟩ := tidy_len (t := swapT t I) hsw
    refine ⟨⟨a1, a2, a3, ?_, ?_⟩, ?_⟩
    · have : (swapT t I).words.length = t.words.length := rfl
      omega
    · rw [tidy_pairs]; simp
    · rw [tidy_pairs]
      exact elems_of c1 c2
  · unfold newT
    rw [if_neg h7]
    unfold madeB at hm ⊢
    rw [Bool.and_eq_true] at hm ⊢
    refine ⟨List.all_eq_true.2 fun k hk => decide_eq_true (hsw k hk), ?_⟩
    have hm2 := hm.2
    have e1 : (swapT t I).kids.length = t.kids.length := by unfold swapT; simp
    have e2 : bareB (swapT t I) = bareB t := rfl
    rw [e1, e2]
    show (if t.kind = 1 ∨ t.kind = 2 then _ else _) = true
    by_cases c1 : t.kind = 1 ∨ t.kind = 2
    · rw [if_pos c1] at hm2 ⊢; exact hm2
    rw [if_neg c1] at hm2 ⊢
    by_cases c3 : t.kind = 3
    · rw [if_pos c3] at hm2; rw [if_pos (show (swapT t I).kind = 3 from c3)]; exact hm2
    rw [if_neg c3] at hm2; rw [if_neg (show ¬ (swapT t I).kind = 3 from c3)]
    by_cases c4 : t.kind = 4
    · rw [if_pos c4] at hm2; rw [if_pos (show (swapT t I).kind = 4 from c4)]; exact hm2
    rw [if_neg c4] at hm2; rw [if_neg (show ¬ (swapT t I).kind = 4 from c4)]
    by_cases c5 : t.kind = 5
    · rw [if_pos c5] at hm2; rw [if_pos (show (swapT t I).kind = 5 from c5)]; exact hm2
    rw [if_neg c5] at hm2; rw [if_neg (show ¬ (swapT t I).kind = 5 from c5)]
    by_cases c6 : t.kind = 6
    · rw [if_pos c6] at hm2; rw [if_pos (show (swapT t I).kind = 6 from c6)]; exact hm2
    rw [if_neg c6] at hm2; rw [if_neg (show ¬ (swapT t I).kind = 6 from c6)]
    rw [if_neg h7] at hm2; rw [if_neg (show ¬ (swapT t I).kind = 7 from h7)]
    by_cases c8 : t.kind = 8
    · rw [if_pos c8] at hm2; rw [if_pos (show (swapT t I).kind = 8 from c8)]; exact hm2
    rw [if_neg c8, if_neg h9] at hm2
    cases hm2
theorem new_kind (N : List Ty) (t : Ty) (I : Nat → Int) : (newT N t I).kind = t.kind := by unfold newT; split <;> rfl
theorem new_name (N : List Ty) (t : Ty) (I : Nat → Int) : (newT N t I).name = t.name := by unfold newT; split <;> rfl
theorem new_kids (N : List Ty) (t : Ty) (I : Nat → Int) (h : t.kind ≠ 7) : (newT N t I).kids.length = t.kids.length := by
  unfold newT
  rw [if_neg h]
  unfold swapT
  simp
/-- A kind stays. -/
theorem spec_kind {l M : List Ty} {i c : Nat} {args : List Int} {I : Nat → Int} (hi : i < l.length) (hc : c ≤ i + 1) (hS : Spec l i args c M I) (hx : Ext l M) {m : Nat} (hm : m < c) (hn : needD (funT l) i (i + 1) m = true) (h9 : (funT l m).kind ≠ 9) : (funT M (I m).toNat).kind = (funT l m).kind := by
  by_cases h0 : askD (funT l) (i + 1) m = 0
  · rw [hS.skip m hm hn h0, Int.toNat_natCast, hx.fn (by omega)]
  · rw [(hS.put m hm hn h0 h9).2, new_kind]
theorem Inv.ext {l : List Ty} {i c : Nat} {s : SS} (h : Inv l i c s) : Ext l s.now := ⟨h.pre, h.len⟩
theorem bas_asks {l : List Ty} (hr : rightT l = true) {c i : Nat} (hc : c ≤ i) (hi : i < l.length) (h22 : c < 22) : askD (funT l) (i + 1) c = 0 := by
  rw [askD_self (show c < i + 1 by omega)]
  have e : funT l c = bas c := by
    unfold funT
    rw [getD_of (show c < l.length by omega), right_low hr (by omega) h22]
  rw [e]
  have k : (bas c).kids = [] := by unfold bas; split <;> rfl
  have z : ask0 (bas c) = 0 := by
    unfold ask0
    rw [bas_kind h22]
    by_cases h : c < 20 <;> simp [h]
  rw [k, z]
  rfl
/-- What is put in at a step is made right. -/
theorem made_step {l : List Ty} (hr : rightT l = true) {i : Nat} (hi : i < l.length) {args : List Int} {c : Nat} (hc : c ≤ i) {s : SS} (hI : Inv l i c s) (hS : Spec l i args c s.now s.ins) (hn : needD (funT l) i (i + 1) c = true) (hA : askD (funT l) (i + 1) c ≠ 0) (h9 : (funT l c).kind ≠ 9)
    (ho : ¬ ((funT l c).kind = 7 ∧ oddT s.now (swapT (funT l c) s.ins) = true)) : madeB s.now (newT s.now (funT l c) s.ins) = true := by
  have h22 : ¬ c < 22 := fun g => hA (bas_asks hr hc hi g)
  have hcl : c < l.length := by omega
  have e : funT l c = l[c] := by unfold funT; rw [getD_of hcl]
  have hm := (right_high hr hcl h22).1
  rw [← e] at hm
  have hkk : ∀ k ∈ (funT l c).kids, 0 ≤ k ∧ k < (c : Int) := fun k hk => fun_kids hr hi c hc k hk
  refine made_new hm (fun k hk => ?_) (fun k hk h5 => ?_) h9 ho
  · have := hkk k hk
    exact hI.ins _ (by omega) (need_kid (fun_kids hr hi) hc hn hk)
  · have := hkk k hk
    have ek : kindAt l k = 5 := by rw [(take_ext l (show c ≤ l.length by omega)).kind this.1 (by rw [List.length_take]; omega)]; exact h5
    rw [kind_fun] at ek ⊢
    rw [spec_kind hi (by omega) hS hI.ext (by omega) (need_kid (fun_kids hr hi) hc hn hk) (by rw [ek]; decide), ek]
theorem add_err {l : List Ty} {t : Ty} (hm : madeB l t = true) : (addT l t).2.2 ≠ 1 := by
  unfold addT
  rw [if_neg (show ¬ madeB l t = false by rw [hm]; decide)]
  split
  · show (0 : Int) ≠ 1; decide
  · split
    · show (7 : Int) ≠ 1; decide
    · show (0 : Int) ≠ 1; decide
theorem add_mem {l : List Ty} {t x : Ty} (h : x ∈ (addT l t).1) : x ∈ l ∨ x = t := by
  unfold addT at h
  split at h
  · exact .inl h
  · split at h
    · cases h
    · split at h
      · cases h
      · rcases List.mem_append.1 h with h | h
        · exact .inl h
        · exact .inr (List.mem_singleton.1 h)
/-- No error of a run is that of wrong args; what holds of all types and stays when others are put in, stays. -/
theorem run_well {l : List Ty} (hr : rightT l = true) {i : Nat} (hi : i < l.length) {args : List Int} (hin : inArena l args = true) (ha : ¬ (args.length : Int) < askD (funT l) (i + 1) i) {P : Ty → Prop} (hP : ∀ (M : List Ty) (t : Ty) (I : Nat → Int), P t → P (newT M t I)) (hl : ∀ t ∈ l, P t) :
    ∀ c, c ≤ i + 1 → (runT l i args c).err ≠ 1 ∧ ((runT l i args c).err = 0 → ∀ t ∈ (runT l i args c).now, P t)
  | 0, _ => ⟨by show (0 : Int) ≠ 1; decide, fun _ => hl⟩
  | c + 1, hc => by
    have ih := run_well hr hi hin ha hP hl c (by omega)
    by_cases h0 : (runT l i args c).err = 0
    · have hI := inv_run hr hi hin ha c (by omega) h0
      have hS := spec_run hr hi hin ha c (by omega) h0
      have hall := ih.2 h0
      rw [run_step]
      obtain ⟨s, hs⟩ : ∃ s, runT l i args c = s := ⟨_, rfl⟩
      rw [hs] at h0 hI hS hall ⊢
      by_cases hsk : needD (funT l) i (i + 1) c = false ∨ askD (funT l) (i + 1) c = 0
      · rw [stepS_skip h0 hsk]
        exact ⟨by show (0 : Int) ≠ 1; decide, fun _ => hall⟩
      · have hn : needD (funT l) i (i + 1) c = true := by
          cases hh : needD (funT l) i (i + 1) c
          · exact absurd (.inl hh) hsk
          · rfl
        have hA : ¬ askD (funT l) (i + 1) c = 0 := fun g => hsk (.inr g)
        by_cases h9 : (funT l c).kind = 9
        · rw [stepS_param h0 hn hA h9]
          exact ⟨by show (0 : Int) ≠ 1; decide, fun _ => hall⟩
        · by_cases ho : (funT l c).kind = 7 ∧ oddT s.now (swapT (funT l c) s.ins) = true
          · rw [stepS_fail h0 hn hA h9 (put_err ho) (by decide)]
            exact ⟨by show (11 : Int) ≠ 1; decide, fun g => absurd (show (11 : Int) = 0 from g) (by decide)⟩
          · have hmd := made_step hr hi (by omega) hI hS hn hA h9 ho
            have hpe := put_add ho
            have hne := add_err hmd
            obtain ⟨M, p, e, hq⟩ : ∃ M p e, addT s.now (newT s.now (funT l c) s.ins) = (M, p, e) := ⟨_, _, _, rfl⟩
            have hmem : ∀ x ∈ M, x ∈ s.now ∨ x = newT s.now (funT l c) s.ins := fun x hx => add_mem (by rw [hq]; exact hx)
            rw [hq] at hpe hne
            by_cases he : e = 0
            · subst he
              rw [stepS_put h0 hn hA h9 hpe]
              refine ⟨by show (0 : Int) ≠ 1; decide, fun _ x hx => ?_⟩
              rcases hmem x hx with h | h
              · exact hall x h
              · rw [h]
                refine hP _ _ _ ?_
                have hcl : c < l.length := by omega
                have e : funT l c = l[c] := by unfold funT; rw [getD_of hcl]
                rw [e]
                exact hl _ (List.getElem_mem hcl)
            · rw [stepS_fail h0 hn hA h9 hpe he]
              exact ⟨hne, fun g => absurd (show e = 0 from g) he⟩
    · rw [run_step, stepS_err h0]
      exact ⟨ih.1, fun g => absurd g h0⟩
/-- Types put in instead of a type's params. -/
theorem sub_well {l : List Ty} (hr : rightT l = true) {i : Nat} (hi : i < l.length) {args : List Int} (hin : inArena l args = true) (ha : askD (funT l) (i + 1) i ≤ (args.length : Int)) :
    (substT l i args).2.2 ≠ 1 ∧ ((substT l i args).2.2 = 0 → rightT (substT l i args).1 = true ∧ Ext l (substT l i args).1 ∧ (0 ≤ (substT l i args).2.1 ∧ (substT l i args).2.1 < ((substT l i args).1.length : Int)) ∧ ((funT l i).kind ≠ 9 → kindAt (substT l i args).1 (substT l i args).2.1 = (funT l i).kind) ∧
      ∀ {P : Ty → Prop}, (∀ (M : List Ty) (t : Ty) (I : Nat → Int), P t → P (newT M t I)) → (∀ t ∈ l, P t) → ∀ t ∈ (substT l i args).1, P t) := by
  have ha' : ¬ (args.length : Int) < askD (funT l) (i + 1) i := by omega
  by_cases h0 : (runT l i args (i + 1)).err = 0
  · have hI := inv_run hr hi hin ha' (i + 1) (Nat.le_refl _) h0
    have hS := spec_run hr hi hin ha' (i + 1) (Nat.le_refl _) h0
    rw [sub_ok ha' hin rfl h0]
    refine ⟨by show (0 : Int) ≠ 1; decide, fun _ => ⟨hI.right, hI.ext, hS.ins i (by omega) (needD_self _ _ _), fun h9 => ?_, fun {P} hP hl => (run_well hr hi hin ha' hP hl (i + 1) (Nat.le_refl _)).2 h0⟩⟩
    rw [kind_fun]
    exact spec_kind hi (Nat.le_refl _) hS hI.ext (Nat.lt_succ_self i) (needD_self _ _ _) h9
  · have hw := (run_well hr hi hin ha' (P := fun _ => True) (fun _ _ _ _ => trivial) (fun _ _ => trivial) (i + 1) (Nat.le_refl _)).1
    rw [sub_err ha' hin rfl h0]
    exact ⟨hw, fun g => absurd (show (runT l i args (i + 1)).err = 0 from g) h0⟩
end Go.Proofs.YtkmnfkhchcoamaaGreatDoor
/- What a unit may be stays, when types are put in. -/
namespace Go.Proofs.YtkmnfkhchcoamaaGreatDoor
open Go.RowKit
set_option linter.unusedSimpArgs false
set_option linter.unusedVariables false

theorem underB_iff3 {l : List Ty} {n : Nm} : underB l n = true ↔ fitB l n.under n.bounds.length = true ∧ isB l n.under 8 = false ∧ isB l n.under 9 = false ∧ ¬ (14 ≤ n.under ∧ n.under ≤ 19) ∧ (n.methods = [] ∨ (isB l n.under 7 = false ∧ isB l n.under 1 = false)) := by
  unfold underB
  simp only [Bool.and_eq_true, Bool.or_eq_true, Bool.not_eq_true', decide_eq_true_eq]
  constructor
  · rintro ⟨⟨⟨⟨h1, h2⟩, h3⟩, h4⟩, h5⟩; exact ⟨h1, h2, h3, h4, h5⟩
  · rintro ⟨h1, h2, h3, h4, h5⟩; exact ⟨⟨⟨⟨h1, h2⟩, h3⟩, h4⟩, h5⟩
theorem ask_ext {l M : List Ty} (hx : Ext l M) {i : Int} (h : inL l i = true) : askN M i = askN l i := by
  unfold inL at h
  have h := of_decide_eq_true h
  unfold askN
  exact congrFun (ask_same (fun j hj => hx.fn (by omega))) _
theorem inL_ext {l M : List Ty} (hx : Ext l M) {i : Int} (h : inL l i = true) : inL M i = true := by
  unfold inL at *
  have h := of_decide_eq_true h
  have := hx.2
  exact decide_eq_true (by omega)
theorem fit_ext {l M : List Ty} (hx : Ext l M) {i : Int} {most : Nat} (h : inL l i = true) : fitB M i most = fitB l i most := by
  unfold fitB
  rw [inL_ext hx h, h, ask_ext hx h]
theorem is_ext {l M : List Ty} (hx : Ext l M) {i k : Int} (h : inL l i = true) : isB M i k = isB l i k := by
  have h2 := h
  unfold inL at h2
  have h2 := of_decide_eq_true h2
  unfold isB
  rw [inL_ext hx h, h, hx.kind h2.1 h2.2]
theorem fit_inL {l : List Ty} {i : Int} {most : Nat} (h : fitB l i most = true) : inL l i = true := by
  unfold fitB at h
  rw [Bool.and_eq_true] at h
  exact h.1
theorem one_ext {l M : List Ty} (hx : Ext l M) {n : Nm} (h : oneU l n = true) : oneU M n = true := by
  rw [oneU_iff] at h ⊢
  obtain ⟨h1, h2, h3, h4, h5, h6⟩ := h
  refine ⟨h1, h2, ?_, fun b hb => ?_, fun m hm => ?_, h6⟩
  · rw [underB_iff3] at h3 ⊢
    have hi := fit_inL h3.1
    rw [fit_ext hx hi, is_ext hx hi, is_ext hx hi, is_ext hx hi, is_ext hx hi]
    exact h3
  · have g := h4 b hb
    unfold boundB at g ⊢
    rw [Bool.and_eq_true] at g
    have hi := fit_inL g.2
    rw [fit_ext hx hi, is_ext hx hi, Bool.and_eq_true]
    exact g
  · have g := h5 m hm
    unfold methB at g ⊢
    rw [Bool.and_eq_true] at g
    have hi := fit_inL g.2
    rw [fit_ext hx hi, is_ext hx hi, Bool.and_eq_true]
    exact g
theorem right_grow {l M : List Ty} {ns : List Nm} (h : rightU ⟨l, ns⟩ = true) (hx : Ext l M) (hr : rightT M = true) (hf : ∀ t ∈ M, fitsU ns t = true) : rightU ⟨M, ns⟩ = true := by
  rw [rightU_rest, Bool.and_eq_true] at h ⊢
  refine ⟨hr, ?_⟩
  have g := restU_iff.1 h.2
  exact restU_iff.2 ⟨g.1, fun n hn => one_ext hx (g.2.1 n hn), g.2.2.1, List.all_eq_true.2 hf⟩
theorem fits_new {ns : List Nm} (M : List Ty) (t : Ty) (I : Nat → Int) (h : fitsU ns t = true) : fitsU ns (newT M t I) = true := by
  by_cases h8 : t.kind = 8
  · unfold fitsU at h ⊢
    rw [new_kind, new_name, new_kids M t I (by omega)]
    exact h
  · exact fits_other (by rw [new_kind]; exact h8)
theorem psub_eq {l : List Ty} (hr : rightT l = true) {i : Int} (h : inL l i = true) (ks : List Int) : psubT l i ks = substT l i.toNat ks := by
  unfold inL at h
  have h := of_decide_eq_true h
  unfold psubT
  rw [if_pos]
  unfold thereT
  rw [if_neg (by rw [hr]; decide), if_neg (by omega)]
/-- What a name stands for, of kids: may be; types stay at their places; no error is that of wrong args; the kind stays. -/
theorem fill_right {u : Un} (h : rightU u = true) {i : Int} {ks : List Int} (hi : inL u.types i = true) (ha : askN u.types i ≤ (ks.length : Int)) (hin : inArena u.types ks = true) (h9 : kindAt u.types i ≠ 9) :
    (fillU u i ks).2.2 ≠ 1 ∧ ((fillU u i ks).2.2 = 0 → rightU (fillU u i ks).1 = true ∧ Ext u.types (fillU u i ks).1.types ∧ (fillU u i ks).1.named = u.named ∧ inL (fillU u i ks).1.types (fillU u i ks).2.1 = true ∧ kindAt (fillU u i ks).1.types (fillU u i ks).2.1 = kindAt u.types i) := by
  have h2 := h
  rw [rightU_rest, Bool.and_eq_true] at h2
  have hi2 := hi
  unfold inL at hi2
  have hi2 := of_decide_eq_true hi2
  unfold fillU
  by_cases hk : ks.length = 0
  · rw [if_pos hk]
    exact ⟨by show (0 : Int) ≠ 1; decide, fun _ => ⟨h, Ext.refl _, rfl, hi, rfl⟩⟩
  · rw [if_neg hk, psub_eq h2.1 hi]
    have hw := sub_well h2.1 (i := i.toNat) (by omega) hin (by unfold askN at ha; exact ha)
    obtain ⟨M, p, e, hs⟩ : ∃ M p e, substT u.types i.toNat ks = (M, p, e) := ⟨_, _, _, rfl⟩
    rw [hs] at hw ⊢
    by_cases he : e = 0
    · subst he
      rw [if_neg (fun g => g rfl)]
      obtain ⟨w1, w2, w3, w4, w5⟩ := hw.2 rfl
      refine ⟨by show (0 : Int) ≠ 1; decide, fun _ => ⟨right_grow h w2 w1 (w5 (P := fun t => fitsU u.named t = true) (fun M t I ht => fits_new M t I ht) (fun t ht => List.all_eq_true.1 (restU_iff.1 h2.2).2.2.2 t ht)), w2, rfl, ?_, ?_⟩⟩
      · unfold inL
        exact decide_eq_true w3
      · have := w4 (by rw [kind_fun] at h9; exact h9)
        rw [kind_fun u.types]
        exact this
    · rw [if_pos he]
      exact ⟨hw.1, fun g => absurd g he⟩
/-- What Put gives. -/
def putU (u : Un) (t : Ty) : Un × Int × Int :=
  if (paddT u.types t).2.2 = 1 ∨ restU u = false then (noUn, 0, 1) else if (paddT u.types t).2.2 ≠ 0 then (noUn, 0, (paddT u.types t).2.2)
  else if fitsU u.named t = false then (noUn, 0, 8) else (⟨(paddT u.types t).1, u.named⟩, (paddT u.types t).2.1, 0)
theorem put_right {u : Un} (h : rightU u = true) {t : Ty} (he : (putU u t).2.2 = 0) :
    rightU (putU u t).1 = true ∧ Ext u.types (putU u t).1.types ∧ (putU u t).1.named = u.named ∧ inL (putU u t).1.types (putU u t).2.1 = true ∧ funT (putU u t).1.types (putU u t).2.1.toNat = t := by
  have h2 := h
  rw [rightU_rest, Bool.and_eq_true] at h2
  unfold putU at he ⊢
  have hp : paddT u.types t = addT u.types t := by unfold paddT; rw [if_pos h2.1]
  rw [hp] at he ⊢
  by_cases c1 : (addT u.types t).2.2 = 1 ∨ restU u = false
  · rw [if_pos c1] at he
    exact absurd (show (1 : Int) = 0 from he) (by decide)
  rw [if_neg c1] at he ⊢
  by_cases c2 : (addT u.types t).2.2 ≠ 0
  · rw [if_pos c2] at he
    exact absurd he c2
  rw [if_neg c2] at he ⊢
  by_cases c3 : fitsU u.named t = false
  · rw [if_pos c3] at he
    exact absurd (show (8 : Int) = 0 from he) (by decide)
  rw [if_neg c3]
  have c2 : (addT u.types t).2.2 = 0 := by omega
  obtain ⟨M, p, hpM, e, hMp, hR, hT, hL, -⟩ := add_good h2.1 c2
  have hmem : ∀ x ∈ M, x ∈ u.types ∨ x = t := fun x hx => add_mem (by rw [e]; exact hx)
  rw [e]
  refine ⟨right_grow h ⟨hT, hL⟩ hR (fun x hx => ?_), ⟨hT, hL⟩, rfl, ?_, ?_⟩
  · rcases hmem x hx with g | g
    · exact List.all_eq_true.1 (restU_iff.1 h2.2).2.2.2 x g
    · rw [g]
      simpa using c3
  · unfold inL
    exact decide_eq_true (show 0 ≤ (p : Int) ∧ (p : Int) < (M.length : Int) by omega)
  · show funT M (p : Int).toNat = t
    rw [Int.toNat_natCast]
    unfold funT
    rw [getD_of hpM, hMp]
/-- Methods, of kids, one after the other. -/
def methF (ks : List Int) : List Mt → Un → Un × List Mt × Int
  | [], u => (u, [], 0)
  | m :: r, u => if (fillU u m.sig ks).2.2 ≠ 0 then (noUn, [], (fillU u m.sig ks).2.2)
    else if (methF ks r (fillU u m.sig ks).1).2.2 ≠ 0 then (noUn, [], (methF ks r (fillU u m.sig ks).1).2.2)
    else ((methF ks r (fillU u m.sig ks).1).1, ⟨m.name, m.ptr, (fillU u m.sig ks).2.1⟩ :: (methF ks r (fillU u m.sig ks).1).2.1, 0)
theorem arena_grow {l M : List Ty} (hx : Ext l M) {ks : List Int} (h : inArena l ks = true) : inArena M ks = true :=
  List.all_eq_true.2 fun a ha => by
    have := of_decide_eq_true (List.all_eq_true.1 h a ha)
    have := hx.2
    exact decide_eq_true (by omega)
theorem methF_right {ks : List Int} : ∀ {ms : List Mt} {u : Un}, rightU u = true → inArena u.types ks = true → (∀ m ∈ ms, methB u.types ks.length m = true) →
    (methF ks ms u).2.2 ≠ 1 ∧ ((methF ks ms u).2.2 = 0 → rightU (methF ks ms u).1 = true ∧ Ext u.types (methF ks ms u).1.types ∧ (methF ks ms u).2.1.map (·.name) = ms.map (·.name) ∧ ∀ m ∈ (methF ks ms u).2.1, isB (methF ks ms u).1.types m.sig 5 = true)
  | [], u, hr, _, _ => ⟨by show (0 : Int) ≠ 1; decide, fun _ => ⟨hr, Ext.refl _, rfl, fun m hm => absurd hm (by show m ∉ ([] : List Mt); simp)⟩⟩
  | m :: r, u, hr, hin, hm => by
    have hmm := hm m List.mem_cons_self
    obtain ⟨-, hf, hk⟩ := methB_iff.1 hmm
    have hi := fit_inL hf
    have hf2 := hf
    unfold fitB at hf2
    rw [Bool.and_eq_true] at hf2
    have hfl := fill_right hr (ks := ks) hi (of_decide_eq_true hf2.2) hin (by rw [hk]; decide)
    unfold methF
    by_cases c1 : (fillU u m.sig ks).2.2 ≠ 0
    · rw [if_pos c1]
      exact ⟨hfl.1, fun g => absurd g c1⟩
    rw [if_neg c1]
    have c1 : (fillU u m.sig ks).2.2 = 0 := by omega
    obtain ⟨f1, f2, f3, f4, f5⟩ := hfl.2 c1
    have ih := methF_right (ks := ks) (ms := r) f1 (arena_grow f2 hin) (fun m' hm' => by
      have g := hm m' (List.mem_cons_of_mem _ hm')
      unfold methB at g ⊢
      rw [Bool.and_eq_true] at g
      have hi' := fit_inL g.2
      rw [fit_ext f2 hi', is_ext f2 hi', Bool.and_eq_true]
      exact g)
    by_cases c2 : (methF ks r (fillU u m.sig ks).1).2.2 ≠ 0
    · rw [if_pos c2]
      exact ⟨ih.1, fun g => absurd g c2⟩
    rw [if_neg c2]
    have c2 : (methF ks r (fillU u m.sig ks).1).2.2 = 0 := by omega
    obtain ⟨g1, g2, g3, g4⟩ := ih.2 c2
    refine ⟨by show (0 : Int) ≠ 1; decide, fun _ => ⟨g1, f2.trans g2, ?_, fun m' hm' => ?_⟩⟩
    · show m.name :: (methF ks r (fillU u m.sig ks).1).2.1.map (·.name) = m.name :: r.map (·.name)
      rw [g3]
    · rcases List.mem_cons.1 hm' with e | e
      · rw [e]
        rw [is_ext g2 f4]
        unfold isB
        rw [f4, f5, hk]
        rfl
      · exact g4 m' e
end Go.Proofs.YtkmnfkhchcoamaaGreatDoor
/- The program's Put. -/
namespace Go.Proofs.YtkmnfkhchcoamaaGreatDoor
open Go.RowKit
set_option linter.unusedSimpArgs false
set_option linter.unusedVariables false

theorem padd_right {l : List Ty} {t : Ty} (h : (paddT l t).2.2 ≠ 1) : rightT l = true := by
  cases hr : rightT l
  · rw [padd_wrong hr] at h
    exact absurd rfl h
  · rfl
theorem padd_len {l : List Ty} {t : Ty} (h : (paddT l t).2.2 = 0) : (paddT l t).1.length ≤ 400 := by
  have hr := padd_right (l := l) (t := t) (by rw [h]; decide)
  have hp : paddT l t = addT l t := by unfold paddT; rw [if_pos hr]
  rw [hp] at h ⊢
  obtain ⟨M, p, hpM, e, hMp, hR, hT, hL, -⟩ := add_good hr h
  rw [e]
  exact (right_step hR).1.2
set_option maxHeartbeats 8000000 in
set_option maxRecDepth 100000 in
theorem put_uany (Sb : Nat → Prop) (u : Un) (ao no : Option Addr) (ac nc : Nat) (t : Ty) (wo ko : Option Addr) (wc kc : Nat) (w : World) (hSb : ∀ b, w.heap.size ≤ b → Sb b) (hU : UnS Sb w ao no ac nc u) (hE : Env w) (ht : TyC w wo ko t) (hsm : TySm t) (hwc : t.words.length ≤ wc) (hkc : t.kids.length ≤ kc) :
    Calls Tryz.prog 13 #[unV u ao ac no nc, tyV t wo wc ko kc] w (UnR Sb w (putU u t)) := by
  obtain ⟨w1, h1⟩ : ∃ w1, w.alloc (.cells #[.slice ao u.types.length ac, .slice no u.named.length nc] 25) = w1 := ⟨_, rfl⟩
  obtain ⟨k1, q1, z1⟩ := box_new h1
  obtain ⟨w2, h2⟩ : ∃ w2, w1.alloc (.cells #[.int .i64 t.kind, .string t.name, .int .i64 t.n, .slice wo t.words.length wc, .slice ko t.kids.length kc] 38) = w2 := ⟨_, rfl⟩
  obtain ⟨k2, q2, z2⟩ := box_new h2
  obtain ⟨w3, h3⟩ : ∃ w3, w2.alloc (.cells #[.slice none 0 0, .slice none 0 0] 25) = w3 := ⟨_, rfl⟩
  obtain ⟨k3, q3, z3⟩ := box_new h3
  have q12 := q1.trans (q2.mono q1.size)
  have B3 := Lib.hid (q12.trans (q3.mono q12.size))
  have HU := Lib.hid ((less_from hU (c := w.heap.size) (d := w2.heap.size) ⟨Nat.le_refl _, q12.size⟩).same (SameS.below B3.out))
  have HLS := Lib.hid (show ∀ b, w3.heap.size ≤ b → lessS Sb w.heap.size w2.heap.size b from fun b hb => ⟨hSb b (by omega), by omega, by omega⟩)
  have HNS1 := Lib.hid (show ¬ lessS Sb w.heap.size w2.heap.size w.heap.size from fun g => g.2.1 rfl)
  have HNS2 := Lib.hid (show ¬ lessS Sb w.heap.size w2.heap.size w2.heap.size from fun g => g.2.2 rfl)
  have HE := Lib.hid (hE.below B3.out)
  have HTY := Lib.hid (ht.below B3.out)
  have HP0 := padd_aps (lessS Sb w.heap.size w2.heap.size) u.types ao ac t wo ko wc kc w3 HLS.out HU.out.types hU.tl hU.tc HE.out HTY.out hsm hwc hkc
  have HRN0 := fun W (hb : Below w3.heap.size w3 W) (hr : rightT u.types = true) => rightNames_any u ao no ac nc W (HU.out.out.below hb) hr (HE.out.below hb).max
  have HTO0 := fun W (hb : Below w3.heap.size w3 W) (hr : risesB (namesU u.named) = true) => told_any u ao no ac nc t wo ko wc kc W (HU.out.out.below hb) (HTY.out.below hb) hr
  have HPL := Lib.hid (padd_len (l := u.types) (t := t))
  have HPR := Lib.hid (padd_right (l := u.types) (t := t))
  have HRI := Lib.hid (fun (h : restU u = true) => (restU_iff.1 h).2.2.1)
  have HPU := Lib.hid (show putU u t = (if (paddT u.types t).2.2 = 1 ∨ restU u = false then (noUn, 0, 1) else if (paddT u.types t).2.2 ≠ 0 then (noUn, 0, (paddT u.types t).2.2) else if fitsU u.named t = false then (noUn, 0, 8) else (⟨(paddT u.types t).1, u.named⟩, (paddT u.types t).2.1, 0)) from rfl)
  obtain ⟨F, hF⟩ : ∃ F, putU u t = F := ⟨_, rfl⟩
  rw [hF] at HPU ⊢
  obtain ⟨⟨M, p, ec⟩, hPS⟩ : ∃ r, paddT u.types t = r := ⟨_, rfl⟩
  rw [hPS] at HP0 HPL HPU HPR
  obtain ⟨rs, hrs⟩ : ∃ rs, restU u = rs := ⟨_, rfl⟩
  rw [hrs] at HPU HRI HRN0
  obtain ⟨ft, hft⟩ : ∃ ft, fitsU u.named t = ft := ⟨_, rfl⟩
  rw [hft] at HPU HTO0
  unfold unV at HRN0 HTO0
  unfold tyV at HP0 HTO0
  have HP := Lib.hid HP0
  have HRN := Lib.hid HRN0
  have HTO := Lib.hid HTO0
  have K1 := Lib.hid ((k1.below q2).below q3)
  have KT := Lib.hid (k2.below q3)
  have K2 := Lib.hid k3
  have NE := Lib.hid (show w.heap.size ≠ w2.heap.size by have := q2.size; omega)
  have NET := Lib.hid (show w1.heap.size ≠ w.heap.size by omega)
  have LE1 := Lib.hid (show w.heap.size ≤ w2.heap.size from q12.size)
  unfold unV tyV
  clear hF hPS hrs hft HP0 HRN0 HTO0 hU hE ht hsm hwc hkc hSb
  obtain ⟨c0, c1⟩ := cell2 K1.out
  obtain ⟨y0, y1, y2, y3, y4⟩ := cell5 KT.out
  clear k1 k2 k3 q1 q2 q3 q12 z1 z2 z3
  go_enter Tryz.func13, Tryz.ntmps13
  by_cases he1 : ec = 1
  case pos =>
    subst he1
    have HF := Lib.hid (show F = (noUn, 0, 1) by rw [HPU.out, if_pos (.inl rfl)])
    go_wp2_with fail
    refine HP.out.mono ?_
    rintro e w4 ⟨mo, mc, rfl, hM, hmc, b4⟩
    have HM := Lib.hid hM
    have HMC := Lib.hid hmc
    have BB := Lib.hid b4
    have BC := Lib.hid (Below.refl w4.heap.size w4)
    have B3 := Lib.hid (B3.out.trans (b4.mono B3.out.size))
    have K1 := Lib.hid (K1.out.below b4)
    have KT := Lib.hid (KT.out.below b4)
    have K2 := Lib.hid (K2.out.below b4)
    clear hM hmc b4 c0 c1 y0 y1 y2 y3 y4 h1 h2 h3
    obtain ⟨c0, c1⟩ := cell2 K1.out
    obtain ⟨y0, y1, y2, y3, y4⟩ := cell5 KT.out
    obtain ⟨v1, g1⟩ : ∃ v1, w4.setCell ⟨w2.heap.size, 0, none⟩ (.slice none 0 0) = v1 := ⟨_, rfl⟩
    obtain ⟨v2, g2⟩ : ∃ v2, v1.setCell ⟨w2.heap.size, 1, none⟩ (.slice none 0 0) = v2 := ⟨_, rfl⟩
    have K5 := box2_set K2.out g1 g2
    have B5 := Lib.hid (set2_below B3.out LE1.out g1 g2)
    clear c0 c1 y0 y1 y2 y3 y4
    have t0 := (cell2 K2.out).1
    have f0 := K2.out.free 0
    have t1 := (cell2 (box2_set0 K2.out g1)).2
    have f1 := (box2_set0 K2.out g1).free 1
    obtain ⟨e0, e1⟩ := cell2 K5
    clear K5
    go_wp2_with fail
    try simp only [Exit.inBlock, Exit.then]
    refine bodyPost_ret (v := .tuple #[.agg #[.slice none 0 0, .slice none 0 0], .int .i64 0, .int .i64 1]) ?_ rfl ?_
    · simp [results, Tryz.results13, go_sem, e0, e1]
    rw [HF.out]
    exact ⟨none, none, 0, 0, rfl, noUn_in _ _, B5.out⟩
  have hq1 : (ec == 1) = false := by rw [beq_eq_false_iff_ne]; exact he1
  have HRT := Lib.hid (HPR.out he1)
  cases rs
  case false =>
    have HF := Lib.hid (show F = (noUn, 0, 1) by rw [HPU.out, if_pos (.inr rfl)])
    clear he1
    go_wp2_with fail
    refine HP.out.mono ?_
    rintro e w4 ⟨mo, mc, rfl, hM, hmc, b4⟩
    have HM := Lib.hid hM
    have HMC := Lib.hid hmc
    have BB := Lib.hid b4
    have BC := Lib.hid (Below.refl w4.heap.size w4)
    have B3 := Lib.hid (B3.out.trans (b4.mono B3.out.size))
    have K1 := Lib.hid (K1.out.below b4)
    have KT := Lib.hid (KT.out.below b4)
    have K2 := Lib.hid (K2.out.below b4)
    clear hM hmc b4 c0 c1 y0 y1 y2 y3 y4 h1 h2 h3
    obtain ⟨c0, c1⟩ := cell2 K1.out
    obtain ⟨y0, y1, y2, y3, y4⟩ := cell5 KT.out
    go_wp2_with fail
    refine (HRN.out _ BB.out HRT.out).mono ?_
    rintro e w5 ⟨rfl, bq⟩
    have BB := Lib.hid (BB.out.trans (bq.mono BB.out.size))
    have BC := Lib.hid (BC.out.trans (bq.mono BC.out.size))
    have B3 := Lib.hid (B3.out.trans (bq.mono B3.out.size))
    have K1 := Lib.hid (K1.out.below bq)
    have KT := Lib.hid (KT.out.below bq)
    have K2 := Lib.hid (K2.out.below bq)
    clear bq c0 c1 y0 y1 y2 y3 y4
    obtain ⟨c0, c1⟩ := cell2 K1.out
    obtain ⟨y0, y1, y2, y3, y4⟩ := cell5 KT.out
    obtain ⟨v1, g1⟩ : ∃ v1, w5.setCell ⟨w2.heap.size, 0, none⟩ (.slice none 0 0) = v1 := ⟨_, rfl⟩
    obtain ⟨v2, g2⟩ : ∃ v2, v1.setCell ⟨w2.heap.size, 1, none⟩ (.slice none 0 0) = v2 := ⟨_, rfl⟩
    have K5 := box2_set K2.out g1 g2
    have B5 := Lib.hid (set2_below B3.out LE1.out g1 g2)
    clear c0 c1 y0 y1 y2 y3 y4
    have t0 := (cell2 K2.out).1
    have f0 := K2.out.free 0
    have t1 := (cell2 (box2_set0 K2.out g1)).2
    have f1 := (box2_set0 K2.out g1).free 1
    obtain ⟨e0, e1⟩ := cell2 K5
    clear K5
    go_wp2_with fail
    try simp only [Exit.inBlock, Exit.then]
    refine bodyPost_ret (v := .tuple #[.agg #[.slice none 0 0, .slice none 0 0], .int .i64 0, .int .i64 1]) ?_ rfl ?_
    · simp [results, Tryz.results13, go_sem, e0, e1]
    rw [HF.out]
    exact ⟨none, none, 0, 0, rfl, noUn_in _ _, B5.out⟩
  by_cases he : ec = 0
  case neg =>
    have hq : (ec != 0) = true := by rw [bne_iff_ne]; exact he
    have HF := Lib.hid (show F = (noUn, 0, ec) by rw [HPU.out, if_neg (by rintro (g | g); exact he1 g; cases g), if_pos he])
    clear he he1
    go_wp2_with fail
    refine HP.out.mono ?_
    rintro e w4 ⟨mo, mc, rfl, hM, hmc, b4⟩
    have HM := Lib.hid hM
    have HMC := Lib.hid hmc
    have BB := Lib.hid b4
    have BC := Lib.hid (Below.refl w4.heap.size w4)
    have B3 := Lib.hid (B3.out.trans (b4.mono B3.out.size))
    have K1 := Lib.hid (K1.out.below b4)
    have KT := Lib.hid (KT.out.below b4)
    have K2 := Lib.hid (K2.out.below b4)
    clear hM hmc b4 c0 c1 y0 y1 y2 y3 y4 h1 h2 h3
    obtain ⟨c0, c1⟩ := cell2 K1.out
    obtain ⟨y0, y1, y2, y3, y4⟩ := cell5 KT.out
    go_wp2_with fail
    refine (HRN.out _ BB.out HRT.out).mono ?_
    rintro e w5 ⟨rfl, bq⟩
    have BB := Lib.hid (BB.out.trans (bq.mono BB.out.size))
    have BC := Lib.hid (BC.out.trans (bq.mono BC.out.size))
    have B3 := Lib.hid (B3.out.trans (bq.mono B3.out.size))
    have K1 := Lib.hid (K1.out.below bq)
    have KT := Lib.hid (KT.out.below bq)
    have K2 := Lib.hid (K2.out.below bq)
    clear bq c0 c1 y0 y1 y2 y3 y4
    obtain ⟨c0, c1⟩ := cell2 K1.out
    obtain ⟨y0, y1, y2, y3, y4⟩ := cell5 KT.out
    obtain ⟨v1, g1⟩ : ∃ v1, w5.setCell ⟨w2.heap.size, 0, none⟩ (.slice none 0 0) = v1 := ⟨_, rfl⟩
    obtain ⟨v2, g2⟩ : ∃ v2, v1.setCell ⟨w2.heap.size, 1, none⟩ (.slice none 0 0) = v2 := ⟨_, rfl⟩
    have K5 := box2_set K2.out g1 g2
    have B5 := Lib.hid (set2_below B3.out LE1.out g1 g2)
    clear c0 c1 y0 y1 y2 y3 y4
    have t0 := (cell2 K2.out).1
    have f0 := K2.out.free 0
    have t1 := (cell2 (box2_set0 K2.out g1)).2
    have f1 := (box2_set0 K2.out g1).free 1
    obtain ⟨e0, e1⟩ := cell2 K5
    clear K5
    go_wp2_with fail
    try simp only [Exit.inBlock, Exit.then]
    refine bodyPost_ret (v := .tuple #[.agg #[.slice none 0 0, .slice none 0 0], .int .i64 0, .int .i64 ec]) ?_ rfl ?_
    · simp [results, Tryz.results13, go_sem, e0, e1]
    rw [HF.out]
    exact ⟨none, none, 0, 0, rfl, noUn_in _ _, B5.out⟩
  subst he
  cases ft
  case false =>
    have HF := Lib.hid (show F = (noUn, 0, 8) by rw [HPU.out, if_neg (by rintro (g | g); exact he1 g; cases g), if_neg (fun g => g rfl), if_pos rfl])
    clear he1
    go_wp2_with fail
    refine HP.out.mono ?_
    rintro e w4 ⟨mo, mc, rfl, hM, hmc, b4⟩
    have HM := Lib.hid hM
    have HMC := Lib.hid hmc
    have BB := Lib.hid b4
    have BC := Lib.hid (Below.refl w4.heap.size w4)
    have B3 := Lib.hid (B3.out.trans (b4.mono B3.out.size))
    have K1 := Lib.hid (K1.out.below b4)
    have KT := Lib.hid (KT.out.below b4)
    have K2 := Lib.hid (K2.out.below b4)
    clear hM hmc b4 c0 c1 y0 y1 y2 y3 y4 h1 h2 h3
    obtain ⟨c0, c1⟩ := cell2 K1.out
    obtain ⟨y0, y1, y2, y3, y4⟩ := cell5 KT.out
    go_wp2_with fail
    refine (HRN.out _ BB.out HRT.out).mono ?_
    rintro e w5 ⟨rfl, bq⟩
    have BB := Lib.hid (BB.out.trans (bq.mono BB.out.size))
    have BC := Lib.hid (BC.out.trans (bq.mono BC.out.size))
    have B3 := Lib.hid (B3.out.trans (bq.mono B3.out.size))
    have K1 := Lib.hid (K1.out.below bq)
    have KT := Lib.hid (KT.out.below bq)
    have K2 := Lib.hid (K2.out.below bq)
    clear bq c0 c1 y0 y1 y2 y3 y4
    obtain ⟨c0, c1⟩ := cell2 K1.out
    obtain ⟨y0, y1, y2, y3, y4⟩ := cell5 KT.out
    go_wp2_with fail
    refine (HTO.out _ BB.out (HRI.out (by first | exact rfl | trivial))).mono ?_
    rintro e w6 ⟨rfl, bq⟩
    have BB := Lib.hid (BB.out.trans (bq.mono BB.out.size))
    have BC := Lib.hid (BC.out.trans (bq.mono BC.out.size))
    have B3 := Lib.hid (B3.out.trans (bq.mono B3.out.size))
    have K1 := Lib.hid (K1.out.below bq)
    have KT := Lib.hid (KT.out.below bq)
    have K2 := Lib.hid (K2.out.below bq)
    clear bq c0 c1 y0 y1 y2 y3 y4
    obtain ⟨c0, c1⟩ := cell2 K1.out
    obtain ⟨y0, y1, y2, y3, y4⟩ := cell5 KT.out
    obtain ⟨v1, g1⟩ : ∃ v1, w6.setCell ⟨w2.heap.size, 0, none⟩ (.slice none 0 0) = v1 := ⟨_, rfl⟩
    obtain ⟨v2, g2⟩ : ∃ v2, v1.setCell ⟨w2.heap.size, 1, none⟩ (.slice none 0 0) = v2 := ⟨_, rfl⟩
    have K5 := box2_set K2.out g1 g2
    have B5 := Lib.hid (set2_below B3.out LE1.out g1 g2)
    clear c0 c1 y0 y1 y2 y3 y4
    have t0 := (cell2 K2.out).1
    have f0 := K2.out.free 0
    have t1 := (cell2 (box2_set0 K2.out g1)).2
    have f1 := (box2_set0 K2.out g1).free 1
    obtain ⟨e0, e1⟩ := cell2 K5
    clear K5
    go_wp2_with fail
    try simp only [Exit.inBlock, Exit.then]
    refine bodyPost_ret (v := .tuple #[.agg #[.slice none 0 0, .slice none 0 0], .int .i64 0, .int .i64 8]) ?_ rfl ?_
    · simp [results, Tryz.results13, go_sem, e0, e1]
    rw [HF.out]
    exact ⟨none, none, 0, 0, rfl, noUn_in _ _, B5.out⟩
  have HF := Lib.hid (show F = (⟨M, u.named⟩, p, 0) by rw [HPU.out, if_neg (by rintro (g | g); exact he1 g; cases g), if_neg (fun g => g rfl), if_neg (by decide)])
  have HML := Lib.hid (HPL.out rfl)
  clear he1
  go_wp2_with fail
  refine HP.out.mono ?_
  rintro e w4 ⟨mo, mc, rfl, hM, hmc, b4⟩
  have HM := Lib.hid hM
  have HMC := Lib.hid hmc
  have BB := Lib.hid b4
  have BC := Lib.hid (Below.refl w4.heap.size w4)
  have B3 := Lib.hid (B3.out.trans (b4.mono B3.out.size))
  have K1 := Lib.hid (K1.out.below b4)
  have KT := Lib.hid (KT.out.below b4)
  have K2 := Lib.hid (K2.out.below b4)
  clear hM hmc b4 c0 c1 y0 y1 y2 y3 y4 h1 h2 h3
  obtain ⟨c0, c1⟩ := cell2 K1.out
  obtain ⟨y0, y1, y2, y3, y4⟩ := cell5 KT.out
  go_wp2_with fail
  refine (HRN.out _ BB.out HRT.out).mono ?_
  rintro e w5 ⟨rfl, bq⟩
  have BB := Lib.hid (BB.out.trans (bq.mono BB.out.size))
  have BC := Lib.hid (BC.out.trans (bq.mono BC.out.size))
  have B3 := Lib.hid (B3.out.trans (bq.mono B3.out.size))
  have K1 := Lib.hid (K1.out.below bq)
  have KT := Lib.hid (KT.out.below bq)
  have K2 := Lib.hid (K2.out.below bq)
  clear bq c0 c1 y0 y1 y2 y3 y4
  obtain ⟨c0, c1⟩ := cell2 K1.out
  obtain ⟨y0, y1, y2, y3, y4⟩ := cell5 KT.out
  go_wp2_with fail
  refine (HTO.out _ BB.out (HRI.out (by first | exact rfl | trivial))).mono ?_
  rintro e w6 ⟨rfl, bq⟩
  have BB := Lib.hid (BB.out.trans (bq.mono BB.out.size))
  have BC := Lib.hid (BC.out.trans (bq.mono BC.out.size))
  have B3 := Lib.hid (B3.out.trans (bq.mono B3.out.size))
  have K1 := Lib.hid (K1.out.below bq)
  have KT := Lib.hid (KT.out.below bq)
  have K2 := Lib.hid (K2.out.below bq)
  clear bq c0 c1 y0 y1 y2 y3 y4
  obtain ⟨c0, c1⟩ := cell2 K1.out
  obtain ⟨y0, y1, y2, y3, y4⟩ := cell5 KT.out
  have HN := Lib.hid (HU.out.named.same (SameS.below BB.out))
  have HMM := Lib.hid (HM.out.same (SameS.below BC.out))
  obtain ⟨w7, h7⟩ : ∃ w7, w6.setCell ⟨w.heap.size, 0, none⟩ (.slice mo M.length mc) = w7 := ⟨_, rfl⟩
  have K17 := Lib.hid (box2_set0 K1.out h7)
  have K27 := Lib.hid (other_set K2.out (fun g => NE.out g.symm) h7)
  have g0 := K1.out.free 0
  obtain ⟨w8, h8⟩ : ∃ w8, w7.setCell ⟨w2.heap.size, 0, none⟩ (.slice mo M.length mc) = w8 := ⟨_, rfl⟩
  obtain ⟨w9, h9⟩ : ∃ w9, w8.setCell ⟨w2.heap.size, 1, none⟩ (.slice no u.named.length nc) = w9 := ⟨_, rfl⟩
  have K9 := box2_set K27.out h8 h9
  have B7 := Lib.hid (set1_below B3.out (Nat.le_refl _) h7)
  have B9 := Lib.hid (set2_below B7.out LE1.out h8 h9)
  have AP := Lib.hid (less_back (c := w.heap.size) (d := w2.heap.size) (show UnS (lessS Sb w.heap.size w2.heap.size) w9 mo no mc nc ⟨M, u.named⟩ from ((⟨HMM.out, HN.out, by show M.length ≤ 1000; have := HML.out; omega, HU.out.nl, HMC.out, HU.out.nc⟩ : UnS (lessS Sb w.heap.size w2.heap.size) w6 mo no mc nc ⟨M, u.named⟩).same (SameS.set HNS1.out h7)).same ((SameS.set HNS2.out h8).trans (SameS.set HNS2.out h9))))
  clear c0 c1 y0 y1 y2 y3 y4
  have t2 := (cell2 K1.out).1
  obtain ⟨c0, c1⟩ := cell2 K17.out
  have f0 := K27.out.free 0
  have f1 := (box2_set0 K27.out h8).free 1
  have t0 := (cell2 K27.out).1
  have t1 := (cell2 (box2_set0 K27.out h8)).2
  obtain ⟨e0, e1⟩ := cell2 K9
  clear K9
  go_wp2_with fail
  try simp only [Exit.inBlock, Exit.then]
  refine bodyPost_ret (v := .tuple #[.agg #[.slice mo M.length mc, .slice no u.named.length nc], .int .i64 p, .int .i64 0]) ?_ rfl ?_
  · simp [results, Tryz.results13, go_sem, e0, e1]
  rw [HF.out]
  exact ⟨mo, no, mc, nc, rfl, AP.out, B9.out⟩
end Go.Proofs.YtkmnfkhchcoamaaGreatDoor
/- The program's methodsOf. -/
namespace Go.Proofs.YtkmnfkhchcoamaaGreatDoor
open Go.RowKit
set_option linter.unusedSimpArgs false
set_option linter.unusedVariables false

theorem info_mt : (Tryz.prog.info? 48).map (fun i => (i.zero, i.size, i.bytes)) = some (some (.agg #[.string ⟨#[]⟩, .bool false, .int .i64 0]), 3, 32) := by kernel_rfl
def mtC1 (m : Mt) : List Value := [.string m.name, .bool m.ptr, .int .i64 m.sig]
def mtC (l : List Mt) : List Value := l.flatMap mtC1
theorem mtC_len : ∀ l : List Mt, (mtC l).length = l.length * 3
  | [] => rfl
  | t :: r => by
    have ih := mtC_len r
    unfold mtC at *
    rw [List.flatMap_cons, List.length_append, ih, List.length_cons]
    show 3 + _ = _
    omega
theorem mtC_app (l r : List Mt) : mtC (l ++ r) = mtC l ++ mtC r := by unfold mtC; simp
theorem mtC_at : ∀ (l : List Mt) (k : Nat) (h : k < l.length), (mtC l)[k * 3]? = some (.string l[k].name) ∧ (mtC l)[k * 3 + 1]? = some (.bool l[k].ptr) ∧ (mtC l)[k * 3 + 2]? = some (.int .i64 l[k].sig)
  | [], k, h => absurd h (Nat.not_lt_zero _)
  | t :: r, 0, h => ⟨rfl, rfl, rfl⟩
  | t :: r, k + 1, h => by
    have ih := mtC_at r k (Nat.lt_of_succ_lt_succ h)
    have e : ∀ j, (mtC (t :: r))[(k + 1) * 3 + j]? = (mtC r)[k * 3 + j]? := fun j => by
      unfold mtC
      rw [List.flatMap_cons, List.getElem?_append_right (by show 3 ≤ _; omega)]
      exact congrArg (fun n => (r.flatMap mtC1)[n]?) (show (k + 1) * 3 + j - 3 = k * 3 + j by omega)
    exact ⟨(e 0).trans ih.1, (e 1).trans ih.2.1, (e 2).trans ih.2.2⟩
theorem mtC_one (l : List Mt) : ∀ u ∈ mtC l, u.oneCell' = true := by
  intro u hu
  obtain ⟨m, _, hm⟩ := List.mem_flatMap.1 hu
  simp only [mtC1, List.mem_cons, List.not_mem_nil, or_false] at hm
  rcases hm with rfl | rfl | rfl <;> rfl
/-- A row of methods of the call's own. -/
def OwnM (w : World) (base : Nat) (v : Value) (l : List Mt) : Prop := w.ownsRow base 48 3 v l.length (mtC l)
/-- A row of methods that may be written. -/
def MB (w : World) (base : Nat) (lo : Option Addr) (ms : List Mt) : Prop :=
  ms = [] ∨ ∃ g cur, lo = some ⟨g, 0, none⟩ ∧ base ≤ g ∧ BlockAt w g cur 48 ∧ ∀ i (h : i < ms.length), cur[i * 3]? = some (.string ms[i].name) ∧ cur[i * 3 + 1]? = some (.bool ms[i].ptr) ∧ cur[i * 3 + 2]? = some (.int .i64 ms[i].sig)
theorem own_mb {w : World} {base : Nat} {v : Value} {l : List Mt} (h : OwnM w base v l) : ∃ lo cap, v = .slice lo l.length cap ∧ MB w base lo l ∧ l.length ≤ cap ∧ ∀ a, lo = some a → base ≤ a.block := by
  obtain ⟨h1, h2⟩ := h
  rcases h2 with ⟨rfl, h0⟩ | ⟨g, cap, cur, rfl, hg, hcur, hcap1, hcap2, hcs, htk⟩
  · exact ⟨none, 0, by rw [h0], .inl (List.eq_nil_of_length_eq_zero h0), by rw [h0]; exact Nat.le_refl _, fun a h => by cases h⟩
  · refine ⟨_, _, rfl, .inr ⟨g, cur, rfl, hg, hcur, fun k hk => ?_⟩, hcap1, fun a h => by injection h with h; subst h; exact hg⟩
    obtain ⟨c0, c1, c2⟩ := mtC_at l k hk
    have e : ∀ j, j < l.length * 3 → cur[j]? = (mtC l)[j]? := fun j hj => by
      rw [← htk, List.getElem?_take_of_lt hj]
      simp
    exact ⟨(e _ (by omega)).trans c0, (e _ (by omega)).trans c1, (e _ (by omega)).trans c2⟩
theorem MB.below {w w' : World} {base : Nat} {lo : Option Addr} {ms : List Mt} (h : MB w base lo ms) (hb : Below w.heap.size w w') : MB w' base lo ms := by
  rcases h with h | ⟨g, cur, e, hg, hB, cc⟩
  · exact .inl h
  · exact .inr ⟨g, cur, e, hg, hB.below hb, cc⟩
theorem MB.row {w : World} {base : Nat} {lo : Option Addr} {ms : List Mt} (h : MB w base lo ms) : MRow w lo ms := by
  rcases h with h | ⟨g, cur, e, hg, hB, cc⟩
  · exact .inl h
  · refine .inr ⟨g, 0, e, hB.lt, fun i hi => ?_⟩
    rw [Nat.zero_add]
    exact ⟨(hB.cell _).trans (cc i hi).1, (hB.cell _).trans (cc i hi).2.1, (hB.cell _).trans (cc i hi).2.2⟩
theorem MB.rowS {Sb : Nat → Prop} {w : World} {base : Nat} {lo : Option Addr} {ms : List Mt} (h : MB w base lo ms) (hS : ∀ b, base ≤ b → Sb b) : MRowS Sb w lo ms := by
  rcases h with h | ⟨g, cur, e, hg, hB, cc⟩
  · exact .inl h
  · refine .inr ⟨g, 0, e, hB.lt, hS _ hg, fun i hi => ?_⟩
    rw [Nat.zero_add]
    exact ⟨(hB.cell _).trans (cc i hi).1, (hB.cell _).trans (cc i hi).2.1, (hB.cell _).trans (cc i hi).2.2⟩
theorem MB.other {w w' : World} {base b k : Nat} {lo : Option Addr} {ms : List Mt} {v : Value} (h : MB w base lo ms) (hb : b < base) (h1 : w.setCell ⟨b, k, none⟩ v = w') : MB w' base lo ms := by
  rcases h with h | ⟨g, cur, e, hg, hB, cc⟩
  · exact .inl h
  · exact .inr ⟨g, cur, e, hg, other_set hB (by omega) h1, cc⟩
theorem MB.cells {w : World} {base : Nat} {lo : Option Addr} {ms : List Mt} (h : MB w base lo ms) (h0 : 0 < ms.length) : ∃ g cur, lo = some ⟨g, 0, none⟩ ∧ base ≤ g ∧ BlockAt w g cur 48 ∧ ∀ i (h : i < ms.length), cur[i * 3]? = some (.string ms[i].name) ∧ cur[i * 3 + 1]? = some (.bool ms[i].ptr) ∧ cur[i * 3 + 2]? = some (.int .i64 ms[i].sig) := by
  rcases h with h | h
  · rw [h] at h0; exact absurd h0 (Nat.lt_irrefl _)
  · exact h
/-- One method's function is stored. -/
theorem MB.put {w w' : World} {base g k : Nat} {cur : Array Value} {a r : List Mt} {x : Mt} {q : Int} (hg : base ≤ g) (hB : BlockAt w g cur 48)
    (cc : ∀ i (h : i < (a ++ x :: r).length), cur[i * 3]? = some (.string (a ++ x :: r)[i].name) ∧ cur[i * 3 + 1]? = some (.bool (a ++ x :: r)[i].ptr) ∧ cur[i * 3 + 2]? = some (.int .i64 (a ++ x :: r)[i].sig)) (hk : a.length = k) (h1 : w.setCell ⟨g, k * 3 + 2, none⟩ (.int .i64 q) = w') :
    MB w' base (some ⟨g, 0, none⟩) (a ++ ⟨x.name, x.ptr, q⟩ :: r) := by
  subst h1
  subst hk
  refine .inr ⟨g, _, rfl, hg, hB.set _ _, fun i hi => ?_⟩
  have hi2 : i < (a ++ x :: r).length := by simpa using hi
  obtain ⟨c0, c1, c2⟩ := cc i hi2
  have hk2 := (cc a.length (by simp)).2.2
  have hsz : a.length * 3 + 2 < cur.size := (Array.getElem?_eq_some_iff.1 hk2).1
  rw [Array.getElem?_setIfInBounds_ne (by omega), Array.getElem?_setIfInBounds_ne (by omega)]
  rcases Nat.lt_trichotomy i a.length with h | h | h
  · rw [Array.getElem?_setIfInBounds_ne (by omega)]
    rw [List.getElem_append_left h] at c0 c1 c2 ⊢
    exact ⟨c0, c1, c2⟩
  · subst h
    rw [Array.getElem?_setIfInBounds_self_of_lt hsz]
    rw [List.getElem_append_right (Nat.le_refl _)] at c0 c1 ⊢
    simp only [Nat.sub_self, List.getElem_cons_zero] at c0 c1 ⊢
    exact ⟨c0, c1, by first | trivial | rfl⟩
  · rw [Array.getElem?_setIfInBounds_ne (by omega)]
    obtain ⟨d, hd⟩ : ∃ d, i = a.length + (d + 1) := ⟨i - a.length - 1, by omega⟩
    subst hd
    rw [List.getElem_append_right (by omega)] at c0 c1 c2 ⊢
    simp only [Nat.add_sub_cancel_left, List.getElem_cons_succ] at c0 c1 c2 ⊢
    exact ⟨c0, c1, c2⟩
theorem eql_mtC (w : World) (a : Option Addr) (n c : Nat) : (binOp .eql 44 (.slice a n c) (.slice none 0 0)).run Tryz.prog w = .ok (.bool a.isNone) w := by
  simp only [binOp]
  simp [Op.equal, Op.maxDepth, Lib.run_equalIn_slice_nil w 9999 44 48 a n c 0 0 Tryz.underlying44]
set_option maxRecDepth 100000 in
set_option maxHeartbeats 4000000 in
theorem clone_meth (ao : Option Addr) (c : Nat) (zs : List Mt) (w : World) (hr : MRow w ao zs) (hl : zs.length ≤ 1000) :
    Calls Tryz.prog 61 #[.slice ao zs.length c] w fun e w' => ∃ v, e = .returned v ∧ OwnM w' w.heap.size v zs ∧ Below w.heap.size w w' := by
  cases ao with
  | none =>
    have hz : zs = [] := by
      rcases hr with h | ⟨b, off, h, -⟩
      · exact h
      · cases h
    subst hz
    have heq := fun W => eql_mtC W none 0 c
    simp only [Option.isNone_none] at heq
    go_enter Tryz.func61, Tryz.ntmps61
    go_wp2_with fail
    go_ret
    exact ⟨_, rfl, World.ownsRow_nil _ _ _ _, Below.refl _ _⟩
  | some ad =>
    obtain ⟨i0, hi, hz0, hz1, hz2⟩ := info_parts info_mt
    have HR := Lib.hid hr
    have O0 := Lib.hid (show (w.alloc (.cells #[] 48)).ownsRow w.heap.size 48 3 (.slice (some ⟨w.heap.size, 0, none⟩) 0 0) 0 [] from World.ownsRow_made w #[] 0 (Nat.le_refl _) (by unfold maxLen; omega) rfl)
    have B0 := Lib.hid (show Below w.heap.size w (w.alloc (.cells #[] 48)) from (Below.refl _ _).alloc (Nat.le_refl _) _)
    obtain ⟨n, hn⟩ : ∃ n, zs.length = n := ⟨_, rfl⟩
    have HN := Lib.hid hn
    have HC := Lib.hid (show ∀ j u, (mtC zs)[j]? = some u → (w.alloc (.cells #[] 48)).cell? (ad.add j) = some u from fun j u hu => by
      have hj := (List.getElem?_eq_some_iff.1 hu).1
      rw [mtC_len] at hj
      obtain ⟨b, off, e, hb, hc⟩ := HR.out.cells (by omega)
      injection e with e
      subst e
      have hadd : (⟨b, off, none⟩ : Addr).add j = ⟨b, off + j, none⟩ := by unfold Addr.add; split <;> simp_all
      rw [hadd, B0.out.cell (p := ⟨b, off + j, none⟩) hb]
      have hjj : j / 3 < zs.length := by omega
      obtain ⟨g0, g1, g2⟩ := hc (j / 3) hjj
      obtain ⟨a0, a1, a2⟩ := mtC_at zs (j / 3) hjj
      rcases (by omega : j = j / 3 * 3 ∨ j = j / 3 * 3 + 1 ∨ j = j / 3 * 3 + 2) with h | h | h
      · rw [← h] at g0 a0; rw [g0, ← hu, a0]
      · rw [← h] at a1; rw [Nat.add_assoc, ← h] at g1; rw [g1, ← hu, a1]
      · rw [← h] at a2; rw [Nat.add_assoc, ← h] at g2; rw [g2, ← hu, a2])
    rw [hn] at hl ⊢
    clear hr hn
    have heq := fun W => eql_mtC W (some ad) n c
    simp only [Option.isNone_some] at heq
    go_enter Tryz.func61, Tryz.ntmps61
    go_wp2_with (at_builtin; refine wpList_append_own_at _ rfl _ _ 44 rfl w.heap.size 48 i0 (.agg #[.string ⟨#[]⟩, .bool false, .int .i64 0]) 3 32 Tryz.underlying44 hi hz0 hz1 hz2 rfl (by decide) _ 0 [] rfl O0.out ad n c (mtC zs) rfl ?c1 ?c2 ?c3 ?c4 ?c5 ?c6 ?_)
    case c1 => rw [mtC_len, HN.out]
    case c2 => exact HC.out
    case c3 => exact mtC_one _
    case c4 => unfold maxLen; omega
    case c5 => omega
    case c6 => exact B0.out.size
    intro v' w1 hown hgrow _ _
    have B1 := Lib.hid (B0.out.grown hgrow B0.out.size (fun k hk => (O0.out.lt k hk).1))
    have HO := Lib.hid (show OwnM w1 w.heap.size v' zs from by
      unfold OwnM
      rw [HN.out]
      simpa using hown)
    clear hown hgrow
    go_wp2_with fail
    go_ret
    exact ⟨v', rfl, HO.out, B1.out⟩
/-- What tells of a unit and its methods. -/
def MethR (Sb : Nat → Prop) (w : World) (R : Un × List Mt × Int) (e : Ending) (w' : World) : Prop := ∃ ao no ac nc lo lc, e = .returned (.tuple #[unV R.1 ao ac no nc, .slice lo R.2.1.length lc, .int .i64 R.2.2]) ∧ UnS Sb w' ao no ac nc R.1 ∧ MRowS Sb w' lo R.2.1 ∧ R.2.1.length ≤ lc ∧ Below w.heap.size w w'
theorem uns_sub {S T : Nat → Prop} {w : World} {ao no : Option Addr} {ac nc : Nat} {u : Un} (h : UnS S w ao no ac nc u) (k : ∀ b, b < w.heap.size → S b → T b) : UnS T w ao no ac nc u := by
  have ir : ∀ {ao zs}, IRowS S w ao zs → IRowS T w ao zs := fun {ao zs} h => by
    rcases h with h | ⟨b, off, e, l, n, cc⟩
    · exact .inl h
    · exact .inr ⟨b, off, e, l, k b l n, cc⟩
  have sr : ∀ {ao zs}, SRowS S w ao zs → SRowS T w ao zs := fun {ao zs} h => by
    rcases h with h | ⟨b, off, e, l, n, cc⟩
    · exact .inl h
    · exact .inr ⟨b, off, e, l, k b l n, cc⟩
  have mr : ∀ {ao zs}, MRowS S w ao zs → MRowS T w ao zs := fun {ao zs} h => by
    rcases h with h | ⟨b, off, e, l, n, cc⟩
    · exact .inl h
    · exact .inr ⟨b, off, e, l, k b l n, cc⟩
  refine ⟨?_, ?_, h.tl, h.nl, h.tc, h.nc⟩
  · rcases h.types with h | ⟨b, off, e, l, n, cc⟩
    · exact .inl h
    · refine .inr ⟨b, off, e, l, k b l n, fun i hi => ?_⟩
      obtain ⟨wo, wc, ko, kc, c0, c1, c2, c3, c4, g1, g2, g3⟩ := cc i hi
      exact ⟨wo, wc, ko, kc, c0, c1, c2, c3, c4, g1, g2, ⟨sr g3.words, ir g3.kids, g3.ok⟩⟩
  · rcases h.named with h | ⟨b, off, e, l, n, cc⟩
    · exact .inl h
    · refine .inr ⟨b, off, e, l, k b l n, fun i hi => ?_⟩
      obtain ⟨bo, bc, mo, mc, h1, h2, h3, h4, h5, h6, h7⟩ := cc i hi
      exact ⟨bo, bc, mo, mc, h1, h2, h3, h4, h5, h6, ⟨ir h7.bounds, mr h7.methods, h7.ok⟩⟩
/-- The set Sb, a row's block apart. -/
def offS (Sb : Nat → Prop) (lo : Option Addr) : Nat → Prop := fun b => Sb b ∧ ∀ a, lo = some a → b ≠ a.block
/-- What is done, and what the rest gives. -/
def joinM (d : List Mt) (R : Un × List Mt × Int) : Un × List Mt × Int := if R.2.2 ≠ 0 then (noUn, [], R.2.2) else (R.1, d ++ R.2.1, 0)
theorem join_nil (ks : List Int) : ∀ (ms : List Mt) (u : Un), joinM [] (methF ks ms u) = methF ks ms u
  | [], u => rfl
  | m :: r, u => by
    unfold joinM
    rw [methF]
    by_cases c1 : (fillU u m.sig ks).2.2 ≠ 0
    · rw [if_pos c1, if_pos c1]
    · rw [if_neg c1]
      by_cases c2 : (methF ks r (fillU u m.sig ks).1).2.2 ≠ 0
      · rw [if_pos c2, if_pos c2]
      · rw [if_neg c2, if_neg (fun g => g rfl)]
        rfl
theorem join_bad {ks : List Int} {d r : List Mt} {m : Mt} {u V : Un} {q e : Int} (h : fillU u m.sig ks = (V, q, e)) (he : e ≠ 0) : joinM d (methF ks (m :: r) u) = (noUn, [], e) := by
  unfold joinM
  rw [methF, h, if_pos he, if_pos he]
theorem join_step {ks : List Int} {d r : List Mt} {m : Mt} {u V : Un} {q : Int} (h : fillU u m.sig ks = (V, q, 0)) : joinM d (methF ks (m :: r) u) = joinM (d ++ [⟨m.name, m.ptr, q⟩]) (methF ks r V) := by
  unfold joinM
  rw [methF, h, if_neg (show ¬ ((0 : Int) ≠ 0) from fun g => g rfl)]
  by_cases c2 : (methF ks r V).2.2 ≠ 0
  · rw [if_pos c2, if_pos c2, if_pos c2]
  · rw [if_neg c2, if_neg c2, if_neg (fun g => g rfl)]
    simp
theorem join_end (ks : List Int) (d : List Mt) (u : Un) : joinM d (methF ks [] u) = (u, d, 0) := by
  unfold joinM
  rw [methF, if_neg (fun g => g rfl), List.append_nil]
set_option maxHeartbeats 16000000 in
set_option maxRecDepth 100000 in
theorem methodsOf_any (Sb : Nat → Prop) (u : Un) (ao no : Option Addr) (ac nc : Nat) (nm : Nm) (bo mo : Option Addr) (bc mc : Nat) (ks : List Int) (ko : Option Addr) (kc : Nat) (w : World) (hSb : ∀ b, w.heap.size ≤ b → Sb b) (hU : UnS Sb w ao no ac nc u) (hE : Env w) (hM : MRow w mo nm.methods) (hml : nm.methods.length ≤ 1000) (hmc : nm.methods.length ≤ mc) (hg : IRow w ko ks) (hgl : ks.length ≤ 1000) (hg6 : ∀ a ∈ ks, -9223372036854775808 ≤ a ∧ a ≤ 9223372036854775807) :
    Calls Tryz.prog 38 #[unV u ao ac no nc, nmV nm bo bc mo mc, .slice ko ks.length kc] w (MethR Sb w (methF ks nm.methods u)) := by
  obtain ⟨w1, h1⟩ : ∃ w1, w.alloc (.cells #[.slice ao u.types.length ac, .slice no u.named.length nc] 25) = w1 := ⟨_, rfl⟩
  obtain ⟨k1, q1, z1⟩ := box_new h1
  obtain ⟨w2, h2⟩ : ∃ w2, w1.alloc (.cells #[.string nm.name, .slice bo nm.bounds.length bc, .int .i64 nm.under, .slice mo nm.methods.length mc] 51) = w2 := ⟨_, rfl⟩
  obtain ⟨k2, q2, z2⟩ := box_new h2
  obtain ⟨w3, h3⟩ : ∃ w3, w2.alloc (.cells #[.slice none 0 0, .slice none 0 0] 25) = w3 := ⟨_, rfl⟩
  obtain ⟨k3, q3, z3⟩ := box_new h3
  have q12 := q1.trans (q2.mono q1.size)
  have B3 := Lib.hid (q12.trans (q3.mono q12.size))
  have HU := Lib.hid ((less_from hU (c := w.heap.size) (d := w2.heap.size) ⟨Nat.le_refl _, q12.size⟩).same (SameS.below B3.out))
  have HSB := Lib.hid hSb
  have SZ := Lib.hid (show w.heap.size < w3.heap.size ∧ w2.heap.size < w3.heap.size ∧ w.heap.size < w2.heap.size ∧ w.heap.size ≤ w3.heap.size by have := q2.size; omega)
  have HE := Lib.hid hE
  have HG := Lib.hid hg
  have HGL := Lib.hid (And.intro hgl hg6)
  have HC0 := clone_meth mo mc nm.methods w3 (hM.below B3.out) hml
  obtain ⟨F, hF⟩ : ∃ F, methF ks nm.methods u = F := ⟨_, rfl⟩
  have HF0 := Lib.hid (show F = joinM [] (methF ks nm.methods u) by rw [join_nil, hF])
  rw [hF]
  obtain ⟨ms, hms⟩ : ∃ ms, nm.methods = ms := ⟨_, rfl⟩
  rw [hms] at HC0 HF0 h2 k2 hml hmc
  obtain ⟨n, hn⟩ : ∃ n, ms.length = n := ⟨_, rfl⟩
  have HN := Lib.hid hn
  have HC := Lib.hid HC0
  have K1 := Lib.hid ((k1.below q2).below q3)
  have KN := Lib.hid (k2.below q3)
  have K2 := Lib.hid k3
  unfold unV nmV
  rw [hms]
  obtain ⟨c0, c1⟩ := cell2 K1.out
  obtain ⟨y0, y1, y2, y3⟩ := cell4 KN.out
  clear k1 k2 k3 q1 q2 q3 q12 z1 z2 z3 hU hE hM hg hgl hg6 hSb HC0 hF hms
  rw [hn] at HC h2 y3 hml hmc ⊢
  obtain ⟨kl, hkl⟩ : ∃ kl, ks.length = kl := ⟨_, rfl⟩
  have HKL := Lib.hid hkl
  rw [hkl]
  clear hn hkl
  go_enter Tryz.func38, Tryz.ntmps38
  go_wp2_with fail
  refine HC.out.mono ?_
  rintro e w4 ⟨v, rfl, hO, b4⟩
  obtain ⟨lo, lc, rfl, hmb, hlc, hba⟩ := own_mb hO
  rw [HN.out] at hlc ⊢
  have LC := Lib.hid hlc
  have BASE := Lib.hid hba
  have MB4 := Lib.hid hmb
  have B4 := Lib.hid (B3.out.trans (b4.mono B3.out.size))
  have K14 := Lib.hid (K1.out.below b4)
  have K24 := Lib.hid (K2.out.below b4)
  have HU4 := Lib.hid ((uns_sub (T := offS (lessS Sb w.heap.size w2.heap.size) lo) HU.out (fun b hb hs => ⟨hs, fun a ha => by have := BASE.out a ha; omega⟩)).same (SameS.below b4))
  have B34 := Lib.hid b4.size
  clear hO b4 hmb hlc hba c0 c1 y0 y1 y2 y3 h1 h2 h3 HC
  obtain ⟨ub, hub⟩ : ∃ ub, w.heap.size = ub := ⟨_, rfl⟩
  obtain ⟨rb, hrb⟩ : ∃ rb, w2.heap.size = rb := ⟨_, rfl⟩
  obtain ⟨base, hbs⟩ : ∃ base, w3.heap.size = base := ⟨_, rfl⟩
  have SZ2 := Lib.hid (show w.heap.size = ub ∧ ub < base ∧ rb < base ∧ ub ≠ rb ∧ w.heap.size ≤ rb ∧ base ≤ w4.heap.size by have h1 := SZ.out; have h2 := B34.out; omega)
  have UBW := Lib.hid (show w.heap.size ≤ ub from Nat.le_of_eq hub)
  have K14 := Lib.hid (show BlockAt w4 ub _ _ by rw [← hub]; exact K14.out)
  have K24 := Lib.hid (show BlockAt w4 rb _ _ by rw [← hrb]; exact K24.out)
  have MB4 := Lib.hid (show MB w4 base lo ms by rw [← hbs]; exact MB4.out)
  obtain ⟨S, hS⟩ : ∃ S, offS (lessS Sb w.heap.size w2.heap.size) lo = S := ⟨_, rfl⟩
  have HSE := Lib.hid (show ∀ b, S b ↔ ((Sb b ∧ b ≠ ub ∧ b ≠ rb) ∧ ∀ a, lo = some a → b ≠ a.block) from fun b => by rw [← hS, ← hub, ← hrb]; exact Iff.rfl)
  rw [hS] at HU4
  rw [hub, hrb]
  clear hub hrb hbs hS SZ B34 K1 K2 KN HU
  have NSU := Lib.hid (show ¬ S ub from fun g => ((HSE.out ub).1 g).1.2.1 rfl)
  have NSR := Lib.hid (show ¬ S rb from fun g => ((HSE.out rb).1 g).1.2.2 rfl)
  go_wp2_with fail
  go_loopw [17] (fun i wr => ∃ (k : Nat) (cu : Un) (ao1 no1 : Option Addr) (ac1 nc1 : Nat) (d : List Mt), k ≤ n ∧ i = .int .i64 k ∧ Hid (F = joinM d (methF ks (ms.drop k) cu)) ∧ Hid (d.length = k) ∧ Hid (UnS S wr ao1 no1 ac1 nc1 cu) ∧ Hid (BlockAt wr ub #[.slice ao1 cu.types.length ac1, .slice no1 cu.named.length nc1] 25) ∧ Hid (BlockAt wr rb #[.slice none 0 0, .slice none 0 0] 25) ∧ Hid (MB wr base lo (d ++ ms.drop k)) ∧ Hid (Below w.heap.size w wr) ∧ Hid (w4.heap.size ≤ wr.heap.size)) (fun i _ => n - (intOf i).toNat)
  case atStart => exact ⟨0, u, ao, no, ac, nc, [], Nat.zero_le _, rfl, HF0, Lib.hid rfl, HU4, K14, K24, MB4, B4, Lib.hid (Nat.le_refl _)⟩
  case round =>
    obtain ⟨k, cu, ao1, no1, ac1, nc1, d, hk, rfl, HFK, HD, HUR, K1, K2, HMB, HB, HW⟩ := hrel
    by_cases hkn : k < n
    · have hkl : k < ms.length := by rw [HN.out]; exact hkn
      have hdr := List.drop_eq_getElem_cons hkl
      obtain ⟨x, hx⟩ : ∃ x, ms[k] = x := ⟨_, rfl⟩
      rw [hx] at hdr
      have HFK := Lib.hid (show F = joinM d (methF ks (x :: ms.drop (k + 1)) cu) by rw [← hdr]; exact HFK.out)
      obtain ⟨g, cur, rfl, hbg, hKG, hcc⟩ := (show MB wr base lo (d ++ x :: ms.drop (k + 1)) by rw [← hdr]; exact HMB.out).cells (by rw [List.length_append, List.length_cons]; omega)
      have CC := Lib.hid hcc
      have CX := Lib.hid (show cur[k * 3]? = some (.string x.name) ∧ cur[k * 3 + 1]? = some (.bool x.ptr) ∧ cur[k * 3 + 2]? = some (.int .i64 x.sig) from by
        have := hcc k (by have := HD.out; simp; omega)
        have e : (d ++ x :: ms.drop (k + 1))[k]'(by have := HD.out; simp; omega) = x := by
          have hd := HD.out
          subst hd
          rw [List.getElem_append_right (Nat.le_refl _)]
          simp
        rw [e] at this
        exact this)
      have KG := Lib.hid hKG
      have BG := Lib.hid hbg
      have NE := Lib.hid (show ub ≠ rb ∧ rb ≠ ub ∧ g ≠ ub ∧ g ≠ rb ∧ ub ≠ g ∧ rb ≠ g from by have := SZ2.out; omega)
      have NSG := Lib.hid (show ¬ S g from fun h => ((HSE.out g).1 h).2 _ rfl rfl)
      have HSW := Lib.hid (show ∀ b, wr.drew.heap.size ≤ b → S b from fun b hb => by
        have hb : wr.heap.size ≤ b := hb
        have hs := SZ2.out
        have hw := HW.out
        have hg := KG.out.lt
        refine (HSE.out b).2 ⟨⟨HSB.out b (by omega), by omega, by omega⟩, fun a ha => ?_⟩
        injection ha with ha
        subst ha
        show b ≠ g
        omega)
      have HFL0 := filled_any S cu ao1 no1 ac1 nc1 x.sig ks ko kc wr.drew HSW.out (HUR.out.same (SameS.below (Below.refl _ _).drew)) ((HE.out.below HB.out).below (Below.refl _ _).drew) ((HG.out.below HB.out).below (Below.refl _ _).drew) HGL.out.1 HGL.out.2
      obtain ⟨⟨V, q, e⟩, hR⟩ : ∃ R, fillU cu x.sig ks = R := ⟨_, rfl⟩
      rw [hR] at HFL0
      unfold unV at HFL0
      rw [HKL.out] at HFL0
      have HR := Lib.hid hR
      obtain ⟨L, hL⟩ : ∃ L, cu.types.length = L := ⟨_, rfl⟩
      obtain ⟨n1, hn1⟩ : ∃ n, cu.named.length = n := ⟨_, rfl⟩
      rw [hL, hn1] at HFL0 K1
      have HFL := Lib.hid HFL0
      obtain ⟨c0, c1⟩ := cell2 K1.out
      have d2 := (KG.out.cell _).trans CX.out.2.2
      clear hdr hx hcc hKG hbg HFL0 hR hL hn1 hkl HMB
      go_upto_region 6 with fail
      refine GoG.start [(14, ⟨ub, 0, none⟩, .slice ao1 L ac1), (14, ⟨ub, 1, none⟩, .slice no1 n1 nc1), (17, ⟨g, k * 3 + 2, none⟩, .int .i64 x.sig)] (by kernel_rfl) ?_ ?_
      · exact Keeps.cons (by first | exact c0 | assumption) (Keeps.cons (by first | exact c1 | assumption) (Keeps.cons (by first | exact d2 | assumption) (Keeps.nil)))
      refine GoG.take (i := 0) (v := ?_) [] rfl (by kernel_rfl) (by kernel_rfl) (by kernel_rfl) (by kernel_rfl) (by kernel_rfl) (by kernel_rfl) (fun _ _ _ h => h) (yields_free (by rfl) (fun w => ?_)) ?_
      rotate_left
      · go_simp; try (with_reducible rfl)
      try simp only [Act.put, List.getElem_toArray, List.getElem_cons_succ, List.getElem_cons_zero, List.setIfInBounds_toArray, List.set_cons_zero, List.set_cons_succ]
      refine GoG.take (i := 1) (v := ?_) [] rfl (by kernel_rfl) (by kernel_rfl) (by kernel_rfl) (by kernel_rfl) (by kernel_rfl) (by kernel_rfl) (fun _ _ _ h => h) (yields_free (by rfl) (fun w => ?_)) ?_
      rotate_left
      · go_simp; try (with_reducible rfl)
      try simp only [Act.put, List.getElem_toArray, List.getElem_cons_succ, List.getElem_cons_zero, List.setIfInBounds_toArray, List.set_cons_zero, List.set_cons_succ]
      refine GoG.take (i := 2) (v := ?_) [14] rfl (by kernel_rfl) (by kernel_rfl) (by kernel_rfl) (by kernel_rfl) (by kernel_rfl) (by kernel_rfl) (fun _ _ _ h => h) (.inl ⟨by rfl, fun WW hS => ?_⟩) ?_
      rotate_left
      · have g0 : WW.cell? ⟨ub, 0, none⟩ = some (.slice ao1 L ac1) := hS (14, ⟨ub, 0, none⟩, .slice ao1 L ac1) (by simp) (by simp)
        have g1 : WW.cell? ⟨ub, 1, none⟩ = some (.slice no1 n1 nc1) := hS (14, ⟨ub, 1, none⟩, .slice no1 n1 nc1) (by simp) (by simp)
        clear hS
        go_simp; try (with_reducible rfl)
      try simp only [Act.put, List.getElem_toArray, List.getElem_cons_succ, List.getElem_cons_zero, List.setIfInBounds_toArray, List.set_cons_zero, List.set_cons_succ]
      refine GoG.take (i := 3) (v := ?_) [] rfl (by kernel_rfl) (by kernel_rfl) (by kernel_rfl) (by kernel_rfl) (by kernel_rfl) (by kernel_rfl) (fun _ _ _ h => h) (yields_free (by rfl) (fun w => ?_)) ?_
      rotate_left
      · go_simp; try (with_reducible rfl)
      try simp only [Act.put, List.getElem_toArray, List.getElem_cons_succ, List.getElem_cons_zero, List.setIfInBounds_toArray, List.set_cons_zero, List.set_cons_succ]
      refine GoG.take (i := 4) (v := ?_) [] rfl (by kernel_rfl) (by kernel_rfl) (by kernel_rfl) (by kernel_rfl) (by kernel_rfl) (by kernel_rfl) (fun _ _ _ h => h) (yields_free (by rfl) (fun w => ?_)) ?_
      rotate_left
      · go_simp; try (with_reducible rfl)
      try simp only [Act.put, List.getElem_toArray, List.getElem_cons_succ, List.getElem_cons_zero, List.setIfInBounds_toArray, List.set_cons_zero, List.set_cons_succ]
      refine GoG.take (i := 5) (v := ?_) [] rfl (by kernel_rfl) (by kernel_rfl) (by kernel_rfl) (by kernel_rfl) (by kernel_rfl) (by kernel_rfl) (fun _ _ _ h => h) (yields_free (by rfl) (fun w => ?_)) ?_
      rotate_left
      · go_simp; try (with_reducible rfl)
      try simp only [Act.put, List.getElem_toArray, List.getElem_cons_succ, List.getElem_cons_zero, List.setIfInBounds_toArray, List.set_cons_zero, List.set_cons_succ]
      refine GoG.take (i := 6) (v := ?_) [] rfl (by kernel_rfl) (by kernel_rfl) (by kernel_rfl) (by kernel_rfl) (by kernel_rfl) (by kernel_rfl) (fun _ _ _ h => h) (yields_free (by rfl) (fun w => ?_)) ?_
      rotate_left
      · go_simp; try (with_reducible rfl)
      try simp only [Act.put, List.getElem_toArray, List.getElem_cons_succ, List.getElem_cons_zero, List.setIfInBounds_toArray, List.set_cons_zero, List.set_cons_succ]
      refine GoG.take (i := 7) (v := ?_) [17] rfl (by kernel_rfl) (by kernel_rfl) (by kernel_rfl) (by kernel_rfl) (by kernel_rfl) (by kernel_rfl) (fun _ _ _ h => h) (yields_load 17 ⟨g, k * 3 + 2, none⟩ (.int .i64 x.sig) (by simp) (by decide) (by rfl) (fun w hw => ?_)) ?_
      rotate_left
      · go_simp; try (with_reducible rfl)
      try simp only [Act.put, List.getElem_toArray, List.getElem_cons_succ, List.getElem_cons_zero, List.setIfInBounds_toArray, List.set_cons_zero, List.set_cons_succ]
      refine GoG.take (i := 8) (v := ?_) [] rfl (by kernel_rfl) (by kernel_rfl) (by kernel_rfl) (by kernel_rfl) (by kernel_rfl) (by kernel_rfl) (fun _ _ _ h => h) (yields_free (by rfl) (fun w => ?_)) ?_
      rotate_left
      · go_simp; try (with_reducible rfl)
      try simp only [Act.put, List.getElem_toArray, List.getElem_cons_succ, List.getElem_cons_zero, List.setIfInBounds_toArray, List.set_cons_zero, List.set_cons_succ]
      refine GoG.one (i := 9) rfl (by kernel_rfl) (fun K hK => ?_)
      go_simp
      refine HFL.out.mono ?_
      rintro e w7 ⟨fo, fn, fc, fnc, rfl, hF, b7⟩
      unfold unV
      have B7 := Lib.hid b7.size
      have HF7 := Lib.hid hF
      have BW7 := Lib.hid (HB.out.drew.trans (b7.mono HB.out.drew.size))
      have K17 := Lib.hid ((K1.out.below (Below.refl _ _).drew).below b7)
      have K27 := Lib.hid ((K2.out.below (Below.refl _ _).drew).below b7)
      have KG7 := Lib.hid ((KG.out.below (Below.refl _ _).drew).below b7)
      refine hK.out _ _ (Keeps.cons ((b7.cell (p := ⟨ub, 0, none⟩) (cell_ltB c0)).trans c0) (Keeps.cons ((b7.cell (p := ⟨ub, 1, none⟩) (cell_ltB c1)).trans c1) (Keeps.cons ((b7.cell (p := ⟨g, k * 3 + 2, none⟩) (cell_ltB d2)).trans d2) (Keeps.nil)))) ?_
      clear hK K b7 hF c0 c1 d2
      try simp only [Act.put, List.getElem_toArray, List.getElem_cons_succ, List.getElem_cons_zero, List.setIfInBounds_toArray, List.set_cons_zero, List.set_cons_succ]
      refine GoG.take (i := 10) (v := ?_) [] rfl (by kernel_rfl) (by kernel_rfl) (by kernel_rfl) (by kernel_rfl) (by kernel_rfl) (by kernel_rfl) (fun _ _ _ h => h) (yields_free (by rfl) (fun w => ?_)) ?_
      rotate_left
      · go_simp; try (with_reducible rfl)
      try simp only [Act.put, List.getElem_toArray, List.getElem_cons_succ, List.getElem_cons_zero, List.setIfInBounds_toArray, List.set_cons_zero, List.set_cons_succ]
      refine GoG.take (i := 11) (v := ?_) [] rfl (by kernel_rfl) (by kernel_rfl) (by kernel_rfl) (by kernel_rfl) (by kernel_rfl) (by kernel_rfl) (fun _ _ _ h => h) (yields_free (by rfl) (fun w => ?_)) ?_
      rotate_left
      · go_simp; try (with_reducible rfl)
      try simp only [Act.put, List.getElem_toArray, List.getElem_cons_succ, List.getElem_cons_zero, List.setIfInBounds_toArray, List.set_cons_zero, List.set_cons_succ]
      refine GoG.take (i := 12) (v := ?_) [] rfl (by kernel_rfl) (by kernel_rfl) (by kernel_rfl) (by kernel_rfl) (by kernel_rfl) (by kernel_rfl) (fun _ _ _ h => h) (yields_free (by rfl) (fun w => ?_)) ?_
      rotate_left
      · go_simp; try (with_reducible rfl)
      try simp only [Act.put, List.getElem_toArray, List.getElem_cons_succ, List.getElem_cons_zero, List.setIfInBounds_toArray, List.set_cons_zero, List.set_cons_succ]
      refine GoG.take (i := 13) (v := ?_) [] rfl (by kernel_rfl) (by kernel_rfl) (by kernel_rfl) (by kernel_rfl) (by kernel_rfl) (by kernel_rfl) (fun _ _ _ h => h) (yields_free (by rfl) (fun w => ?_)) ?_
      rotate_left
      · go_simp; try (with_reducible rfl)
      try simp only [Act.put, List.getElem_toArray, List.getElem_cons_succ, List.getElem_cons_zero, List.setIfInBounds_toArray, List.set_cons_zero, List.set_cons_succ]
      obtain ⟨w8, h8⟩ : ∃ w8, w7.setCell ⟨ub, 0, none⟩ (.slice fo V.types.length fc) = w8 := ⟨_, rfl⟩
      obtain ⟨w9, h9⟩ : ∃ w9, w8.setCell ⟨ub, 1, none⟩ (.slice fn V.named.length fnc) = w9 := ⟨_, rfl⟩
      have K19 := Lib.hid (box2_set K17.out h8 h9)
      have K29 := Lib.hid (other_set (other_set K27.out NE.out.2.1 h8) NE.out.2.1 h9)
      have KG9 := Lib.hid (other_set (other_set KG7.out NE.out.2.2.1 h8) NE.out.2.2.1 h9)
      have t0 := (cell2 K17.out).1
      have f0 := K17.out.free 0
      have t1 := (cell2 (box2_set0 K17.out h8)).2
      have f1 := (box2_set0 K17.out h8).free 1
      have BW9 := Lib.hid (set2_below BW7.out UBW.out h8 h9)
      have HF9 := Lib.hid ((HF7.out.same (SameS.set NSU.out h8)).same (SameS.set NSU.out h9))
      refine GoG.one (i := 14) rfl (by kernel_rfl) (fun K hK => ?_)
      go_simp
      clear t0 f0 t1 f1
      have d2 : w9.cell? ⟨g, k * 3 + 2, none⟩ = some (.int .i64 x.sig) := (KG9.out.cell _).trans CX.out.2.2
      refine hK.out _ _ (Keeps.up (by rfl) (Keeps.up (by rfl) (Keeps.cons (by first | exact d2 | assumption) (Keeps.nil)))) ?_
      clear hK K
      try simp only [Act.put, List.getElem_toArray, List.getElem_cons_succ, List.getElem_cons_zero, List.setIfInBounds_toArray, List.set_cons_zero, List.set_cons_succ]
      refine GoG.take (i := 15) (v := ?_) [] rfl (by kernel_rfl) (by kernel_rfl) (by kernel_rfl) (by kernel_rfl) (by kernel_rfl) (by kernel_rfl) (fun _ _ _ h => h) (yields_free (by rfl) (fun w => ?_)) ?_
      rotate_left
      · go_simp; try (with_reducible rfl)
      try simp only [Act.put, List.getElem_toArray, List.getElem_cons_succ, List.getElem_cons_zero, List.setIfInBounds_toArray, List.set_cons_zero, List.set_cons_succ]
      refine GoG.take (i := 16) (v := ?_) [] rfl (by kernel_rfl) (by kernel_rfl) (by kernel_rfl) (by kernel_rfl) (by kernel_rfl) (by kernel_rfl) (fun _ _ _ h => h) (yields_free (by rfl) (fun w => ?_)) ?_
      rotate_left
      · go_simp; try (with_reducible rfl)
      try simp only [Act.put, List.getElem_toArray, List.getElem_cons_succ, List.getElem_cons_zero, List.setIfInBounds_toArray, List.set_cons_zero, List.set_cons_succ]
      obtain ⟨w10, h10⟩ : ∃ w10, w9.setCell ⟨g, k * 3 + 2, none⟩ (.int .i64 q) = w10 := ⟨_, rfl⟩
      have f2 := KG9.out.free (k * 3 + 2)
      refine GoG.one (i := 17) rfl (by kernel_rfl) (fun K hK => ?_)
      go_simp
      refine hK.out _ _ (Keeps.up (by rfl) (Keeps.up (by rfl) (Keeps.up (by rfl) (Keeps.nil)))) ?_
      clear hK K d2 f2
      try simp only [Act.put, List.getElem_toArray, List.getElem_cons_succ, List.getElem_cons_zero, List.setIfInBounds_toArray, List.set_cons_zero, List.set_cons_succ]
      refine GoG.take (i := 18) (v := ?_) [] rfl (by kernel_rfl) (by kernel_rfl) (by kernel_rfl) (by kernel_rfl) (by kernel_rfl) (by kernel_rfl) (fun _ _ _ h => h) (yields_free (by rfl) (fun w => ?_)) ?_
      rotate_left
      · go_simp; try (with_reducible rfl)
      try simp only [Act.put, List.getElem_toArray, List.getElem_cons_succ, List.getElem_cons_zero, List.setIfInBounds_toArray, List.set_cons_zero, List.set_cons_succ]
      refine GoG.done (by kernel_rfl) ?_ _
      have HF10 := Lib.hid (HF9.out.same (SameS.set NSG.out h10))
      have K110 := Lib.hid (other_set K19.out NE.out.2.2.2.2.1 h10)
      have K210 := Lib.hid (other_set K29.out NE.out.2.2.2.2.2 h10)
      have BW10 := Lib.hid (set1_below BW9.out (by have := SZ2.out; have := BG.out; omega) h10)
      have MB10 := Lib.hid (MB.put BG.out KG9.out CC.out HD.out h10)
      have SZ10 := Lib.hid (show w4.heap.size ≤ w10.heap.size from Nat.le_trans HW.out (Nat.le_trans B7.out (Nat.le_trans (SameS.set NSU.out h8).1 (Nat.le_trans (SameS.set NSU.out h9).1 (SameS.set NSG.out h10).1))))
      by_cases he : e = 0
      case neg =>
        have Hn := Lib.hid (show F = (noUn, [], e) by rw [HFK.out]; exact join_bad HR.out he)
        have hq : (e != 0) = true := by rw [bne_iff_ne]; exact he
        clear he
        obtain ⟨v1, g1⟩ : ∃ v1, w10.setCell ⟨rb, 0, none⟩ (.slice none 0 0) = v1 := ⟨_, rfl⟩
        obtain ⟨v2, g2⟩ : ∃ v2, v1.setCell ⟨rb, 1, none⟩ (.slice none 0 0) = v2 := ⟨_, rfl⟩
        have K5 := box2_set K210.out g1 g2
        have B5 := Lib.hid (set2_below BW10.out SZ2.out.2.2.2.2.1 g1 g2)
        have t0 := (cell2 K210.out).1
        have f0 := K210.out.free 0
        have t1 := (cell2 (box2_set0 K210.out g1)).2
        have f1 := (box2_set0 K210.out g1).free 1
        obtain ⟨e0, e1⟩ := cell2 K5
        clear K5
        go_wp2_with fail
        try simp only [Exit.inBlock, Exit.then]
        refine bodyPost_ret (v := .tuple #[.agg #[.slice none 0 0, .slice none 0 0], .slice none 0 0, .int .i64 e]) ?_ rfl ?_
        · simp [results, Tryz.results38, go_sem, e0, e1]
        rw [Hn.out]
        exact ⟨none, none, 0, 0, none, 0, rfl, noUn_in _ _, .inl rfl, Nat.le_refl _, B5.out⟩
      subst he
      have HFN := Lib.hid (show F = joinM (d ++ [⟨x.name, x.ptr, q⟩]) (methF ks (ms.drop (k + 1)) V) by rw [HFK.out]; exact join_step HR.out)
      go_wp2_with fail
      go_roundw
      case rel => exact ⟨k + 1, V, fo, fn, fc, fnc, d ++ [⟨x.name, x.ptr, q⟩], by omega, by go_num, HFN, Lib.hid (by have := HD.out; simp; omega), HF10, K110, K210, Lib.hid (by have := MB10.out; simpa using this), BW10, SZ10⟩
      case measure => first | (simp [intOf]; done) | (simp [intOf]; omega)
    · obtain rfl : k = n := by omega
      have Hn := Lib.hid (show F = (cu, d, 0) by rw [HFK.out, List.drop_of_length_le (by rw [HN.out]; exact Nat.le_refl _)]; exact join_end ks d cu)
      have HMD := Lib.hid (show MB wr base lo d by
        have := HMB.out
        rw [List.drop_of_length_le (by rw [HN.out]; exact Nat.le_refl _), List.append_nil] at this
        exact this)
      obtain ⟨L, hL⟩ : ∃ L, cu.types.length = L := ⟨_, rfl⟩
      obtain ⟨n1, hn1⟩ : ∃ n, cu.named.length = n := ⟨_, rfl⟩
      have HLN := Lib.hid (And.intro hL hn1)
      rw [hL, hn1] at K1
      clear hL hn1
      obtain ⟨c0, c1⟩ := cell2 K1.out
      obtain ⟨v1, g1⟩ : ∃ v1, wr.setCell ⟨rb, 0, none⟩ (.slice ao1 L ac1) = v1 := ⟨_, rfl⟩
      obtain ⟨v2, g2⟩ : ∃ v2, v1.setCell ⟨rb, 1, none⟩ (.slice no1 n1 nc1) = v2 := ⟨_, rfl⟩
      have K5 := box2_set K2.out g1 g2
      have B5 := Lib.hid (set2_below HB.out SZ2.out.2.2.2.2.1 g1 g2)
      have HU5 := Lib.hid (uns_sub (T := Sb) ((HUR.out.same (SameS.set NSR.out g1)).same (SameS.set NSR.out g2)) (fun b _ hs => ((HSE.out b).1 hs).1.1))
      have HM5 := Lib.hid ((HMD.out.other SZ2.out.2.2.1 g1).other SZ2.out.2.2.1 g2)
      have t0 := (cell2 K2.out).1
      have f0 := K2.out.free 0
      have t1 := (cell2 (box2_set0 K2.out g1)).2
      have f1 := (box2_set0 K2.out g1).free 1
      obtain ⟨e0, e1⟩ := cell2 K5
      clear K5
      go_wp2_with fail
      try simp only [Exit.inBlock, Exit.then]
      refine bodyPost_ret (v := .tuple #[.agg #[.slice ao1 L ac1, .slice no1 n1 nc1], .slice lo k lc, .int .i64 0]) ?_ rfl ?_
      · simp [results, Tryz.results38, go_sem, e0, e1]
      rw [Hn.out]
      refine ⟨ao1, no1, ac1, nc1, lo, lc, ?_, HU5.out, HM5.out.rowS (fun b hb => HSB.out b (by have := SZ2.out; omega)), by show d.length ≤ lc; rw [HD.out]; exact LC.out, B5.out⟩
      unfold unV
      rw [HLN.out.1, HLN.out.2]
      show _ = Ending.returned (.tuple #[_, .slice lo d.length lc, _])
      rw [HD.out]
end Go.Proofs.YtkmnfkhchcoamaaGreatDoor
/- The program's Methods. -/
namespace Go.Proofs.YtkmnfkhchcoamaaGreatDoor
open Go.RowKit
set_option linter.unusedSimpArgs false
set_option linter.unusedVariables false

theorem mrows_sub {S T : Nat → Prop} {w : World} {ao : Option Addr} {ms : List Mt} (h : MRowS S w ao ms) (k : ∀ b, b < w.heap.size → S b → T b) : MRowS T w ao ms := by
  rcases h with h | ⟨b, off, e, l, n, cc⟩
  · exact .inl h
  · exact .inr ⟨b, off, e, l, k b l n, cc⟩
/-- An interface's plain methods. -/
def ifaceM (ps : List (ByteArray × Int)) : List Mt := (ps.filter (fun p => nameB p.1)).map fun p => ⟨p.1, false, p.2⟩
theorem ifaceM_len (ps : List (ByteArray × Int)) : (ifaceM ps).length ≤ ps.length := by
  unfold ifaceM
  rw [List.length_map]
  exact List.length_filter_le _ _
theorem ifaceM_yes {ws : List ByteArray} {ks : List Int} {k : Nat} {s : ByteArray} {q : Int} (h1 : k < ws.length) (h2 : k < ks.length) (e1 : ws[k] = s) (e2 : ks[k] = q) (h : nameB s = true) : ifaceM ((ws.zip ks).take (k + 1)) = ifaceM ((ws.zip ks).take k) ++ [⟨s, false, q⟩] := by
  have hz : k < (ws.zip ks).length := by rw [List.length_zip]; omega
  rw [List.take_add_one, List.getElem?_eq_getElem hz, List.getElem_zip, e1, e2]
  unfold ifaceM
  simp [h]
theorem ifaceM_no {ws : List ByteArray} {ks : List Int} {k : Nat} {s : ByteArray} (h1 : k < ws.length) (h2 : k < ks.length) (e1 : ws[k] = s) (h : nameB s = false) : ifaceM ((ws.zip ks).take (k + 1)) = ifaceM ((ws.zip ks).take k) := by
  have hz : k < (ws.zip ks).length := by rw [List.length_zip]; omega
  rw [List.take_add_one, List.getElem?_eq_getElem hz, List.getElem_zip, e1]
  unfold ifaceM
  simp [h]
theorem right_words {l : List Ty} (h : rightT l = true) {z : Nat} (hz : z < l.length) (h7 : l[z].kind = 7) : l[z].words.length = l[z].kids.length := by
  by_cases h22 : z < 22
  · rw [right_low h hz h22]
    unfold bas
    split <;> rfl
  · have hm := (right_high h hz h22).1
    unfold madeB at hm
    rw [Bool.and_eq_true] at hm
    have hm := hm.2
    rw [h7] at hm
    simp only [show ¬ ((7 : Int) = 1 ∨ (7 : Int) = 2) by omega, show ¬ (7 : Int) = 3 by omega, show ¬ (7 : Int) = 4 by omega, show ¬ (7 : Int) = 5 by omega, show ¬ (7 : Int) = 6 by omega, if_false, if_true, Bool.and_eq_true, decide_eq_true_eq] at hm
    exact hm.1.2.2.2.2
/-- What Methods gives. -/
def methU (u : Un) (i : Int) : Un × List Mt × Int :=
  if thereU u i ≠ 0 then (noUn, [], thereU u i)
  else if kindAt u.types i = 8 then methF (funT u.types i.toNat).kids (u.named.getD (atU u.named (funT u.types i.toNat).name).toNat ⟨⟨#[]⟩, [], 0, []⟩).methods u
  else if kindAt u.types i = 7 then (u, ifaceM ((funT u.types i.toNat).words.zip (funT u.types i.toNat).kids), 0) else (u, [], 0)
theorem ownM_nil (w : World) (base : Nat) : OwnM w base (.slice none 0 0) [] := World.ownsRow_nil _ _ _ _
theorem pushM_all {W wr w1 : World} {base : Nat} {v v' : Value} {l r : List Mt} {o : Obj} {n : Nat} (hn : n = l.length + r.length) (hW : W.heap.size ≤ base) (ho : OwnM wr base v l) (hB : Below W.heap.size W wr)
    (h1 : w1.ownsRow base 48 3 v' n (mtC l ++ mtC r)) (hg : (wr.alloc o).grownBy w1 v.ownBlock) :
    OwnM w1 base v' (l ++ r) ∧ Below W.heap.size W w1 := by
  have ba : Below wr.heap.size wr (wr.alloc o) := (Below.refl _ _).alloc (Nat.le_refl _) _
  have hb2 := hB.trans (ba.mono hB.size)
  refine ⟨?_, hb2.grown hg (by have := hb2.size; omega) (fun k hk => ?_)⟩
  · subst hn
    unfold OwnM
    rw [mtC_app, List.length_append]
    exact h1
  · have := World.ownsRow.lt ho k hk
    omega
set_option maxHeartbeats 16000000 in
set_option maxRecDepth 100000 in
theorem methods_any (Sb : Nat → Prop) (u : Un) (ao no : Option Addr) (ac nc : Nat) (i : Int) (w : World) (hSb : ∀ b, w.heap.size ≤ b → Sb b) (hU : UnS Sb w ao no ac nc u) (hE : Env w) :
    Calls Tryz.prog 17 #[unV u ao ac no nc, .int .i64 i] w (MethR Sb w (methU u i)) := by
  obtain ⟨w1, h1⟩ : ∃ w1, w.alloc (.cells #[.slice ao u.types.length ac, .slice no u.named.length nc] 25) = w1 := ⟨_, rfl⟩
  obtain ⟨k1, q1, z1⟩ := box_new h1
  obtain ⟨w2, h2⟩ : ∃ w2, w1.alloc (.cells #[.slice none 0 0, .slice none 0 0] 25) = w2 := ⟨_, rfl⟩
  obtain ⟨k2, q2, z2⟩ := box_new h2
  have B2 := Lib.hid (q1.trans (q2.mono q1.size))
  have HU := Lib.hid (hU.same (SameS.below B2.out))
  have HUL := Lib.hid ((less_from hU (c := w1.heap.size) (d := w1.heap.size) ⟨q1.size, q1.size⟩).same (SameS.below B2.out))
  have HLS := Lib.hid (show ∀ b, w2.heap.size ≤ b → lessS Sb w1.heap.size w1.heap.size b from fun b hb => ⟨hSb b (by omega), by omega, by omega⟩)
  have HNS := Lib.hid (show ¬ lessS Sb w1.heap.size w1.heap.size w1.heap.size from fun g => g.2.2 rfl)
  have LE1 := Lib.hid (show w.heap.size ≤ w1.heap.size by omega)
  have HTH0 := there_uany u ao no ac nc i w2 HU.out.out (hE.below B2.out)
  have HE := Lib.hid (hE.below B2.out)
  have HSB := Lib.hid hSb
  obtain ⟨F, hF⟩ : ∃ F, methU u i = F := ⟨_, rfl⟩
  have HUF := Lib.hid hF
  rw [hF]
  unfold unV at HTH0
  unfold unV
  obtain ⟨te, hte⟩ : ∃ te, thereU u i = te := ⟨_, rfl⟩
  have HTE := Lib.hid hte
  rw [hte] at HTH0
  have HTH := Lib.hid HTH0
  have K1 := Lib.hid (k1.below q2)
  have K2 := Lib.hid k2
  obtain ⟨c0, c1⟩ := cell2 (k1.below q2)
  have HTL := Lib.hid hU.tl
  have HNL := Lib.hid hU.nl
  clear hF hte HTH0 k1 k2 q1 q2 z1 z2 hU hE hSb
  go_enter Tryz.func17, Tryz.ntmps17
  by_cases h0 : te = 0
  case neg =>
    have HF := Lib.hid (show F = (noUn, [], te) by rw [← HUF.out]; unfold methU; rw [HTE.out, if_pos h0])
    have hq : (te != 0) = true := by rw [bne_iff_ne]; exact h0
    clear h0
    go_wp2_with fail
    refine HTH.out.mono ?_
    rintro e w3 ⟨rfl, b3⟩
    have B3 := Lib.hid (B2.out.trans (b3.mono B2.out.size))
    have K23 := Lib.hid (K2.out.below b3)
    obtain ⟨w4, h4⟩ : ∃ w4, w3.setCell ⟨w1.heap.size, 0, none⟩ (.slice none 0 0) = w4 := ⟨_, rfl⟩
    obtain ⟨w5, h5⟩ : ∃ w5, w4.setCell ⟨w1.heap.size, 1, none⟩ (.slice none 0 0) = w5 := ⟨_, rfl⟩
    have K5 := box2_set K23.out h4 h5
    have B5 := Lib.hid (set2_below B3.out LE1.out h4 h5)
    clear b3 c0 c1 h1 h2
    have t0 := (cell2 K23.out).1
    have f0 := K23.out.free 0
    have t1 := (cell2 (box2_set0 K23.out h4)).2
    have f1 := (box2_set0 K23.out h4).free 1
    obtain ⟨e0, e1⟩ := cell2 K5
    clear K5
    go_wp2_with fail
    try simp only [Exit.inBlock, Exit.then]
    refine bodyPost_ret (v := .tuple #[.agg #[.slice none 0 0, .slice none 0 0], .slice none 0 0, .int .i64 te]) ?_ rfl ?_
    · simp [results, Tryz.results17, go_sem, e0, e1]
    rw [HF.out]
    exact ⟨none, none, 0, 0, none, 0, rfl, noUn_in _ _, .inl rfl, Nat.le_refl _, B5.out⟩
  subst h0
  obtain ⟨hru, hi0, hi1⟩ := thereU_zero HTE.out
  have HRU := Lib.hid hru
  obtain ⟨z, rfl⟩ : ∃ z : Nat, i = (z : Int) := ⟨i.toNat, by omega⟩
  have hzl : z < u.types.length := by omega
  have hru2 := hru
  rw [rightU_rest, Bool.and_eq_true] at hru2
  have HRI := Lib.hid (restU_iff.1 hru2.2).2.2.1
  have HRW := Lib.hid (fun h7 => right_words hru2.1 hzl h7)
  have HFT := Lib.hid (fun h8 => rightU_fits hru hzl h8)
  have HF2 := Lib.hid (show F = if u.types[z].kind = 8 then methF u.types[z].kids (u.named.getD (atU u.named u.types[z].name).toNat ⟨⟨#[]⟩, [], 0, []⟩).methods u else if u.types[z].kind = 7 then (u, ifaceM (u.types[z].words.zip u.types[z].kids), 0) else (u, [], 0) by
    rw [← HUF.out]
    unfold methU
    rw [HTE.out, if_neg (fun g => g rfl), kindAt_eq hzl, Int.toNat_natCast]
    unfold funT
    rw [getD_of hzl])
  clear hru hru2 hi0 hi1
  obtain ⟨ab, aof, rfl, hab, hac2⟩ := HU.out.out.types.cells (by omega)
  obtain ⟨xw, xwc, xk, xkc, a0', a1', a2', a3', a4', hwc, hkc, hxc⟩ := hac2 z hzl
  obtain ⟨x, hx⟩ : ∃ x, u.types[z] = x := ⟨_, rfl⟩
  rw [hx] at a0' a1' a2' a3' a4' hwc hkc hxc HF2 HFT HRW
  have HXC := Lib.hid hxc
  have HWK := Lib.hid (And.intro hwc hkc)
  obtain ⟨L, hL⟩ : ∃ L, u.types.length = L := ⟨_, rfl⟩
  obtain ⟨n, hn⟩ : ∃ n, u.named.length = n := ⟨_, rfl⟩
  have HL := Lib.hid hL
  have HN := Lib.hid hn
  rw [hL] at c0 h1 K1 HTH hzl ⊢
  rw [hn] at c1 h1 K1 HTH ⊢
  have htl := HTL.out
  have hnl := HNL.out
  rw [hL] at htl
  rw [hn] at hnl
  have hzI : (z : Int) < (L : Int) := by omega
  clear hx hxc hac2 hL hn hwc hkc
  go_wp2_with fail
  refine HTH.out.mono ?_
  rintro e w3 ⟨rfl, b3⟩
  have B3 := Lib.hid (B2.out.trans (b3.mono B2.out.size))
  have K13 := Lib.hid (K1.out.below b3)
  have K23 := Lib.hid (K2.out.below b3)
  have HU3 := Lib.hid (HU.out.same (SameS.below b3))
  have HUL3 := Lib.hid (HUL.out.same (SameS.below b3))
  have HXC3 := Lib.hid (HXC.out.below b3)
  have HE3 := Lib.hid (HE.out.below b3)
  have HSZ3 := Lib.hid b3.size
  have a0 := (b3.cell hab).trans a0'
  have a1 := (b3.cell hab).trans a1'
  have a2 := (b3.cell hab).trans a2'
  have a3 := (b3.cell hab).trans a3'
  have a4 := (b3.cell hab).trans a4'
  clear b3 c0 c1 h1 h2 hab a0' a1' a2' a3' a4' HTH
  obtain ⟨c0, c1⟩ := cell2 K13.out
  obtain ⟨w4, h4⟩ : ∃ w4, w3.alloc (.cells #[.int .i64 x.kind, .string x.name, .int .i64 x.n, .slice xw x.words.length xwc, .slice xk x.kids.length xkc] 38) = w4 := ⟨_, rfl⟩
  obtain ⟨k4, q4, z4⟩ := box_new h4
  have KX := Lib.hid k4
  have Q4 := Lib.hid q4
  obtain ⟨d0, d1, d2, d3, d4⟩ := cell5 k4
  clear k4 q4 z4
  have K14 := Lib.hid (K13.out.below Q4.out)
  have K24 := Lib.hid (K23.out.below Q4.out)
  have B4 := Lib.hid (B3.out.trans (Q4.out.mono B3.out.size))
  by_cases h8 : x.kind = 8
  case neg =>
    have hq8 : (x.kind == 8) = false := by rw [beq_eq_false_iff_ne]; exact h8
    by_cases h7 : x.kind = 7
    case neg =>
      have hq7 : (x.kind == 7) = false := by rw [beq_eq_false_iff_ne]; exact h7
      have HF := Lib.hid (show F = (u, [], 0) by rw [HF2.out, if_neg h8, if_neg h7])
      obtain ⟨w5, h5⟩ : ∃ w5, w4.setCell ⟨w1.heap.size, 0, none⟩ (.slice (some ⟨ab, aof, none⟩) L ac) = w5 := ⟨_, rfl⟩
      obtain ⟨w6, h6⟩ : ∃ w6, w5.setCell ⟨w1.heap.size, 1, none⟩ (.slice no n nc) = w6 := ⟨_, rfl⟩
      have K6 := box2_set K24.out h5 h6
      have B6 := Lib.hid (set2_below B4.out LE1.out h5 h6)
      have HU6 := Lib.hid (less_back (((HUL3.out.same (SameS.below Q4.out)).same (SameS.set HNS.out h5)).same (SameS.set HNS.out h6)))
      have t0 := (cell2 K24.out).1
      have f0 := K24.out.free 0
      have t1 := (cell2 (box2_set0 K24.out h5)).2
      have f1 := (box2_set0 K24.out h5).free 1
      obtain ⟨y0, y1⟩ := cell2 K14.out
      obtain ⟨e0, e1⟩ := cell2 K6
      clear K6 h8 h7
      go_wp2_with fail
      try simp only [Exit.inBlock, Exit.then]
      refine bodyPost_ret (v := .tuple #[.agg #[.slice (some ⟨ab, aof, none⟩) L ac, .slice no n nc], .slice none 0 0, .int .i64 0]) ?_ rfl ?_
      · simp [results, Tryz.results17, go_sem, e0, e1]
      rw [HF.out]
      refine ⟨some ⟨ab, aof, none⟩, no, ac, nc, none, 0, ?_, HU6.out, .inl rfl, Nat.le_refl _, B6.out⟩
      unfold unV
      rw [HL.out, HN.out]
      rfl
    have hq7 : (x.kind == 7) = true := by rw [beq_iff_eq]; exact h7
    have HF := Lib.hid (show F = (u, ifaceM (x.words.zip x.kids), 0) by rw [HF2.out, if_neg h8, if_pos h7])
    have HEQ := Lib.hid (HRW.out h7)
    obtain ⟨m, hm⟩ : ∃ m, x.words.length = m := ⟨_, rfl⟩
    have HM := Lib.hid hm
    have HKM := Lib.hid (show x.kids.length = m by rw [← HEQ.out, hm])
    have hmwc : m ≤ xwc := by rw [← hm]; exact HWK.out.1
    have hmkc : m ≤ xkc := by rw [← HKM.out]; exact HWK.out.2
    have hm18 : m ≤ 18 := by rw [← hm]; exact HXC3.out.ok.wl
    rw [hm] at a3 h4 KX d3
    rw [HKM.out] at a4 h4 KX d4
    obtain ⟨y0, y1⟩ := cell2 K14.out
    have HXC4 := Lib.hid (HXC3.out.below Q4.out)
    have HU4 := Lib.hid (HUL3.out.same (SameS.below Q4.out))
    have NX := Lib.hid (show w3.heap.size < w4.heap.size from KX.out.lt)
    obtain ⟨i0, hi, hz0, hz1, hz2⟩ := info_parts info_mt
    clear hm h8 h7
    go_wp2_with fail
    clear a0 a1 a2 a3 a4 c0 c1 d0 d1 d2 d3 d4 y0 y1 h4
    go_loopw [11, 54] (fun v i wr => ∃ k : Nat, k ≤ m ∧ i = .int .i64 k ∧ Hid (OwnM wr w4.heap.size v (ifaceM ((x.words.zip x.kids).take k))) ∧ Hid (Below w4.heap.size w4 wr)) (fun _ i _ => m - (intOf i).toNat)
    case atStart => exact ⟨0, Nat.zero_le _, rfl, Lib.hid (ownM_nil _ _), Lib.hid (Below.refl _ _)⟩
    case round =>
      obtain ⟨k, hk, rfl, HO, HB⟩ := hrel
      by_cases hkm : k < m
      · have hkw : k < x.words.length := by rw [HM.out]; exact hkm
        have hkk : k < x.kids.length := by rw [HKM.out]; exact hkm
        obtain ⟨wb, wof, rfl, hwb, hwcell⟩ := (HXC4.out.words.below HB.out).cells (by omega)
        obtain ⟨kb, kof, rfl, hkb, hkcell⟩ := (HXC4.out.kids.below HB.out).cells (by omega)
        have gw := hwcell k hkw
        have gk := hkcell k hkk
        rw [getD_of hkw] at gw
        rw [getD_of hkk] at gk
        have HSZ := Lib.hid (HXC4.out.ok.ws _ (List.getElem_mem hkw))
        obtain ⟨s, hs⟩ : ∃ s, x.words[k] = s := ⟨_, rfl⟩
        obtain ⟨q, hq⟩ : ∃ q, x.kids[k] = q := ⟨_, rfl⟩
        rw [hs] at gw HSZ
        rw [hq] at gk
        have HWS := Lib.hid (And.intro hs hq)
        have hl0 := ifaceM_len ((x.words.zip x.kids).take k)
        rw [List.length_take, List.length_zip, HM.out, HKM.out] at hl0
        have HNM := fun W : World => name_any s W HSZ.out
        have KX4 := (cell5 (KX.out.below HB.out)).2.2.2.2
        have hkI : (k : Int) < (m : Int) := by omega
        clear hwcell hkcell hs hq
        cases hnb : nameB s
        · have Hn := Lib.hid (ifaceM_no hkw hkk HWS.out.1 hnb)
          have HNN := Lib.hid (fun W => HNM W)
          rw [hnb] at HNN
          clear HNM HWS hkw hkk
          go_wp2_with fail
          refine (HNN.out _).mono ?_
          rintro e w5 ⟨rfl, rfl⟩
          go_wp2_with fail
          go_roundw
          case rel => exact ⟨k + 1, by omega, by go_num, Lib.hid (by rw [Hn.out]; exact HO.out), HB⟩
          case measure => first | (simp [intOf]; done) | (simp [intOf]; omega)
        · have Hn := Lib.hid (ifaceM_yes hkw hkk HWS.out.1 HWS.out.2 hnb)
          have HNN := Lib.hid (fun W => HNM W)
          rw [hnb] at HNN
          obtain ⟨xs, hxs⟩ : ∃ xs, ifaceM ((x.words.zip x.kids).take k) = xs := ⟨_, rfl⟩
          have HXS := Lib.hid hxs
          rw [hxs] at HO hl0
          obtain ⟨xl, hxl⟩ : ∃ xl, xs.length = xl := ⟨_, rfl⟩
          have HXL := Lib.hid hxl
          rw [hxl] at hl0
          have HOO := Lib.hid (show wr.ownsRow w4.heap.size 48 3 _ xl (mtC xs) by have := HO.out; unfold OwnM at this; rw [hxl] at this; exact this)
          have BZ := Lib.hid HB.out.size
          clear HNM HWS hkw hkk hxs hxl
          go_wp2_with fail
          refine (HNN.out _).mono ?_
          rintro e w5 ⟨rfl, rfl⟩
          go_wp2_with (at_builtin; refine wpList_append_own_at _ rfl _ _ 44 rfl w4.heap.size 48 i0 (.agg #[.string ⟨#[]⟩, .bool false, .int .i64 0]) 3 32 Tryz.underlying44 hi hz0 hz1 hz2 rfl (by decide) _ xl (mtC xs) rfl (HOO.out.alloc _) ⟨wr.heap.size, 0, none⟩ 1 1 (mtC1 ⟨s, false, q⟩) rfl ?c1 ?c2 ?c3 ?c4 ?c5 ?c6 ?_)
          case c1 => rfl
          case c2 => exact cell_news _ _ _
          case c3 => exact fun u hu => mtC_one [⟨s, false, q⟩] u (by unfold mtC; simpa using hu)
          case c4 => unfold maxLen; omega
          case c5 => omega
          case c6 => have := BZ.out; simp; omega
          intro v' w6 hown hgrow _ hblk
          have hp := pushM_all (r := [⟨s, false, q⟩]) (by first | (rw [HXL.out]; done) | (rw [HXL.out]; rfl)) (Nat.le_refl _) HO.out HB.out (by rw [show mtC [(⟨s, false, q⟩ : Mt)] = mtC1 ⟨s, false, q⟩ from by unfold mtC; simp]; exact hown) hgrow
          have HO2 := Lib.hid hp.1
          have HB2 := Lib.hid hp.2
          clear hown hgrow hblk hp
          go_wp2_with fail
          go_roundw
          case rel => exact ⟨k + 1, by omega, by go_num, Lib.hid (by rw [Hn.out, HXS.out]; exact HO2.out), HB2⟩
          case measure => first | (simp [intOf]; done) | (simp [intOf]; omega)
      · obtain rfl : k = m := by omega
        have hz : (x.words.zip x.kids).take k = x.words.zip x.kids := List.take_of_length_le (by rw [List.length_zip, HM.out, HKM.out]; omega)
        obtain ⟨lo, lc, hv, hmb, hlc, hba⟩ := own_mb HO.out
        subst hv
        rw [hz] at hmb hlc ⊢
        have MBF := Lib.hid hmb
        have HLC := Lib.hid hlc
        obtain ⟨ml, hml⟩ : ∃ ml, (ifaceM (x.words.zip x.kids)).length = ml := ⟨_, rfl⟩
        have HML := Lib.hid hml
        rw [hml]
        have K1r := Lib.hid (K14.out.below HB.out)
        have K2r := Lib.hid (K24.out.below HB.out)
        have Br := Lib.hid (B4.out.trans (HB.out.mono B4.out.size))
        have LT := Lib.hid (show w1.heap.size < w4.heap.size from K24.out.lt)
        obtain ⟨y0, y1⟩ := cell2 K1r.out
        obtain ⟨v1, g1⟩ : ∃ v1, wr.setCell ⟨w1.heap.size, 0, none⟩ (.slice (some ⟨ab, aof, none⟩) L ac) = v1 := ⟨_, rfl⟩
        obtain ⟨v2, g2⟩ : ∃ v2, v1.setCell ⟨w1.heap.size, 1, none⟩ (.slice no n nc) = v2 := ⟨_, rfl⟩
        have K6 := box2_set K2r.out g1 g2
        have B6 := Lib.hid (set2_below Br.out LE1.out g1 g2)
        have HU6 := Lib.hid (less_back (((HU4.out.same (SameS.below HB.out)).same (SameS.set HNS.out g1)).same (SameS.set HNS.out g2)))
        have HM6 := Lib.hid ((MBF.out.other LT.out g1).other LT.out g2)
        have t0 := (cell2 K2r.out).1
        have f0 := K2r.out.free 0
        have t1 := (cell2 (box2_set0 K2r.out g1)).2
        have f1 := (box2_set0 K2r.out g1).free 1
        obtain ⟨e0, e1⟩ := cell2 K6
        clear K6 hmb hlc hba hz hml
        go_wp2_with fail
        try simp only [Exit.inBlock, Exit.then]
        refine bodyPost_ret (v := .tuple #[.agg #[.slice (some ⟨ab, aof, none⟩) L ac, .slice no n nc], .slice lo ml lc, .int .i64 0]) ?_ rfl ?_
        · simp [results, Tryz.results17, go_sem, e0, e1]
        rw [HF.out]
        refine ⟨some ⟨ab, aof, none⟩, no, ac, nc, lo, lc, ?_, HU6.out, HM6.out.rowS (fun b hb => HSB.out b (Nat.le_trans B4.out.size hb)), HLC.out, B6.out⟩
        unfold unV
        rw [HL.out, HN.out]
        show _ = Ending.returned (.tuple #[_, .slice lo (ifaceM (x.words.zip x.kids)).length lc, _])
        rw [HML.out]
  have hq : (x.kind == 8) = true := by rw [beq_iff_eq]; exact h8
  obtain ⟨ffo, fat, flt⟩ := HFT.out h8
  have HFI0 := ufind_any u (some ⟨ab, aof, none⟩) no ac nc x.name w4 (HU3.out.out.below Q4.out) HRI.out
  obtain ⟨lo, hlo⟩ : ∃ lo, lowU (namesU u.named) x.name = lo := ⟨_, rfl⟩
  rw [hlo, ffo] at HFI0
  rw [hlo] at fat flt
  unfold unV at HFI0
  rw [HL.out, HN.out] at HFI0
  have HFI := Lib.hid HFI0
  obtain ⟨nm, hnm⟩ : ∃ nm, u.named[lo] = nm := ⟨_, rfl⟩
  have HF := Lib.hid (show F = methF x.kids nm.methods u by rw [HF2.out, if_pos h8, fat, Int.toNat_natCast, getD_of flt, hnm])
  have hln : lo < n := by rw [← HN.out]; exact flt
  have hlI : (lo : Int) < (n : Int) := by omega
  obtain ⟨b, o, rfl, hb, hc⟩ := HU3.out.out.named.cells (by omega)
  obtain ⟨bo, bc, mo, mc, n0', n1', n2', n3', hbc, hmc, hnc⟩ := hc lo flt
  rw [hnm] at n0' n1' n2' n3' hbc hmc hnc
  have NN := Lib.hid (And.intro n0' (And.intro n1' (And.intro n2' n3')))
  have NC := Lib.hid hnc
  have NL := Lib.hid hmc
  have HBL := Lib.hid hb
  obtain ⟨y0, y1⟩ := cell2 K14.out
  clear HFI0 hlo ffo fat hnm hb hc n0' n1' n2' n3' hbc hmc hnc h8
  go_wp2_with fail
  refine HFI.out.mono ?_
  rintro e w5 ⟨rfl, b5⟩
  have B5 := Lib.hid (B4.out.trans (b5.mono B4.out.size))
  have B35 := Lib.hid (Q4.out.trans (b5.mono Q4.out.size))
  have K45 := Lib.hid (K24.out.below b5)
  have HX5 := Lib.hid (KX.out.below b5)
  clear c0 c1 d0 d1 d2 d3 d4 y0 y1 a0 a1 a2 a3 a4 h4 HFI
  obtain ⟨kl, hkl⟩ : ∃ kl, x.kids.length = kl := ⟨_, rfl⟩
  have HFL0 := methodsOf_any (lessS Sb w1.heap.size w1.heap.size) u (some ⟨ab, aof, none⟩) (some ⟨b, o, none⟩) ac nc nm bo mo bc mc x.kids xk xkc w5.drew (fun bb hbb => HLS.out bb (Nat.le_trans (Nat.le_trans HSZ3.out B35.out.size) hbb)) ((HUL3.out.same (SameS.below B35.out)).same (SameS.below (Below.refl _ _).drew)) ((HE3.out.below B35.out).below (Below.refl _ _).drew) ((NC.out.methods.below B35.out).below (Below.refl _ _).drew) (by have := NC.out.ok.ml; omega) NL.out ((HXC3.out.kids.below B35.out).below (Below.refl _ _).drew) (by have := HXC3.out.ok.kl; omega) HXC3.out.ok.ks
  unfold unV nmV at HFL0
  rw [HL.out, HN.out, ← HF.out] at HFL0
  have c0 := (cell2 (K14.out.below b5)).1
  have c1 := (cell2 (K14.out.below b5)).2
  have n0 := (B35.out.cell (p := ⟨b, o + lo * 4, none⟩) HBL.out).trans NN.out.1
  have n1 := (B35.out.cell (p := ⟨b, o + lo * 4 + 1, none⟩) HBL.out).trans NN.out.2.1
  have n2 := (B35.out.cell (p := ⟨b, o + lo * 4 + 2, none⟩) HBL.out).trans NN.out.2.2.1
  have n3 := (B35.out.cell (p := ⟨b, o + lo * 4 + 3, none⟩) HBL.out).trans NN.out.2.2.2
  have d4 := (cell5 HX5.out).2.2.2.2
  rw [hkl] at HFL0 d4 HX5
  have HFL := Lib.hid HFL0
  obtain ⟨xb, hxb⟩ : ∃ xb, w3.heap.size = xb := ⟨_, rfl⟩
  obtain ⟨ub, hub⟩ : ∃ ub, w.heap.size = ub := ⟨_, rfl⟩
  obtain ⟨rb, hrb⟩ : ∃ rb, w1.heap.size = rb := ⟨_, rfl⟩
  have HUB := Lib.hid hub
  rw [hxb] at d4
  rw [hub] at c0 c1
  rw [hrb] at K45 LE1 HNS HUL HUL3 HLS
  rw [hrb] at HFL
  clear HFL0 b5
  go_upto_region 8 with fail
  clear hxb hub hrb
  refine GoG.start [(12, ⟨ub, 0, none⟩, .slice (some ⟨ab, aof, none⟩) L ac), (12, ⟨ub, 1, none⟩, .slice (some ⟨b, o, none⟩) n nc), (12, ⟨b, o + lo * 4, none⟩, .string nm.name), (12, ⟨b, o + lo * 4 + 1, none⟩, .slice bo nm.bounds.length bc), (12, ⟨b, o + lo * 4 + 2, none⟩, .int .i64 nm.under), (12, ⟨b, o + lo * 4 + 3, none⟩, .slice mo nm.methods.length mc), (12, ⟨xb, 4, none⟩, .slice xk kl xkc)] (by kernel_rfl) ?_ ?_
  · exact Keeps.cons (by first | exact c0 | assumption) (Keeps.cons (by first | exact c1 | assumption) (Keeps.cons (by first | exact n0 | assumption) (Keeps.cons (by first | exact n1 | assumption) (Keeps.cons (by first | exact n2 | assumption) (Keeps.cons (by first | exact n3 | assumption) (Keeps.cons (by first | exact d4 | assumption) (Keeps.nil)))))))
  refine GoG.take (i := 0) (v := ?_) [12] rfl (by kernel_rfl) (by kernel_rfl) (by kernel_rfl) (by kernel_rfl) (by kernel_rfl) (by kernel_rfl) (fun _ _ _ h => h) (.inl ⟨by rfl, fun WW hS => ?_⟩) ?_
  rotate_left
  · have g0 : WW.cell? ⟨ub, 0, none⟩ = some (.slice (some ⟨ab, aof, none⟩) L ac) := hS (12, ⟨ub, 0, none⟩, .slice (some ⟨ab, aof, none⟩) L ac) (by simp) (by simp)
    have g1 : WW.cell? ⟨ub, 1, none⟩ = some (.slice (some ⟨b, o, none⟩) n nc) := hS (12, ⟨ub, 1, none⟩, .slice (some ⟨b, o, none⟩) n nc) (by simp) (by simp)
    clear hS
    go_simp; try (with_reducible rfl)
  try simp only [Act.put, List.getElem_toArray, List.getElem_cons_succ, List.getElem_cons_zero, List.setIfInBounds_toArray, List.set_cons_zero, List.set_cons_succ]
  refine GoG.take (i := 1) (v := ?_) [] rfl (by kernel_rfl) (by kernel_rfl) (by kernel_rfl) (by kernel_rfl) (by kernel_rfl) (by kernel_rfl) (fun _ _ _ h => h) (yields_free (by rfl) (fun w => ?_)) ?_
  rotate_left
  · go_simp; try (with_reducible rfl)
  try simp only [Act.put, List.getElem_toArray, List.getElem_cons_succ, List.getElem_cons_zero, List.setIfInBounds_toArray, List.set_cons_zero, List.set_cons_succ]
  refine GoG.take (i := 2) (v := ?_) [12] rfl (by kernel_rfl) (by kernel_rfl) (by kernel_rfl) (by kernel_rfl) (by kernel_rfl) (by kernel_rfl) (fun _ _ _ h => h) (yields_load 12 ⟨ub, 1, none⟩ (.slice (some ⟨b, o, none⟩) n nc) (by simp) (by decide) (by rfl) (fun w hw => ?_)) ?_
  rotate_left
  · go_simp; try (with_reducible rfl)
  try simp only [Act.put, List.getElem_toArray, List.getElem_cons_succ, List.getElem_cons_zero, List.setIfInBounds_toArray, List.set_cons_zero, List.set_cons_succ]
  refine GoG.take (i := 3) (v := ?_) [] rfl (by kernel_rfl) (by kernel_rfl) (by kernel_rfl) (by kernel_rfl) (by kernel_rfl) (by kernel_rfl) (fun _ _ _ h => h) (yields_free (by rfl) (fun w => ?_)) ?_
  rotate_left
  · go_simp; try (with_reducible rfl)
  try simp only [Act.put, List.getElem_toArray, List.getElem_cons_succ, List.getElem_cons_zero, List.setIfInBounds_toArray, List.set_cons_zero, List.set_cons_succ]
  refine GoG.take (i := 4) (v := ?_) [] rfl (by kernel_rfl) (by kernel_rfl) (by kernel_rfl) (by kernel_rfl) (by kernel_rfl) (by kernel_rfl) (fun _ _ _ h => h) (yields_free (by rfl) (fun w => ?_)) ?_
  rotate_left
  · go_simp; try (with_reducible rfl)
  try simp only [Act.put, List.getElem_toArray, List.getElem_cons_succ, List.getElem_cons_zero, List.setIfInBounds_toArray, List.set_cons_zero, List.set_cons_succ]
  refine GoG.take (i := 5) (v := ?_) [12] rfl (by kernel_rfl) (by kernel_rfl) (by kernel_rfl) (by kernel_rfl) (by kernel_rfl) (by kernel_rfl) (fun _ _ _ h => h) (.inl ⟨by rfl, fun WW hS => ?_⟩) ?_
  rotate_left
  · have g0 : WW.cell? ⟨b, o + lo * 4, none⟩ = some (.string nm.name) := hS (12, ⟨b, o + lo * 4, none⟩, .string nm.name) (by simp) (by simp)
    have g1 : WW.cell? ⟨b, o + lo * 4 + 1, none⟩ = some (.slice bo nm.bounds.length bc) := hS (12, ⟨b, o + lo * 4 + 1, none⟩, .slice bo nm.bounds.length bc) (by simp) (by simp)
    have g2 : WW.cell? ⟨b, o + lo * 4 + 2, none⟩ = some (.int .i64 nm.under) := hS (12, ⟨b, o + lo * 4 + 2, none⟩, .int .i64 nm.under) (by simp) (by simp)
    have g3 : WW.cell? ⟨b, o + lo * 4 + 3, none⟩ = some (.slice mo nm.methods.length mc) := hS (12, ⟨b, o + lo * 4 + 3, none⟩, .slice mo nm.methods.length mc) (by simp) (by simp)
    clear hS
    go_simp; try (with_reducible rfl)
  try simp only [Act.put, List.getElem_toArray, List.getElem_cons_succ, List.getElem_cons_zero, List.setIfInBounds_toArray, List.set_cons_zero, List.set_cons_succ]
  refine GoG.take (i := 6) (v := ?_) [] rfl (by kernel_rfl) (by kernel_rfl) (by kernel_rfl) (by kernel_rfl) (by kernel_rfl) (by kernel_rfl) (fun _ _ _ h => h) (yields_free (by rfl) (fun w => ?_)) ?_
  rotate_left
  · go_simp; try (with_reducible rfl)
  try simp only [Act.put, List.getElem_toArray, List.getElem_cons_succ, List.getElem_cons_zero, List.setIfInBounds_toArray, List.set_cons_zero, List.set_cons_succ]
  refine GoG.take (i := 7) (v := ?_) [12] rfl (by kernel_rfl) (by kernel_rfl) (by kernel_rfl) (by kernel_rfl) (by kernel_rfl) (by kernel_rfl) (fun _ _ _ h => h) (yields_load 12 ⟨xb, 4, none⟩ (.slice xk kl xkc) (by simp) (by decide) (by rfl) (fun w hw => ?_)) ?_
  rotate_left
  · go_simp; try (with_reducible rfl)
  try simp only [Act.put, List.getElem_toArray, List.getElem_cons_succ, List.getElem_cons_zero, List.setIfInBounds_toArray, List.set_cons_zero, List.set_cons_succ]
  refine GoG.one (i := 8) rfl (by kernel_rfl) (fun K hK => ?_)
  go_simp
  refine HFL.out.mono ?_
  rintro e w7 ⟨fo, fn, fc, fnc, lo2, lc2, rfl, hF, hR, hlc, b7⟩
  unfold unV
  have B7 := Lib.hid (B5.out.drew.trans (b7.mono B5.out.drew.size))
  have K7 := Lib.hid ((K45.out.below (Below.refl _ _).drew).below b7)
  have HF := Lib.hid hF
  have HR := Lib.hid hR
  have HLC := Lib.hid hlc
  refine hK.out _ _ (Keeps.cons ((b7.cell (p := ⟨ub, 0, none⟩) (show _ < w5.heap.size from cell_ltB c0)).trans c0) (Keeps.cons ((b7.cell (p := ⟨ub, 1, none⟩) (show _ < w5.heap.size from cell_ltB c1)).trans c1) (Keeps.cons ((b7.cell (p := ⟨b, o + lo * 4, none⟩) (show _ < w5.heap.size from cell_ltB n0)).trans n0) (Keeps.cons ((b7.cell (p := ⟨b, o + lo * 4 + 1, none⟩) (show _ < w5.heap.size from cell_ltB n1)).trans n1) (Keeps.cons ((b7.cell (p := ⟨b, o + lo * 4 + 2, none⟩) (show _ < w5.heap.size from cell_ltB n2)).trans n2) (Keeps.cons ((b7.cell (p := ⟨b, o + lo * 4 + 3, none⟩) (show _ < w5.heap.size from cell_ltB n3)).trans n3) (Keeps.cons ((b7.cell (p := ⟨xb, 4, none⟩) (show _ < w5.heap.size from cell_ltB d4)).trans d4) (Keeps.nil)))))))) ?_
  clear hK K b7 hF hR hlc c0 c1 n0 n1 n2 n3 d4
  try simp only [Act.put, List.getElem_toArray, List.getElem_cons_succ, List.getElem_cons_zero, List.setIfInBounds_toArray, List.set_cons_zero, List.set_cons_succ]
  refine GoG.take (i := 9) (v := ?_) [] rfl (by kernel_rfl) (by kernel_rfl) (by kernel_rfl) (by kernel_rfl) (by kernel_rfl) (by kernel_rfl) (fun _ _ _ h => h) (yields_free (by rfl) (fun w => ?_)) ?_
  rotate_left
  · go_simp; try (with_reducible rfl)
  try simp only [Act.put, List.getElem_toArray, List.getElem_cons_succ, List.getElem_cons_zero, List.setIfInBounds_toArray, List.set_cons_zero, List.set_cons_succ]
  refine GoG.take (i := 10) (v := ?_) [] rfl (by kernel_rfl) (by kernel_rfl) (by kernel_rfl) (by kernel_rfl) (by kernel_rfl) (by kernel_rfl) (fun _ _ _ h => h) (yields_free (by rfl) (fun w => ?_)) ?_
  rotate_left
  · go_simp; try (with_reducible rfl)
  try simp only [Act.put, List.getElem_toArray, List.getElem_cons_succ, List.getElem_cons_zero, List.setIfInBounds_toArray, List.set_cons_zero, List.set_cons_succ]
  refine GoG.take (i := 11) (v := ?_) [] rfl (by kernel_rfl) (by kernel_rfl) (by kernel_rfl) (by kernel_rfl) (by kernel_rfl) (by kernel_rfl) (fun _ _ _ h => h) (yields_free (by rfl) (fun w => ?_)) ?_
  rotate_left
  · go_simp; try (with_reducible rfl)
  try simp only [Act.put, List.getElem_toArray, List.getElem_cons_succ, List.getElem_cons_zero, List.setIfInBounds_toArray, List.set_cons_zero, List.set_cons_succ]
  obtain ⟨w8, h8⟩ : ∃ w8, w7.setCell ⟨rb, 0, none⟩ (.slice fo F.1.types.length fc) = w8 := ⟨_, rfl⟩
  obtain ⟨w9, h9⟩ : ∃ w9, w8.setCell ⟨rb, 1, none⟩ (.slice fn F.1.named.length fnc) = w9 := ⟨_, rfl⟩
  have K9 := Lib.hid (box2_set K7.out h8 h9)
  have t0 := (cell2 K7.out).1
  have f0 := K7.out.free 0
  have t1 := (cell2 (box2_set0 K7.out h8)).2
  have f1 := (box2_set0 K7.out h8).free 1
  have B9 := Lib.hid (set2_below B7.out LE1.out h8 h9)
  have HF9 := Lib.hid (less_back ((HF.out.same (SameS.set HNS.out h8)).same (SameS.set HNS.out h9)))
  have HR9 := Lib.hid (mrows_sub (T := Sb) ((HR.out.same (SameS.set HNS.out h8)).same (SameS.set HNS.out h9)) (fun b _ h => h.1))
  refine GoG.one (i := 12) rfl (by kernel_rfl) (fun K hK => ?_)
  go_simp
  refine hK.out _ _ (Keeps.up (by rfl) (Keeps.up (by rfl) (Keeps.up (by rfl) (Keeps.up (by rfl) (Keeps.up (by rfl) (Keeps.up (by rfl) (Keeps.up (by rfl) (Keeps.nil)))))))) ?_
  clear hK K
  try simp only [Act.put, List.getElem_toArray, List.getElem_cons_succ, List.getElem_cons_zero, List.setIfInBounds_toArray, List.set_cons_zero, List.set_cons_succ]
  refine GoG.take (i := 13) (v := ?_) [] rfl (by kernel_rfl) (by kernel_rfl) (by kernel_rfl) (by kernel_rfl) (by kernel_rfl) (by kernel_rfl) (fun _ _ _ h => h) (yields_free (by rfl) (fun w => ?_)) ?_
  rotate_left
  · go_simp; try (with_reducible rfl)
  try simp only [Act.put, List.getElem_toArray, List.getElem_cons_succ, List.getElem_cons_zero, List.setIfInBounds_toArray, List.set_cons_zero, List.set_cons_succ]
  refine GoG.take (i := 14) (v := ?_) [] rfl (by kernel_rfl) (by kernel_rfl) (by kernel_rfl) (by kernel_rfl) (by kernel_rfl) (by kernel_rfl) (fun _ _ _ h => h) (yields_free (by rfl) (fun w => ?_)) ?_
  rotate_left
  · go_simp; try (with_reducible rfl)
  try simp only [Act.put, List.getElem_toArray, List.getElem_cons_succ, List.getElem_cons_zero, List.setIfInBounds_toArray, List.set_cons_zero, List.set_cons_succ]
  refine GoG.done (by kernel_rfl) ?_ _
  clear t0 f0 t1 f1 h8 h9
  obtain ⟨e0, e1⟩ := cell2 K9.out
  go_wp2_with fail
  try simp only [Exit.inBlock, Exit.then]
  refine bodyPost_ret (v := .tuple #[.agg #[.slice fo F.1.types.length fc, .slice fn F.1.named.length fnc], .slice lo2 F.2.1.length lc2, .int .i64 F.2.2]) ?_ rfl ?_
  · simp [results, Tryz.results17, go_sem, e0, e1]
  exact ⟨fo, fn, fc, fnc, lo2, lc2, rfl, HF9.out, HR9.out, HLC.out, B9.out⟩
end Go.Proofs.YtkmnfkhchcoamaaGreatDoor
/- What may be stays such: what a type is, its methods. -/
namespace Go.Proofs.YtkmnfkhchcoamaaGreatDoor
open Go.RowKit
set_option linter.unusedSimpArgs false
set_option linter.unusedVariables false

theorem there_right {u : Un} (h : rightU u = true) (i : Int) : thereU u i = 0 ∨ thereU u i = 8 := by
  unfold thereU
  rw [if_neg (by rw [h]; decide)]
  by_cases c : i < 0 ∨ (u.types.length : Int) ≤ i
  · rw [if_pos c]; exact .inr rfl
  · rw [if_neg c]; exact .inl rfl
theorem there_in {u : Un} (h : rightU u = true) {i : Int} (hi : inL u.types i = true) : thereU u i = 0 := by
  unfold inL at hi
  have hi := of_decide_eq_true hi
  unfold thereU
  rw [if_neg (by rw [h]; decide), if_neg (by omega)]
theorem is_in {l : List Ty} {i k : Int} (h : inL l i = true) : isB l i k = decide (kindAt l i = k) := by
  unfold isB
  rw [h, Bool.true_and]
theorem kids_arena {l : List Ty} (hr : rightT l = true) {z : Nat} (hz : z < l.length) : inArena l l[z].kids = true :=
  List.all_eq_true.2 fun k hk => by
    have := right_kids hr hz k hk
    exact decide_eq_true (by omega)
/-- What a type's name has. -/
theorem named_of {u : Un} (h : rightU u = true) {z : Nat} (hz : z < u.types.length) (h8 : u.types[z].kind = 8) :
    ∃ n, u.named.getD (atU u.named u.types[z].name).toNat ⟨⟨#[]⟩, [], 0, []⟩ = n ∧ oneU u.types n = true ∧ n.bounds.length = u.types[z].kids.length := by
  obtain ⟨h1, h2, h3⟩ := rightU_fits h hz h8
  rw [rightU_rest, Bool.and_eq_true] at h
  have g := restU_iff.1 h.2
  have hf := List.all_eq_true.1 g.2.2.2 _ (List.getElem_mem hz)
  rw [fits_found g.2.2.1 h8, Bool.and_eq_true] at hf
  rw [h2, Int.toNat_natCast]
  refine ⟨_, rfl, ?_, of_decide_eq_true hf.2⟩
  rw [getD_of h3]
  exact g.2.1 _ (List.getElem_mem h3)
/-- What a type is: may be; has no name. -/
theorem under_right {u : Un} (h : rightU u = true) (i : Int) :
    (underU u i).2.2 ≠ 1 ∧ ((underU u i).2.2 = 0 → rightU (underU u i).1 = true ∧ Ext u.types (underU u i).1.types ∧ inL (underU u i).1.types (underU u i).2.1 = true ∧ kindAt (underU u i).1.types (underU u i).2.1 ≠ 8) := by
  unfold underU
  rcases there_right h i with h0 | h0
  · rw [h0, if_neg (fun g => g rfl)]
    obtain ⟨-, hi0, hi1⟩ := thereU_zero h0
    have hr := h
    rw [rightU_rest, Bool.and_eq_true] at hr
    obtain ⟨z, rfl⟩ : ∃ z : Nat, i = (z : Int) := ⟨i.toNat, by omega⟩
    have hz : z < u.types.length := by omega
    have hin : inL u.types (z : Int) = true := by unfold inL; exact decide_eq_true (by omega)
    by_cases h8 : kindAt u.types (z : Int) ≠ 8
    · rw [if_pos h8]
      exact ⟨by show (0 : Int) ≠ 1; decide, fun _ => ⟨h, Ext.refl _, hin, h8⟩⟩
    · rw [if_neg h8]
      have h8 : kindAt u.types (z : Int) = 8 := Classical.byContradiction h8
      have hk := h8
      rw [kindAt_eq hz] at hk
      obtain ⟨n, hn, ho, hb⟩ := named_of h hz hk
      rw [Int.toNat_natCast]
      have hf : funT u.types z = u.types[z] := by unfold funT; rw [getD_of hz]
      rw [hf, hn]
      obtain ⟨-, -, hu, -, -, -⟩ := oneU_iff.1 ho
      obtain ⟨u1, u2, u3, -, -⟩ := underB_iff3.1 hu
      have hui := fit_inL u1
      rw [is_in hui] at u2 u3
      have ha := u1
      unfold fitB at ha
      rw [Bool.and_eq_true] at ha
      obtain ⟨f1, f2⟩ := fill_right h hui (ks := u.types[z].kids) (by have := of_decide_eq_true ha.2; omega) (kids_arena hr.1 hz) (of_decide_eq_false u3)
      refine ⟨f1, fun g => ?_⟩
      obtain ⟨g1, g2, -, g4, g5⟩ := f2 g
      exact ⟨g1, g2, g4, by rw [g5]; exact of_decide_eq_false u2⟩
  · rw [h0, if_pos (by decide)]
    exact ⟨by show (8 : Int) ≠ 1; decide, fun g => absurd (show (8 : Int) = 0 from g) (by decide)⟩
theorem under_again {V : Un} {n : Int} (h : rightU V = true) (hi : inL V.types n = true) (h8 : kindAt V.types n ≠ 8) : underU V n = (V, n, 0) := by
  unfold underU
  rw [there_in h hi, if_neg (fun g => g rfl), if_pos h8]
theorem byte_one {s : ByteArray} {c : UInt8} (h : s.toList = [c]) : byteAt s 0 = (c.toNat : Int) := by
  rw [ByteArray.toList_eq] at h
  unfold byteAt
  rw [← Array.getElem?_toList, h]
  rfl
theorem name_plain {s : ByteArray} (h : nameB s = true) : markB s = false := by
  unfold nameB at h
  obtain ⟨h1, -, h2, -⟩ := of_decide_eq_true h
  unfold markB
  rw [Bool.or_eq_false_iff, beq_eq_false_iff_ne, beq_eq_false_iff_ne]
  constructor
  · intro e
    rw [byte_one e] at h2
    revert h2
    decide
  · intro e
    rw [byte_one e] at h2
    revert h2
    decide
theorem rises_pair {xs : List ByteArray} (h : xs.Pairwise (fun a b => lessB a b = true)) : risesB xs = true := by
  refine rises_of fun k hk => ?_
  unfold riseB
  rw [Bool.or_eq_true]
  by_cases h0 : k = 0
  · exact .inl (decide_eq_true h0)
  · refine .inr ?_
    rw [getD_of hk, getD_of (by omega)]
    exact List.pairwise_iff_getElem.1 h (k - 1) k (by omega) hk (by omega)
/-- An interface's plain methods rise; each one's function is one. -/
theorem iface_right {l : List Ty} (hr : rightT l = true) {z : Nat} (hz : z < l.length) (h7 : l[z].kind = 7) :
    risesB ((ifaceM (l[z].words.zip l[z].kids)).map (·.name)) = true ∧ (∀ m ∈ ifaceM (l[z].words.zip l[z].kids), isB l m.sig 5 = true) ∧ (ifaceM (l[z].words.zip l[z].kids)).length ≤ 16 := by
  by_cases h22 : z < 22
  · have hw : l[z].words = [] := by
      rw [right_low hr hz h22]
      unfold bas
      split <;> rfl
    rw [hw]
    exact ⟨rfl, fun m hm => absurd hm (by unfold ifaceM; simp), by unfold ifaceM; simp⟩
  · have hm := (right_high hr hz h22).1
    unfold madeB at hm
    rw [Bool.and_eq_true] at hm
    have hm2 := hm.2
    rw [h7] at hm2
    simp only [show ¬ ((7 : Int) = 1 ∨ (7 : Int) = 2) by omega, show ¬ (7 : Int) = 3 by omega, show ¬ (7 : Int) = 4 by omega, show ¬ (7 : Int) = 5 by omega, show ¬ (7 : Int) = 6 by omega, if_false, if_true, Bool.and_eq_true, decide_eq_true_eq] at hm2
    obtain ⟨⟨a1, a2, a3, a4, a5⟩, a6⟩ := hm2
    obtain ⟨b1, b2⟩ := elems_all a5 a6
    have tl : (l.take z).length = z := by rw [List.length_take]; omega
    refine ⟨?_, fun m hm => ?_, Nat.le_trans (ifaceM_len _) (by rw [List.length_zip]; omega)⟩
    · unfold ifaceM
      rw [List.map_map]
      have hs := b2.sublist (List.filter_sublist (l := l[z].words.zip l[z].kids) (p := fun p => nameB p.1))
      refine rises_pair ?_
      rw [List.pairwise_map]
      refine (List.pairwise_iff_forall_sublist.2 fun {a b} hab => ?_)
      have hb := hab.subset (List.mem_cons_of_mem _ (List.mem_singleton.2 rfl))
      rw [List.mem_filter] at hb
      have g : nextP a b := List.pairwise_iff_forall_sublist.1 hs hab
      unfold nextP at g
      rw [if_neg (by rw [name_plain hb.2]; decide)] at g
      exact g.2
    · unfold ifaceM at hm
      obtain ⟨p, hp, rfl⟩ := List.mem_map.1 hm
      rw [List.mem_filter] at hp
      have g := b1 p hp.1
      unfold okP at g
      rw [if_neg (by rw [name_plain hp.2]; decide), Bool.and_eq_true] at g
      have g5 := of_decide_eq_true g.2
      have hk := right_kids hr hz p.2 (List.of_mem_zip hp.1).2
      unfold isB inL
      rw [(take_ext l (show z ≤ l.length by omega)).kind hk.1 (by rw [tl]; omega)]
      rw [Bool.and_eq_true]
      exact ⟨decide_eq_true (show 0 ≤ p.2 ∧ p.2 < (l.length : Int) by omega), decide_eq_true g5⟩
/-- A type's methods: what may be stays such; names rise; each is of a function. -/
theorem meth_right {u : Un} (h : rightU u = true) (i : Int) :
    (methU u i).2.2 ≠ 1 ∧ ((methU u i).2.2 = 0 → rightU (methU u i).1 = true ∧ risesB ((methU u i).2.1.map (·.name)) = true ∧ (∀ m ∈ (methU u i).2.1, isB (methU u i).1.types m.sig 5 = true) ∧ (methU u i).2.1.length ≤ 16) := by
  unfold methU
  rcases there_right h i with h0 | h0
  · rw [h0, if_neg (fun g => g rfl)]
    obtain ⟨-, hi0, hi1⟩ := thereU_zero h0
    have hr := h
    rw [rightU_rest, Bool.and_eq_true] at hr
    obtain ⟨z, rfl⟩ : ∃ z : Nat, i = (z : Int) := ⟨i.toNat, by omega⟩
    have hz : z < u.types.length := by omega
    have hf : funT u.types z = u.types[z] := by unfold funT; rw [getD_of hz]
    rw [Int.toNat_natCast, hf, kindAt_eq hz]
    by_cases h8 : u.types[z].kind = 8
    · rw [if_pos h8]
      obtain ⟨n, hn, ho, hb⟩ := named_of h hz h8
      rw [hn]
      obtain ⟨-, hl16, -, -, hm, hrise⟩ := oneU_iff.1 ho
      rw [hb] at hm
      obtain ⟨f1, f2⟩ := methF_right h (kids_arena hr.1 hz) hm
      refine ⟨f1, fun g => ?_⟩
      obtain ⟨g1, -, g3, g4⟩ := f2 g
      exact ⟨g1, by rw [g3]; exact hrise, g4, by have := congrArg List.length g3; rw [List.length_map, List.length_map] at this; omega⟩
    · rw [if_neg h8]
      by_cases h7 : u.types[z].kind = 7
      · rw [if_pos h7]
        exact ⟨by show (0 : Int) ≠ 1; decide, fun _ => ⟨h, iface_right hr.1 hz h7⟩⟩
      · rw [if_neg h7]
        exact ⟨by show (0 : Int) ≠ 1; decide, fun _ => ⟨h, rfl, fun m hm => absurd hm (by show m ∉ ([] : List Mt); simp), by show ([] : List Mt).length ≤ 16; decide⟩⟩
  · rw [h0, if_pos (by decide)]
    exact ⟨by show (8 : Int) ≠ 1; decide, fun g => absurd (show (8 : Int) = 0 from g) (by decide)⟩
end Go.Proofs.YtkmnfkhchcoamaaGreatDoor

