import Derived.Test.YtkmnfkhchcoamaaGreatDoorSubG
/- Types put instead of params: what is held of the run, and two steps as one. -/
namespace Go.Proofs.YtkmnfkhchcoamaaGreatDoor
open Go.RowKit
set_option linter.unusedSimpArgs false
set_option linter.unusedVariables false

/-- One arena ahead of the other. -/
def Ext (M N : List Ty) : Prop := N.take M.length = M ∧ M.length ≤ N.length
theorem Ext.refl (M : List Ty) : Ext M M := ⟨List.take_length, Nat.le_refl _⟩
theorem Ext.trans {M N O : List Ty} (h : Ext M N) (h2 : Ext N O) : Ext M O := by
  refine ⟨?_, Nat.le_trans h.2 h2.2⟩
  have e : O.take M.length = (O.take N.length).take M.length := by rw [List.take_take, Nat.min_eq_left h.2]
  rw [e, h2.1, h.1]
theorem Ext.get {M N : List Ty} (h : Ext M N) {j : Nat} (hj : j < M.length) : N[j]? = M[j]? := by
  have : (N.take M.length)[j]? = N[j]? := List.getElem?_take_of_lt hj
  rw [← this, h.1]
theorem Ext.fn {M N : List Ty} (h : Ext M N) {j : Nat} (hj : j < M.length) : funT N j = funT M j := by
  unfold funT
  rw [List.getD_eq_getElem?_getD, List.getD_eq_getElem?_getD, h.get hj]
theorem Ext.kind {M N : List Ty} (h : Ext M N) {k : Int} (h0 : 0 ≤ k) (hk : k < (M.length : Int)) : kindAt N k = kindAt M k := by
  unfold kindAt
  rw [h.get (by omega)]
theorem markP_none {ps : List (ByteArray × Int)} {p : Nat} (h : ∀ q ∈ ps, q.2 ≠ (p : Int)) : markP ps p = [] := by
  unfold markP
  rw [if_neg (fun g => h _ g rfl), if_neg (fun g => h _ g rfl)]
theorem termP_more {ps : List (ByteArray × Int)} {L : Nat} (h : ∀ q ∈ ps, q.2 < (L : Int)) : ∀ d, termP (L + d) ps = termP L ps
  | 0 => rfl
  | d + 1 => by
    have e : termP (L + d + 1) ps = termP (L + d) ps ++ markP ps (L + d) := by
      unfold termP
      rw [List.range_succ, List.flatMap_append]
      simp
    rw [show L + (d + 1) = L + d + 1 by omega, e, termP_more h d, markP_none (fun q hq => by have := h q hq; omega), List.append_nil]
theorem tidy_more {t : Ty} {L N : Nat} (h : ∀ k ∈ t.kids, k < (L : Int)) (hl : L ≤ N) : tidyT N t = tidyT L t := by
  obtain ⟨d, rfl⟩ : ∃ d, N = L + d := ⟨N - L, by omega⟩
  unfold tidyT
  rw [termP_more (fun q hq => h _ (List.of_mem_zip hq).2) d]
theorem swap_congr {t : Ty} {I J : Nat → Int} (h : ∀ k ∈ t.kids, I k.toNat = J k.toNat) : swapT t I = swapT t J := by
  unfold swapT
  congr 1
  exact List.map_congr_left fun k hk => h k hk
theorem new_congr {l : List Ty} {t : Ty} {I J : Nat → Int} (h : ∀ k ∈ t.kids, I k.toNat = J k.toNat) : newT l t I = newT l t J := by
  unfold newT
  rw [swap_congr h]
theorem swap_in {t : Ty} {I : Nat → Int} {L : Nat} (h : ∀ k ∈ t.kids, 0 ≤ I k.toNat ∧ I k.toNat < (L : Int)) : ∀ k ∈ (swapT t I).kids, 0 ≤ k ∧ k < (L : Int) := fun k hk => by
  obtain ⟨k1, h1, rfl⟩ := List.mem_map.1 hk
  exact h k1 h1
theorem new_ext {M N : List Ty} (hx : Ext M N) {t : Ty} {I : Nat → Int} (h : ∀ k ∈ t.kids, 0 ≤ I k.toNat ∧ I k.toNat < (M.length : Int)) : newT N t I = newT M t I := by
  unfold newT
  rw [tidy_more (fun k hk => (swap_in h k hk).2) hx.2]
theorem odd_ext {M N : List Ty} (hx : Ext M N) {t : Ty} (h : ∀ k ∈ t.kids, 0 ≤ k ∧ k < (M.length : Int)) : oddT N t = oddT M t := by
  unfold oddT
  rw [Bool.eq_iff_iff, List.any_eq_true, List.any_eq_true]
  have key : ∀ p ∈ t.words.zip t.kids, badT N p.2 = badT M p.2 := fun p hp => by
    obtain ⟨h1, h2⟩ := h _ (List.of_mem_zip hp).2
    unfold badT
    rw [hx.kind h1 h2]
  constructor
  · rintro ⟨p, hp, g⟩; exact ⟨p, hp, by rw [key p hp] at g; exact g⟩
  · rintro ⟨p, hp, g⟩; exact ⟨p, hp, by rw [key p hp]; exact g⟩
/-- What stands in a place is what was to be put in. -/
def PutOk (t : Ty) (q : Int) (M : List Ty) (I : Nat → Int) : Prop := ¬ (t.kind = 7 ∧ oddT M (swapT t I) = true) ∧ funT M q.toNat = newT M t I
theorem PutOk.ext {t : Ty} {q : Int} {M N : List Ty} {I J : Nat → Int} (h : PutOk t q M I) (hx : Ext M N) (hq : 0 ≤ q ∧ q < (M.length : Int)) (hk : ∀ k ∈ t.kids, 0 ≤ I k.toNat ∧ I k.toNat < (M.length : Int)) (hJ : ∀ k ∈ t.kids, I k.toNat = J k.toNat) : PutOk t q N J := by
  refine ⟨?_, ?_⟩
  · rw [← swap_congr hJ, odd_ext hx (swap_in hk)]
    exact h.1
  · rw [← new_congr hJ, hx.fn (by omega), new_ext hx hk]
    exact h.2
/-- What stands instead of what. -/
structure Spec (l : List Ty) (i : Nat) (args : List Int) (c : Nat) (M : List Ty) (I : Nat → Int) : Prop where
  ins : ∀ m, m < c → needD (funT l) i (i + 1) m = true → 0 ≤ I m ∧ I m < (M.length : Int)
  skip : ∀ m, m < c → needD (funT l) i (i + 1) m = true → askD (funT l) (i + 1) m = 0 → I m = (m : Int)
  param : ∀ m, m < c → needD (funT l) i (i + 1) m = true → askD (funT l) (i + 1) m ≠ 0 → (funT l m).kind = 9 → I m = args.getD (funT l m).n.toNat 0
  put : ∀ m, m < c → needD (funT l) i (i + 1) m = true → askD (funT l) (i + 1) m ≠ 0 → (funT l m).kind ≠ 9 → PutOk (funT l m) (I m) M I
theorem Spec.next {l : List Ty} (hr : rightT l = true) {i : Nat} (hi : i < l.length) {args : List Int} {c : Nat} (hc : c ≤ i) {M N : List Ty} {I : Nat → Int} (h : Spec l i args c M I) (hx : Ext M N) {v : Int}
    (hv : needD (funT l) i (i + 1) c = true → 0 ≤ v ∧ v < (N.length : Int))
    (hs : needD (funT l) i (i + 1) c = true → askD (funT l) (i + 1) c = 0 → v = (c : Int))
    (hp : needD (funT l) i (i + 1) c = true → askD (funT l) (i + 1) c ≠ 0 → (funT l c).kind = 9 → v = args.getD (funT l c).n.toNat 0)
    (hq : needD (funT l) i (i + 1) c = true → askD (funT l) (i + 1) c ≠ 0 → (funT l c).kind ≠ 9 → PutOk (funT l c) v N I) : Spec l i args (c + 1) N (updI I c v) := by
  have hk := fun_kids hr hi
  have up : ∀ m, m ≤ c → ∀ k ∈ (funT l m).kids, I k.toNat = updI I c v k.toNat := fun m hm k hkm => by
    have := hk m (by omega) k hkm
    rw [updI_ne (by omega)]
  have hin : ∀ m, m ≤ c → needD (funT l) i (i + 1) m = true → ∀ k ∈ (funT l m).kids, 0 ≤ I k.toNat ∧ I k.toNat < (M.length : Int) := fun m hm hn k hkm => by
    have := hk m (by omega) k hkm
    exact h.ins _ (by omega) (need_kid hk (by omega) hn hkm)
  have hlen := hx.2
  refine ⟨fun m hm hn => ?_, fun m hm hn ha => ?_, fun m hm hn ha h9 => ?_, fun m hm hn ha h9 => ?_⟩
  · by_cases e : m = c
    · subst e; rw [updI_at]; exact hv hn
    · rw [updI_ne e]; have := h.ins m (by omega) hn; omega
  · by_cases e : m = c
    · subst e; rw [updI_at]; exact hs hn ha
    · rw [updI_ne e]; exact h.skip m (by omega) hn ha
  · by_cases e : m = c
    · subst e; rw [updI_at]; exact hp hn ha h9
    · rw [updI_ne e]; exact h.param m (by omega) hn ha h9
  · by_cases e : m = c
    · subst e
      rw [updI_at]
      have g := hq hn ha h9
      refine ⟨?_, ?_⟩
      · rw [← swap_congr (up m (Nat.le_refl _))]; exact g.1
      · rw [← new_congr (up m (Nat.le_refl _))]; exact g.2
    · rw [updI_ne e]
      exact (h.put m (by omega) hn ha h9).ext hx (h.ins m (by omega) hn) (hin m (by omega) hn) (up m (by omega))
theorem runS_ok {l : List Ty} {i : Nat} {args : List Int} {c : Nat} (he : (runT l i args (c + 1)).err = 0) : (runT l i args c).err = 0 := Classical.byContradiction fun g => by
  rw [run_step, stepS_err g] at he
  exact g he
/-- What is held of a run that went well. -/
theorem spec_run {l : List Ty} (hr : rightT l = true) {i : Nat} (hi : i < l.length) {args : List Int} (hin : inArena l args = true) (ha : ¬ (args.length : Int) < askD (funT l) (i + 1) i) :
    ∀ c, c ≤ i + 1 → (runT l i args c).err = 0 → Spec l i args c (runT l i args c).now (runT l i args c).ins
  | 0, _, _ => ⟨fun m hm => absurd hm (Nat.not_lt_zero _), fun m hm => absurd hm (Nat.not_lt_zero _), fun m hm => absurd hm (Nat.not_lt_zero _), fun m hm => absurd hm (Nat.not_lt_zero _)⟩
  | c + 1, hc, he => by
    have h0 := runS_ok he
    have ih := spec_run hr hi hin ha c (by omega) h0
    have hI := inv_run hr hi hin ha c (by omega) h0
    have hlen := hI.len
    rw [run_step] at he ⊢
    obtain ⟨s, hs⟩ : ∃ s, runT l i args c = s := ⟨_, rfl⟩
    rw [hs] at he ih hI h0 hlen ⊢
    by_cases hsk : needD (funT l) i (i + 1) c = false ∨ askD (funT l) (i + 1) c = 0
    · rw [stepS_skip h0 hsk]
      refine ih.next hr hi (by omega) (Ext.refl _) (fun _ => by omega) (fun _ _ => rfl) (fun hn h1 => ?_) (fun hn h1 => ?_)
      · rcases hsk with g | g
        · rw [hn] at g; cases g
        · exact absurd g h1
      · rcases hsk with g | g
        · rw [hn] at g; cases g
        · exact absurd g h1
    · have hn : needD (funT l) i (i + 1) c = true := by
        cases hh : needD (funT l) i (i + 1) c
        · exact absurd (.inl hh) hsk
        · rfl
      have hA : ¬ askD (funT l) (i + 1) c = 0 := fun g => hsk (.inr g)
      by_cases h9 : (funT l c).kind = 9
      · rw [stepS_param h0 hn hA h9]
        obtain ⟨g1, g2⟩ := param_in hr hi (by omega) hn h9 ha
        have := in_arena hin (k := (funT l c).n.toNat) (by omega)
        exact ih.next hr hi (by omega) (Ext.refl _) (fun _ => by omega) (fun _ g => absurd g hA) (fun _ _ _ => rfl) (fun _ _ g => absurd h9 g)
      · by_cases hp : (putT s.now (funT l c) s.ins).2.2 = 0
        · obtain ⟨ho, M, p, hpM, e, hMp, hR, hT, hL, -⟩ := put_good hI.right hp
          rw [stepS_put h0 hn hA h9 e]
          have hx : Ext s.now M := ⟨hT, hL⟩
          have hkk : ∀ k ∈ (funT l c).kids, 0 ≤ s.ins k.toNat ∧ s.ins k.toNat < (s.now.length : Int) := fun k hkm => by
            have := fun_kids hr hi c (by omega) k hkm
            exact ih.ins _ (by omega) (need_kid (fun_kids hr hi) (by omega) hn hkm)
          refine ih.next hr hi (by omega) hx (fun _ => by omega) (fun _ g => absurd g hA) (fun _ _ g => absurd g h9) (fun _ _ _ => ⟨?_, ?_⟩)
          · rw [odd_ext hx (swap_in hkk)]; exact ho
          · rw [new_ext hx hkk, Int.toNat_natCast]
            unfold funT
            rw [getD_of hpM]
            exact hMp
        · exfalso
          obtain ⟨M, p, e'⟩ : ∃ M p, putT s.now (funT l c) s.ins = (M, p, (putT s.now (funT l c) s.ins).2.2) := ⟨_, _, rfl⟩
          rw [stepS_fail h0 hn hA h9 e' hp] at he
          exact hp he
/-- A run in an arena where all that is put in stands already. -/
theorem run_stays {M : List Ty} (hr : rightT M = true) {i : Nat} (hi : i < M.length) {args : List Int} {J : Nat → Int} (hS : Spec M i args (i + 1) M J) :
    ∀ c, c ≤ i + 1 → (runT M i args c).err = 0 ∧ (runT M i args c).now = M ∧ ∀ m, m < c → needD (funT M) i (i + 1) m = true → (runT M i args c).ins m = J m
  | 0, _ => ⟨rfl, rfl, fun m hm => absurd hm (Nat.not_lt_zero _)⟩
  | c + 1, hc => by
    obtain ⟨h0, hN, hI⟩ := run_stays hr hi hS c (by omega)
    have upd : ∀ v, (needD (funT M) i (i + 1) c = true → v = J c) → ∀ m, m < c + 1 → needD (funT M) i (i + 1) m = true → updI (runT M i args c).ins c v m = J m := fun v hv m hm hn => by
      by_cases e : m = c
      · subst e; rw [updI_at]; exact hv hn
      · rw [updI_ne e]; exact hI m (by omega) hn
    rw [run_step]
    by_cases hsk : needD (funT M) i (i + 1) c = false ∨ askD (funT M) (i + 1) c = 0
    · rw [stepS_skip h0 hsk]
      refine ⟨rfl, hN, upd _ (fun hn => ?_)⟩
      rcases hsk with g | g
      · rw [hn] at g; cases g
      · exact (hS.skip c (by omega) hn g).symm
    · have hn : needD (funT M) i (i + 1) c = true := by
        cases hh : needD (funT M) i (i + 1) c
        · exact absurd (.inl hh) hsk
        · rfl
      have hA : ¬ askD (funT M) (i + 1) c = 0 := fun g => hsk (.inr g)
      by_cases h9 : (funT M c).kind = 9
      · rw [stepS_param h0 hn hA h9]
        exact ⟨rfl, hN, upd _ (fun _ => (hS.param c (by omega) hn hA h9).symm)⟩
      · have hP := hS.put c (by omega) hn hA h9
        have hB := hS.ins c (by omega) hn
        have hcg : ∀ k ∈ (funT M c).kids, (runT M i args c).ins k.toNat = J k.toNat := fun k hkm => by
          have := fun_kids hr hi c (by omega) k hkm
          exact hI _ (by omega) (need_kid (fun_kids hr hi) (by omega) hn hkm)
        have hput : putT (runT M i args c).now (funT M c) (runT M i args c).ins = (M, J c, 0) := by
          rw [hN, put_add (by rw [swap_congr hcg]; exact hP.1), new_congr hcg]
          have hj : (J c).toNat < M.length := by omega
          have e : M[(J c).toNat] = newT M (funT M c) J := by
            have := hP.2
            unfold funT at this ⊢
            rw [getD_of hj] at this
            exact this
          have h1 := at_of hr hj e
          unfold addT
          rw [if_pos (by rw [h1]; omega), h1]
          congr 2
          omega
        rw [stepS_put h0 hn hA h9 hput]
        exact ⟨rfl, rfl, upd _ (fun _ => rfl)⟩
theorem subst_stays {M : List Ty} (hr : rightT M = true) {i : Nat} (hi : i < M.length) {args : List Int} {J : Nat → Int} (ha : ¬ (args.length : Int) < askD (funT M) (i + 1) i) (hin : inArena M args = true) (hS : Spec M i args (i + 1) M J) : substT M i args = (M, J i, 0) := by
  obtain ⟨h1, h2, h3⟩ := run_stays hr hi hS (i + 1) (Nat.le_refl _)
  rw [sub_ok ha hin rfl h1, h2, h3 i (by omega) (needD_self _ _ _)]
end Go.Proofs.YtkmnfkhchcoamaaGreatDoor
/- Two steps as one. -/
namespace Go.Proofs.YtkmnfkhchcoamaaGreatDoor
open Go.RowKit
set_option linter.unusedSimpArgs false
set_option linter.unusedVariables false

theorem ask_same {f g : Nat → Ty} : ∀ {c : Nat}, (∀ j, j < c → f j = g j) → askD f c = askD g c
  | 0, _ => rfl
  | c + 1, h => by
    have ih := ask_same (c := c) (fun j hj => h j (by omega))
    funext m
    show (if m = c then _ else _) = (if m = c then _ else _)
    rw [ih, h c (by omega)]
/-- A param is nothing but its number. -/
theorem param_bare {l : List Ty} (hr : rightT l = true) {j : Nat} (hj : j < l.length) (h9 : l[j].kind = 9) : l[j] = ⟨9, ⟨#[]⟩, l[j].n, [], []⟩ := by
  by_cases h22 : j < 22
  · exfalso
    rw [right_low hr hj h22] at h9
    unfold bas at h9
    split at h9 <;> simp at h9
  · have hm := (right_high hr hj h22).1
    unfold madeB at hm
    rw [Bool.and_eq_true] at hm
    have hm := hm.2
    obtain ⟨t, ht⟩ : ∃ t, l[j] = t := ⟨_, rfl⟩
    rw [ht] at hm h9 ⊢
    obtain ⟨k, nm, n, ws, ks⟩ := t
    have h9 : k = 9 := h9
    subst h9
    simp [bareB] at hm
    obtain ⟨⟨h1, h2⟩, h3, -⟩ := hm
    rw [h2, h3]
    congr 1
/-- A row of terms and others, tidied; with others instead. -/
def tidP (L : Nat) (ps : List (ByteArray × Int)) : List (ByteArray × Int) := (ps.filter fun p => !markB p.1) ++ termP L ps
def mapP (J : Nat → Int) (ps : List (ByteArray × Int)) : List (ByteArray × Int) := ps.map fun p => (p.1, J p.2.toNat)
theorem zip_swap (t : Ty) (J : Nat → Int) : (swapT t J).words.zip (swapT t J).kids = mapP J (t.words.zip t.kids) := by
  show t.words.zip (t.kids.map fun k => J k.toNat) = _
  rw [List.zip_map_right]
  rfl
theorem tidy_pairs (L : Nat) (t : Ty) : tidyT L t = { t with words := (tidP L (t.words.zip t.kids)).map (·.1), kids := (tidP L (t.words.zip t.kids)).map (·.2) } := rfl
theorem word_inj {a b : Bool} (h : wordOf a = wordOf b) : a = b := by
  cases a <;> cases b <;> first | rfl | (exfalso; revert h; decide)
theorem word_mark (b : Bool) : markB (wordOf b) = true := by
  cases b <;> (unfold markB; rw [ByteArray.toList_eq]; decide)
theorem mem_term {L : Nat} {ps : List (ByteArray × Int)} (hk : ∀ p ∈ ps, 0 ≤ p.2 ∧ p.2 < (L : Int)) (b : Bool) (q : Int) : (wordOf b, q) ∈ termP L ps ↔ (wordOf b, q) ∈ ps ∧ (b = true ∨ (wordOf true, q) ∉ ps) := by
  have hm : ∀ z ∈ marksB ps, 0 ≤ z.2 ∧ z.2 < (L : Int) := fun z hz => hk (wordOf z.1, z.2) (mem_marks.1 hz)
  rw [termP_marks, List.mem_map]
  constructor
  · rintro ⟨⟨c, k⟩, hx, e⟩
    injection e with e1 e2
    have e1 := word_inj e1
    have e2 : k = q := e2
    subst e1
    subst e2
    have := (termQ_iff hm (c, k)).1 hx
    exact ⟨mem_marks.1 this.1, this.2.imp id (fun g h => g (mem_marks.2 h))⟩
  · rintro ⟨h1, h2⟩
    exact ⟨(b, q), (termQ_iff hm (b, q)).2 ⟨mem_marks.2 h1, h2.imp id (fun g h => g (mem_marks.1 h))⟩, rfl⟩
theorem term_marked {L : Nat} {ps : List (ByteArray × Int)} {p : ByteArray × Int} (h : p ∈ termP L ps) : markB p.1 = true := by
  rw [termP_marks, List.mem_map] at h
  obtain ⟨x, _, rfl⟩ := h
  exact word_mark x.1
theorem filter_mapP (J : Nat → Int) (ps : List (ByteArray × Int)) : (mapP J ps).filter (fun p => !markB p.1) = mapP J (ps.filter fun p => !markB p.1) := by
  unfold mapP
  rw [List.filter_map]
  rfl
end Go.Proofs.YtkmnfkhchcoamaaGreatDoor
/- Two steps as one, and what stays. -/
namespace Go.Proofs.YtkmnfkhchcoamaaGreatDoor
open Go.RowKit
set_option linter.unusedSimpArgs false
set_option linter.unusedVariables false

/-- What is told of a run by its outcome. -/
structure Went (l : List Ty) (i : Nat) (args : List Int) (M : List Ty) (I : Nat → Int) : Prop where
  few : ¬ (args.length : Int) < askD (funT l) (i + 1) i
  inn : inArena l args = true
  spec : Spec l i args (i + 1) M I
  right : rightT M = true
  ext : Ext l M
end Go.Proofs.YtkmnfkhchcoamaaGreatDoor
/- Each param instead of itself: all stays. -/
namespace Go.Proofs.YtkmnfkhchcoamaaGreatDoor
open Go.RowKit
set_option linter.unusedSimpArgs false
set_option linter.unusedVariables false

/-- Behind a term there are terms of later kids alone. -/
def TermR (p q : ByteArray × Int) : Prop := markB p.1 = true → markB q.1 = true ∧ p.2 < q.2
theorem marks_strict : ∀ {ps : List (ByteArray × Int)}, ps.Pairwise TermR → (marksB ps).Pairwise fun x y => x.2 < y.2
  | [], _ => List.Pairwise.nil
  | p :: r, h => by
    rw [List.pairwise_cons] at h
    have ih := marks_strict h.2
    unfold marksB at *
    rw [List.filter_cons]
    cases hm : markB p.1
    · simpa using ih
    · rw [if_pos rfl, List.map_cons, List.pairwise_cons]
      refine ⟨fun y hy => ?_, ih⟩
      obtain ⟨q, hq, rfl⟩ := List.mem_map.1 hy
      exact (h.1 q (List.mem_filter.1 hq).1 hm).2
theorem parts_whole : ∀ {ps : List (ByteArray × Int)}, ps.Pairwise TermR → (ps.filter fun p => !markB p.1) ++ (ps.filter fun p => markB p.1) = ps
  | [], _ => rfl
  | p :: r, h => by
    rw [List.pairwise_cons] at h
    have ih := parts_whole h.2
    rw [List.filter_cons, List.filter_cons]
    cases hm : markB p.1
    · simpa using ih
    · have h1 : (r.filter fun p => !markB p.1) = [] := List.filter_eq_nil_iff.2 (fun q hq => by rw [(h.1 q hq hm).1]; decide)
      rw [h1] at ih ⊢
      simpa using ih
theorem term_marks {L : Nat} {ps : List (ByteArray × Int)} (hk : ∀ p ∈ ps, 0 ≤ p.2 ∧ p.2 < (L : Int)) (h : ps.Pairwise TermR) : termP L ps = ps.filter fun p => markB p.1 := by
  have hm : ∀ z ∈ marksB ps, 0 ≤ z.2 ∧ z.2 < (L : Int) := fun z hz => hk (wordOf z.1, z.2) (mem_marks.1 hz)
  have hs := marks_strict h
  have e : termQ L (marksB ps) = marksB ps := by
    refine strict_eq (termQ_strict _ L) hs (fun z => ?_)
    rw [termQ_iff hm]
    refine ⟨fun g => g.1, fun g => ⟨g, ?_⟩⟩
    obtain ⟨b, k⟩ := z
    cases b
    · right
      intro g2
      obtain ⟨i, hi, ei⟩ := List.getElem_of_mem g
      obtain ⟨j, hj, ej⟩ := List.getElem_of_mem g2
      have hp := List.pairwise_iff_getElem.1 hs
      rcases Nat.lt_trichotomy i j with c | c | c
      · have := hp i j hi hj c
        rw [ei, ej] at this
        exact absurd this (Int.lt_irrefl _)
      · subst c
        rw [ei] at ej
        cases ej
      · have := hp j i hj hi c
        rw [ei, ej] at this
        exact absurd this (Int.lt_irrefl _)
    · exact .inl rfl
  rw [termP_marks, e]
  unfold marksB
  rw [List.map_map]
  conv => rhs; rw [← List.map_id (ps.filter fun p => markB p.1)]
  refine List.map_congr_left (fun p hp => ?_)
  have := mark_word (List.mem_filter.1 hp).2
  show (wordOf (decide (p.1 = tiW)), p.2) = p
  rw [← this]
theorem tidP_stays {L : Nat} {ps : List (ByteArray × Int)} (hk : ∀ p ∈ ps, 0 ≤ p.2 ∧ p.2 < (L : Int)) (h : ps.Pairwise TermR) : tidP L ps = ps := by
  unfold tidP
  rw [term_marks hk h, parts_whole h]
theorem elem_step {l : List Ty} {n : Int} {ws : List ByteArray} {ks : List Int} (h : elemsB l n ws ks = true) {i : Nat} (hi : i < ws.length) : elemB l n (aheadOf ws ks i) (ws.getD i ⟨#[]⟩) (ks.getD i 0) = true := by
  unfold elemsB at h
  exact List.all_eq_true.1 h i (List.mem_range.2 hi)
theorem elem_next {l : List Ty} {n : Int} {v w : ByteArray} {j k : Int} (h : elemB l n (some (v, j)) w k = true) : TermR (v, j) (w, k) := fun hv => by
  have hv : markB v = true := hv
  unfold elemB at h
  by_cases hw : markB w = true
  · rw [if_pos hw] at h
    simp only [hv, Bool.true_and, Bool.and_eq_true] at h
    have := h.2
    simp at this
    exact ⟨hw, by show j < k; omega⟩
  · rw [if_neg hw] at h
    simp [hv] at h
theorem elems_pairs {l : List Ty} {n : Int} {ws : List ByteArray} {ks : List Int} (hl : ws.length = ks.length) (h : elemsB l n ws ks = true) : (ws.zip ks).Pairwise TermR := by
  rw [List.pairwise_iff_getElem]
  have hz : (ws.zip ks).length = ws.length := by rw [List.length_zip]; omega
  have step : ∀ b (hb : b + 1 < (ws.zip ks).length), TermR ((ws.zip ks)[b]'(by omega)) (ws.zip ks)[b + 1] := fun b hb => by
    have h1 := elem_step h (i := b + 1) (by omega)
    unfold aheadOf at h1
    rw [if_neg (by omega), Nat.add_sub_cancel] at h1
    have h2 := elem_next h1
    rw [getD_of (show b < ws.length by omega), getD_of (show b + 1 < ws.length by omega), getD_of (show b < ks.length by omega), getD_of (show b + 1 < ks.length by omega)] at h2
    rw [List.getElem_zip, List.getElem_zip]
    exact h2
  have all : ∀ b a (ha : a < b) (hb : b < (ws.zip ks).length), TermR ((ws.zip ks)[a]'(by omega)) (ws.zip ks)[b] := fun b => by
    induction b with
    | zero => intro a ha; omega
    | succ b ih =>
      intro a ha hb hm
      have hs := step b hb
      rcases Nat.lt_or_eq_of_le (Nat.le_of_lt_succ ha) with c | c
      · have h1 := ih a c (by omega) hm
        have h2 := hs h1.1
        exact ⟨h2.1, Int.lt_trans h1.2 h2.2⟩
      · subst c
        exact hs hm
  exact fun a b ha hb hab => all b a hab hb
theorem elems_odd {l : List Ty} {n : Int} {ws : List ByteArray} {ks : List Int} (hl : ws.length = ks.length) (h : elemsB l n ws ks = true) : ∀ p ∈ ws.zip ks, markB p.1 = true → kindAt l p.2 ≠ 7 ∧ kindAt l p.2 ≠ 9 ∧ ¬ (14 ≤ p.2 ∧ p.2 ≤ 19) := fun p hp hm => by
  obtain ⟨i, hi, rfl⟩ := List.getElem_of_mem hp
  have hz : (ws.zip ks).length = ws.length := by rw [List.length_zip]; omega
  have h1 := elem_step h (i := i) (by omega)
  rw [getD_of (show i < ws.length by omega), getD_of (show i < ks.length by omega)] at h1
  rw [List.getElem_zip] at hm ⊢
  unfold elemB at h1
  rw [if_pos hm, Bool.and_eq_true] at h1
  exact (of_decide_eq_true h1.1).2
theorem take_ext (l : List Ty) {c : Nat} (hc : c ≤ l.length) : Ext (l.take c) l := by
  have e : (l.take c).length = c := by rw [List.length_take]; omega
  exact ⟨by rw [e], by rw [e]; exact hc⟩
/-- An interface that stands is tidy. -/
theorem right_tidy {l : List Ty} (hr : rightT l = true) {j : Nat} (hj : j < l.length) (h7 : l[j].kind = 7) : (l[j].words.zip l[j].kids).Pairwise TermR ∧ oddT l l[j] = false := by
  have hlen := kind7_len hr hj h7
  by_cases h22 : j < 22
  · have e : l[j].words = [] := by
      rw [right_low hr hj h22]
      unfold bas
      split <;> rfl
    unfold oddT
    rw [e]
    exact ⟨List.Pairwise.nil, rfl⟩
  · have hm := (right_high hr hj h22).1
    have hk := right_kids hr hj
    unfold madeB at hm
    rw [Bool.and_eq_true] at hm
    have hm := hm.2
    rw [h7] at hm
    simp at hm
    refine ⟨elems_pairs hlen hm.2, ?_⟩
    have ho := elems_odd hlen hm.2
    unfold oddT
    rw [List.any_eq_false]
    intro p hp
    cases hmk : markB p.1
    · simp
    · have g := ho p hp hmk
      have hb := hk _ (List.of_mem_zip hp).2
      have ek := (take_ext l (c := j) (by omega)).kind (k := p.2) hb.1 (by rw [List.length_take]; omega)
      unfold badT
      rw [ek]
      simp only [Bool.true_and, decide_eq_true_eq]
      intro g2
      rcases g2 with g2 | g2 | g2
      · exact g.1 g2
      · exact g.2.1 g2
      · exact g.2.2 g2
theorem swap_self {t : Ty} (h : ∀ k ∈ t.kids, 0 ≤ k) : swapT t (fun m => (m : Int)) = t := by
  obtain ⟨kd, nm, n, ws, ks⟩ := t
  unfold swapT
  congr 1
  conv => rhs; rw [← List.map_id ks]
  refine List.map_congr_left (fun k hk => ?_)
  have := h k hk
  show ((k.toNat : Nat) : Int) = k
  omega
theorem tidy_self {l : List Ty} (hr : rightT l = true) {j : Nat} (hj : j < l.length) (h7 : l[j].kind = 7) : tidyT l.length l[j] = l[j] := by
  have hlen := kind7_len hr hj h7
  have hp := (right_tidy hr hj h7).1
  have hk := right_kids hr hj
  rw [tidy_pairs, tidP_stays (fun p hp => by have := hk _ (List.of_mem_zip hp).2; omega) hp]
  obtain ⟨t, ht⟩ : ∃ t, l[j] = t := ⟨_, rfl⟩
  rw [ht] at hlen ⊢
  obtain ⟨kd, nm, n, ws, ks⟩ := t
  have hlen : ws.length = ks.length := hlen
  show (⟨kd, nm, n, (ws.zip ks).map Prod.fst, (ws.zip ks).map Prod.snd⟩ : Ty) = _
  rw [List.map_fst_zip (by omega), List.map_snd_zip (by omega)]
/-- Each param instead of itself. -/
theorem sub_self {l : List Ty} (hr : rightT l = true) {i : Nat} (hi : i < l.length) {self : List Int} (ha : askD (funT l) (i + 1) i ≤ (self.length : Int)) (hs : ∀ k : Nat, k < self.length → 0 ≤ self.getD k 0 ∧ self.getD k 0 < (l.length : Int) ∧ funT l (self.getD k 0).toNat = ⟨9, ⟨#[]⟩, (k : Int), [], []⟩) :
    substT l i self = (l, (i : Int), 0) := by
  have hfew : ¬ (self.length : Int) < askD (funT l) (i + 1) i := by omega
  have hkl := fun_kids hr hi
  refine subst_stays (J := fun m => (m : Int)) hr hi hfew (all_arena fun j hj => ⟨(hs j hj).1, (hs j hj).2.1⟩) ⟨fun m hm _ => by show 0 ≤ (m : Int) ∧ (m : Int) < _; omega, fun _ _ _ _ => rfl, fun m hm hn _ h9 => ?_, fun m hm hn _ h9 => ?_⟩
  · obtain ⟨g1, g2⟩ := param_in hr hi (by omega) hn h9 hfew
    obtain ⟨s1, s2, s3⟩ := hs (funT l m).n.toNat (by omega)
    have hml : m < l.length := by omega
    have e1 : funT l m = l[m] := getD_of hml
    rw [e1] at h9 g1 s1 s2 s3 ⊢
    have e2 := param_bare hr hml h9
    have hpl : (self.getD l[m].n.toNat 0).toNat < l.length := by omega
    have e3 : funT l (self.getD l[m].n.toNat 0).toNat = l[(self.getD l[m].n.toNat 0).toNat] := getD_of hpl
    rw [e3] at s3
    have e4 : ((l[m].n.toNat : Nat) : Int) = l[m].n := by omega
    rw [e4, ← e2] at s3
    have := right_once hr hpl hml s3
    show (m : Int) = self.getD l[m].n.toNat 0
    omega
  · have hml : m < l.length := by omega
    have e1 : funT l m = l[m] := getD_of hml
    have hk0 : ∀ k ∈ (funT l m).kids, 0 ≤ k := fun k hk => (hkl m (by omega) k hk).1
    refine ⟨fun g => ?_, ?_⟩
    · rw [swap_self hk0, e1] at g
      rw [(right_tidy hr hml g.1).2] at g
      cases g.2
    · show funT l ((m : Int)).toNat = newT l (funT l m) fun m => (m : Int)
      rw [Int.toNat_natCast]
      unfold newT
      rw [swap_self hk0]
      by_cases h7 : (funT l m).kind = 7
      · rw [if_pos h7, e1, tidy_self hr hml (by rw [e1] at h7; exact h7)]
      · rw [if_neg h7]
end Go.Proofs.YtkmnfkhchcoamaaGreatDoor

