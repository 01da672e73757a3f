import Derived.Test.YtleiaghegokjkaaGreatDoorSubG
/- Types put instead of params: what is held of the run, and two steps as one. -/
namespace Go.Proofs.YtleiaghegokjkaaGreatDoor
open Go.RowKit
set_option linter.unusedSimpArgs false
set_option linter.unusedVariables false

/-- One arena ahead of the other. -/
def Ext (M N : List Ty) : Prop := N.take M.length = M ∧ M.length ≤ N.length
theorem Ext.refl (M : List Ty) : Ext M M := ⟨List.take_length, Nat.le_refl _⟩
theorem Ext.trans {M N O : List Ty} (h : Ext M N) (h2 : Ext N O) : Ext M O := by
  refine ⟨?_, Nat.le_trans h.2 h2.2⟩
  have e : O.take M.length = (O.take N.length).take M.length := by rw [List.take_take, Nat.min_eq_left h.2]
  rw [e, h2.1, h.1]
theorem Ext.get {M N : List Ty} (h : Ext M N) {j : Nat} (hj : j < M.length) : N[j]? = M[j]? := by
  have : (N.take M.length)[j]? = N[j]? := List.getElem?_take_of_lt hj
  rw [← this, h.1]
theorem Ext.fn {M N : List Ty} (h : Ext M N) {j : Nat} (hj : j < M.length) : funT N j = funT M j := by
  unfold funT
  rw [List.getD_eq_getElem?_getD, List.getD_eq_getElem?_getD, h.get hj]
theorem Ext.kind {M N : List Ty} (h : Ext M N) {k : Int} (h0 : 0 ≤ k) (hk : k < (M.length : Int)) : kindAt N k = kindAt M k := by
  unfold kindAt
  rw [h.get (by omega)]
theorem markP_none {ps : List (ByteArray × Int)} {p : Nat} (h : ∀ q ∈ ps, q.2 ≠ (p : Int)) : markP ps p = [] := by
  unfold markP
  rw [if_neg (fun g => h _ g rfl), if_neg (fun g => h _ g rfl)]
theorem termP_more {ps : List (ByteArray × Int)} {L : Nat} (h : ∀ q ∈ ps, q.2 < (L : Int)) : ∀ d, termP (L + d) ps = termP L ps
  | 0 => rfl
  | d + 1 => by
    have e : termP (L + d + 1) ps = termP (L + d) ps ++ markP ps (L + d) := by
      unfold termP
      rw [List.range_succ, List.flatMap_append]
      simp
    rw [show L + (d + 1) = L + d + 1 by omega, e, termP_more h d, markP_none (fun q hq => by have := h q hq; omega), List.append_nil]
theorem tidy_more {t : Ty} {L N : Nat} (h : ∀ k ∈ t.kids, k < (L : Int)) (hl : L ≤ N) : tidyT N t = tidyT L t := by
  obtain ⟨d, rfl⟩ : ∃ d, N = L + d := ⟨N - L, by omega⟩
  unfold tidyT
  rw [termP_more (fun q hq => h _ (List.of_mem_zip hq).2) d]
theorem swap_congr {t : Ty} {I J : Nat → Int} (h : ∀ k ∈ t.kids, I k.toNat = J k.toNat) : swapT t I = swapT t J := by
  unfold swapT
  congr 1
  exact List.map_congr_left fun k hk => h k hk
theorem new_congr {l : List Ty} {t : Ty} {I J : Nat → Int} (h : ∀ k ∈ t.kids, I k.toNat = J k.toNat) : newT l t I = newT l t J := by
  unfold newT
  rw [swap_congr h]
theorem swap_in {t : Ty} {I : Nat → Int} {L : Nat} (h : ∀ k ∈ t.kids, 0 ≤ I k.toNat ∧ I k.toNat < (L : Int)) : ∀ k ∈ (swapT t I).kids, 0 ≤ k ∧ k < (L : Int) := fun k hk => by
  obtain ⟨k1, h1, rfl⟩ := List.mem_map.1 hk
  exact h k1 h1
theorem new_ext {M N : List Ty} (hx : Ext M N) {t : Ty} {I : Nat → Int} (h : ∀ k ∈ t.kids, 0 ≤ I k.toNat ∧ I k.toNat < (M.length : Int)) : newT N t I = newT M t I := by
  unfold newT
  rw [tidy_more (fun k hk => (swap_in h k hk).2) hx.2]
theorem odd_ext {M N : List Ty} (hx : Ext M N) {t : Ty} (h : ∀ k ∈ t.kids, 0 ≤ k ∧ k < (M.length : Int)) : oddT N t = oddT M t := by
  unfold oddT
  rw [Bool.eq_iff_iff, List.any_eq_true, List.any_eq_true]
  have key : ∀ p ∈ t.words.zip t.kids, badT N p.2 = badT M p.2 := fun p hp => by
    obtain ⟨h1, h2⟩ := h _ (List.of_mem_zip hp).2
    unfold badT
    rw [hx.kind h1 h2]
  constructor
  · rintro ⟨p, hp, g⟩; exact ⟨p, hp, by rw [key p hp] at g; exact g⟩
  · rintro ⟨p, hp, g⟩; exact ⟨p, hp, by rw [key p hp]; exact g⟩
/-- What stands in a place is what was to be put in. -/
def PutOk (t : Ty) (q : Int) (M : List Ty) (I : Nat → Int) : Prop := ¬ (t.kind = 7 ∧ oddT M (swapT t I) = true) ∧ funT M q.toNat = newT M t I
theorem PutOk.ext {t : Ty} {q : Int} {M N : List Ty} {I J : Nat → Int} (h : PutOk t q M I) (hx : Ext M N) (hq : 0 ≤ q ∧ q < (M.length : Int)) (hk : ∀ k ∈ t.kids, 0 ≤ I k.toNat ∧ I k.toNat < (M.length : Int)) (hJ : ∀ k ∈ t.kids, I k.toNat = J k.toNat) : PutOk t q N J := by
  refine ⟨?_, ?_⟩
  · rw [← swap_congr hJ, odd_ext hx (swap_in hk)]
    exact h.1
  · rw [← new_congr hJ, hx.fn (by omega), new_ext hx hk]
    exact h.2
/-- What stands instead of what. -/
structure Spec (l : List Ty) (i : Nat) (args : List Int) (c : Nat) (M : List Ty) (I : Nat → Int) : Prop where
  ins : ∀ m, m < c → needD (funT l) i (i + 1) m = true → 0 ≤ I m ∧ I m < (M.length : Int)
  skip : ∀ m, m < c → needD (funT l) i (i + 1) m = true → askD (funT l) (i + 1) m = 0 → I m = (m : Int)
  param : ∀ m, m < c → needD (funT l) i (i + 1) m = true → askD (funT l) (i + 1) m ≠ 0 → (funT l m).kind = 9 → I m = args.getD (funT l m).n.toNat 0
  put : ∀ m, m < c → needD (funT l) i (i + 1) m = true → askD (funT l) (i + 1) m ≠ 0 → (funT l m).kind ≠ 9 → PutOk (funT l m) (I m) M I
theorem Spec.next {l : List Ty} (hr : rightT l = true) {i : Nat} (hi : i < l.length) {args : List Int} {c : Nat} (hc : c ≤ i) {M N : List Ty} {I : Nat → Int} (h : Spec l i args c M I) (hx : Ext M N) {v : Int}
    (hv : needD (funT l) i (i + 1) c = true → 0 ≤ v ∧ v < (N.length : Int))
    (hs : needD (funT l) i (i + 1) c = true → askD (funT l) (i + 1) c = 0 → v = (c : Int))
    (hp : needD (funT l) i (i + 1) c = true → askD (funT l) (i + 1) c ≠ 0 → (funT l c).kind = 9 → v = args.getD (funT l c).n.toNat 0)
    (hq : needD (funT l) i (i + 1) c = true → askD (funT l) (i + 1) c ≠ 0 → (funT l c).kind ≠ 9 → PutOk (funT l c) v N I) : Spec l i args (c + 1) N (updI I c v) := by
  have hk := fun_kids hr hi
  have up : ∀ m, m ≤ c → ∀ k ∈ (funT l m).kids, I k.toNat = updI I c v k.toNat := fun m hm k hkm => by
    have := hk m (by omega) k hkm
    rw [updI_ne (by omega)]
  have hin : ∀ m, m ≤ c → needD (funT l) i (i + 1) m = true → ∀ k ∈ (funT l m).kids, 0 ≤ I k.toNat ∧ I k.toNat < (M.length : Int) := fun m hm hn k hkm => by
    have := hk m (by omega) k hkm
    exact h.ins _ (by omega) (need_kid hk (by omega) hn hkm)
  have hlen := hx.2
  refine ⟨fun m hm hn => ?_, fun m hm hn ha => ?_, fun m hm hn ha h9 => ?_, fun m hm hn ha h9 => ?_⟩
  · by_cases e : m = c
    · subst e; rw [updI_at]; exact hv hn
    · rw [updI_ne e]; have := h.ins m (by omega) hn; omega
  · by_cases e : m = c
    · subst e; rw [updI_at]; exact hs hn ha
    · rw [updI_ne e]; exact h.skip m (by omega) hn ha
  · by_cases e : m = c
    · subst e; rw [updI_at]; exact hp hn ha h9
    · rw [updI_ne e]; exact h.param m (by omega) hn ha h9
  · by_cases e : m = c
    · subst e
      rw [updI_at]
      have g := hq hn ha h9
      refine ⟨?_, ?_⟩
      · rw [← swap_congr (up m (Nat.le_refl _))]; exact g.1
      · rw [← new_congr (up m (Nat.le_refl _))]; exact g.2
    · rw [updI_ne e]
      exact (h.put m (by omega) hn ha h9).ext hx (h.ins m (by omega) hn) (hin m (by omega) hn) (up m (by omega))
theorem runS_ok {l : List Ty} {i : Nat} {args : List Int} {c : Nat} (he : (runT l i args (c + 1)).err = 0) : (runT l i args c).err = 0 := Classical.byContradiction fun g => by
  rw [run_step, stepS_err g] at he
  exact g he
/-- What is held of a run that went well. -/
theorem spec_run {l : List Ty} (hr : rightT l = true) {i : Nat} (hi : i < l.length) {args : List Int} (hin : inArena l args = true) (ha : ¬ (args.length : Int) < askD (funT l) (i + 1) i) :
    ∀ c, c ≤ i + 1 → (runT l i args c).err = 0 → Spec l i args c (runT l i args c).now (runT l i args c).ins
  | 0, _, _ => ⟨fun m hm => absurd hm (Nat.not_lt_zero _), fun m hm => absurd hm (Nat.not_lt_zero _), fun m hm => absurd hm (Nat.not_lt_zero _), fun m hm => absurd hm (Nat.not_lt_zero _)⟩
  | c + 1, hc, he => by
    have h0 := runS_ok he
    have ih := spec_run hr hi hin ha c (by omega) h0
    have hI := inv_run hr hi hin ha c (by omega) h0
    have hlen := hI.len
    rw [run_step] at he ⊢
    obtain ⟨s, hs⟩ : ∃ s, runT l i args c = s := ⟨_, rfl⟩
    rw [hs] at he ih hI h0 hlen ⊢
    by_cases hsk : needD (funT l) i (i + 1) c = false ∨ askD (funT l) (i + 1) c = 0
    · rw [stepS_skip h0 hsk]
      refine ih.next hr hi (by omega) (Ext.refl _) (fun _ => by omega) (fun _ _ => rfl) (fun hn h1 => ?_) (fun hn h1 => ?_)
      · rcases hsk with g | g
        · rw [hn] at g; cases g
        · exact absurd g h1
      · rcases hsk with g | g
        · rw [hn] at g; cases g
        · exact absurd g h1
    · have hn : needD (funT l) i (i + 1) c = true := by
        cases hh : needD (funT l) i (i + 1) c
        · exact absurd (.inl hh) hsk
        · rfl
      have hA : ¬ askD (funT l) (i + 1) c = 0 := fun g => hsk (.inr g)
      by_cases h9 : (funT l c).kind = 9
      · rw [stepS_param h0 hn hA h9]
        obtain ⟨g1, g2⟩ := param_in hr hi (by omega) hn h9 ha
        have := in_arena hin (k := (funT l c).n.toNat) (by omega)
        exact ih.next hr hi (by omega) (Ext.refl _) (fun _ => by omega) (fun _ g => absurd g hA) (fun _ _ _ => rfl) (fun _ _ g => absurd h9 g)
      · by_cases hp : (putT s.now (funT l c) s.ins).2.2 = 0
        · obtain ⟨ho, M, p, hpM, e, hMp, hR, hT, hL, -⟩ := put_good hI.right hp
          rw [stepS_put h0 hn hA h9 e]
          have hx : Ext s.now M := ⟨hT, hL⟩
          have hkk : ∀ k ∈ (funT l c).kids, 0 ≤ s.ins k.toNat ∧ s.ins k.toNat < (s.now.length : Int) := fun k hkm => by
            have := fun_kids hr hi c (by omega) k hkm
            exact ih.ins _ (by omega) (need_kid (fun_kids hr hi) (by omega) hn hkm)
          refine ih.next hr hi (by omega) hx (fun _ => by omega) (fun _ g => absurd g hA) (fun _ _ g => absurd g h9) (fun _ _ _ => ⟨?_, ?_⟩)
          · rw [odd_ext hx (swap_in hkk)]; exact ho
          · rw [new_ext hx hkk, Int.toNat_natCast]
            unfold funT
            rw [getD_of hpM]
            exact hMp
        · exfalso
          obtain ⟨M, p, e'⟩ : ∃ M p, putT s.now (funT l c) s.ins = (M, p, (putT s.now (funT l c) s.ins).2.2) := ⟨_, _, rfl⟩
          rw [stepS_fail h0 hn hA h9 e' hp] at he
          exact hp he
/-- A run in an arena where all that is put in stands already. -/
theorem run_stays {M : List Ty} (hr : rightT M = true) {i : Nat} (hi : i < M.length) {args : List Int} {J : Nat → Int} (hS : Spec M i args (i + 1) M J) :
    ∀ c, c ≤ i + 1 → (runT M i args c).err = 0 ∧ (runT M i args c).now = M ∧ ∀ m, m < c → needD (funT M) i (i + 1) m = true → (runT M i args c).ins m = J m
  | 0, _ => ⟨rfl, rfl, fun m hm => absurd hm (Nat.not_lt_zero _)⟩
  | c + 1, hc => by
    obtain ⟨h0, hN, hI⟩ := run_stays hr hi hS c (by omega)
    have upd : ∀ v, (needD (funT M) i (i + 1) c = true → v = J c) → ∀ m, m < c + 1 → needD (funT M) i (i + 1) m = true → updI (runT M i args c).ins c v m = J m := fun v hv m hm hn => by
      by_cases e : m = c
      · subst e; rw [updI_at]; exact hv hn
      · rw [updI_ne e]; exact hI m (by omega) hn
    rw [run_step]
    by_cases hsk : needD (funT M) i (i + 1) c = false ∨ askD (funT M) (i + 1) c = 0
    · rw [stepS_skip h0 hsk]
      refine ⟨rfl, hN, upd _ (fun hn => ?_)⟩
      rcases hsk with g | g
      · rw [hn] at g; cases g
      · exact (hS.skip c (by omega) hn g).symm
    · have hn : needD (funT M) i (i + 1) c = true := by
        cases hh : needD (funT M) i (i + 1) c
        · exact absurd (.inl hh) hsk
        · rfl
      have hA : ¬ askD (funT M) (i + 1) c = 0 := fun g => hsk (.inr g)
      by_cases h9 : (funT M c).kind = 9
      · rw [stepS_param h0 hn hA h9]
        exact ⟨rfl, hN, upd _ (fun _ => (hS.param c (by omega) hn hA h9).symm)⟩
      · have hP := hS.put c (by omega) hn hA h9
        have hB := hS.ins c (by omega) hn
        have hcg : ∀ k ∈ (funT M c).kids, (runT M i args c).ins k.toNat = J k.toNat := fun k hkm => by
          have := fun_kids hr hi c (by omega) k hkm
          exact hI _ (by omega) (need_kid (fun_kids hr hi) (by omega) hn hkm)
        have hput : putT (runT M i args c).now (funT M c) (runT M i args c).ins = (M, J c, 0) := by
          rw [hN, put_add (by rw [swap_congr hcg]; exact hP.1), new_congr hcg]
          have hj : (J c).toNat < M.length := by omega
          have e : M[(J c).toNat] = newT M (funT M c) J := by
            have := hP.2
            unfold funT at this ⊢
            rw [getD_of hj] at this
            exact this
          have h1 := at_of hr hj e
          unfold addT
          rw [if_pos (by rw [h1]; omega), h1]
          congr 2
          omega
        rw [stepS_put h0 hn hA h9 hput]
        exact ⟨rfl, rfl, upd _ (fun _ => rfl)⟩
theorem subst_stays {M : List Ty} (hr : rightT M = true) {i : Nat} (hi : i < M.length) {args : List Int} {J : Nat → Int} (ha : ¬ (args.length : Int) < askD (funT M) (i + 1) i) (hin : inArena M args = true) (hS : Spec M i args (i + 1) M J) : substT M i args = (M, J i, 0) := by
  obtain ⟨h1, h2, h3⟩ := run_stays hr hi hS (i + 1) (Nat.le_refl _)
  rw [sub_ok ha hin rfl h1, h2, h3 i (by omega) (needD_self _ _ _)]
end Go.Proofs.YtleiaghegokjkaaGreatDoor
/- Two steps as one. -/
namespace Go.Proofs.YtleiaghegokjkaaGreatDoor
open Go.RowKit
set_option linter.unusedSimpArgs false
set_option linter.unusedVariables false

theorem need_elim {f : Nat → Ty} {i : Nat} : ∀ {d m : Nat}, needD f i d m = true → m = i ∨ ∃ j, j ≤ i ∧ needD f i d j = true ∧ (m : Int) ∈ (f j).kids
  | 0, m, h => .inl (of_decide_eq_true h)
  | d + 1, m, h => by
    have h : kmark (needD f i d) (i - d) (f (i - d)).kids m = true := h
    unfold kmark at h
    rw [Bool.or_eq_true] at h
    have up : ∀ j, needD f i d j = true → needD f i (d + 1) j = true := fun j g => need_mono (by omega) g
    rcases h with h | h
    · rcases need_elim h with g | ⟨j, g1, g2, g3⟩
      · exact .inl g
      · exact .inr ⟨j, g1, up j g2, g3⟩
    · rw [Bool.and_eq_true] at h
      exact .inr ⟨i - d, by omega, up _ h.1, of_decide_eq_true h.2⟩
theorem need_down {f : Nat → Ty} {i : Nat} (hk : ∀ j, j ≤ i → ∀ k ∈ (f j).kids, 0 ≤ k ∧ k < (j : Int)) {P : Nat → Prop} (h0 : P i) (hs : ∀ j, j ≤ i → needD f i (i + 1) j = true → P j → ∀ m : Nat, (m : Int) ∈ (f j).kids → P m) :
    ∀ t m, i - m ≤ t → needD f i (i + 1) m = true → P m
  | 0, m, ht, hn => by
    have := need_le hk hn
    obtain rfl : m = i := by omega
    exact h0
  | t + 1, m, ht, hn => by
    have hm := need_le hk hn
    rcases need_elim hn with rfl | ⟨j, g1, g2, g3⟩
    · exact h0
    · have := hk j g1 _ g3
      exact hs j g1 g2 (need_down hk h0 hs t j (by omega) g2) m g3
theorem need_same {f g : Nat → Ty} {i : Nat} (h : ∀ j, j ≤ i → f j = g j) : ∀ c, needD f i c = needD g i c
  | 0 => rfl
  | c + 1 => by
    show kmark (needD f i c) (i - c) (f (i - c)).kids = kmark (needD g i c) (i - c) (g (i - c)).kids
    rw [need_same h c, h (i - c) (by omega)]
theorem ask_same {f g : Nat → Ty} : ∀ {c : Nat}, (∀ j, j < c → f j = g j) → askD f c = askD g c
  | 0, _ => rfl
  | c + 1, h => by
    have ih := ask_same (c := c) (fun j hj => h j (by omega))
    funext m
    show (if m = c then _ else _) = (if m = c then _ else _)
    rw [ih, h c (by omega)]
theorem ask_one {f : Nat → Ty} {m c : Nat} (h : m < c) : askD f c m = askD f (m + 1) m := askD_stay (by omega) (by omega)
theorem ask_two {f g : Nat → Ty} {m c d : Nat} (hc : m < c) (hd : m < d) (h : ∀ j, j ≤ m → f j = g j) : askD f c m = askD g d m := by
  rw [ask_one hc, ask_one hd, ask_same (fun j hj => h j (by omega))]
theorem ask_kid {f : Nat → Ty} {m c : Nat} (hm : m < c) {k : Int} (hk : 0 ≤ k ∧ k < (m : Int)) (h : k ∈ (f m).kids) : askD f c k.toNat ≤ askD f c m := by
  rw [ask_one hm, ask_one (show k.toNat < c by omega), askD_self (show m < m + 1 by omega)]
  have := askF_kid (A := askD f m) (n := ask0 (f m)) h
  rwa [ask_one (show k.toNat < m by omega)] at this
/-- A param is nothing but its number. -/
theorem param_bare {l : List Ty} (hr : rightT l = true) {j : Nat} (hj : j < l.length) (h9 : l[j].kind = 9) : l[j] = ⟨9, ⟨#[]⟩, l[j].n, [], []⟩ := by
  by_cases h22 : j < 22
  · exfalso
    rw [right_low hr hj h22] at h9
    unfold bas at h9
    split at h9 <;> simp at h9
  · have hm := (right_high hr hj h22).1
    unfold madeB at hm
    rw [Bool.and_eq_true] at hm
    have hm := hm.2
    obtain ⟨t, ht⟩ : ∃ t, l[j] = t := ⟨_, rfl⟩
    rw [ht] at hm h9 ⊢
    obtain ⟨k, nm, n, ws, ks⟩ := t
    have h9 : k = 9 := h9
    subst h9
    simp [bareB] at hm
    obtain ⟨⟨h1, h2⟩, h3, -⟩ := hm
    rw [h2, h3]
    congr 1
theorem zip_split : ∀ l : List (ByteArray × Int), (l.map (·.1)).zip (l.map (·.2)) = l
  | [] => rfl
  | p :: r => by
    show (p.1, p.2) :: (r.map (·.1)).zip (r.map (·.2)) = p :: r
    rw [zip_split r]
/-- A row of terms and others, tidied; with others instead. -/
def tidP (L : Nat) (ps : List (ByteArray × Int)) : List (ByteArray × Int) := (ps.filter fun p => !markB p.1) ++ termP L ps
def mapP (J : Nat → Int) (ps : List (ByteArray × Int)) : List (ByteArray × Int) := ps.map fun p => (p.1, J p.2.toNat)
theorem zip_tidy (L : Nat) (t : Ty) : (tidyT L t).words.zip (tidyT L t).kids = tidP L (t.words.zip t.kids) := zip_split _
theorem zip_swap (t : Ty) (J : Nat → Int) : (swapT t J).words.zip (swapT t J).kids = mapP J (t.words.zip t.kids) := by
  show t.words.zip (t.kids.map fun k => J k.toNat) = _
  rw [List.zip_map_right]
  rfl
theorem tidy_pairs (L : Nat) (t : Ty) : tidyT L t = { t with words := (tidP L (t.words.zip t.kids)).map (·.1), kids := (tidP L (t.words.zip t.kids)).map (·.2) } := rfl
theorem word_inj {a b : Bool} (h : wordOf a = wordOf b) : a = b := by
  cases a <;> cases b <;> first | rfl | (exfalso; revert h; decide)
theorem word_mark (b : Bool) : markB (wordOf b) = true := by
  cases b <;> (unfold markB; rw [ByteArray.toList_eq]; decide)
theorem mem_term {L : Nat} {ps : List (ByteArray × Int)} (hk : ∀ p ∈ ps, 0 ≤ p.2 ∧ p.2 < (L : Int)) (b : Bool) (q : Int) : (wordOf b, q) ∈ termP L ps ↔ (wordOf b, q) ∈ ps ∧ (b = true ∨ (wordOf true, q) ∉ ps) := by
  have hm : ∀ z ∈ marksB ps, 0 ≤ z.2 ∧ z.2 < (L : Int) := fun z hz => hk (wordOf z.1, z.2) (mem_marks.1 hz)
  rw [termP_marks, List.mem_map]
  constructor
  · rintro ⟨⟨c, k⟩, hx, e⟩
    injection e with e1 e2
    have e1 := word_inj e1
    have e2 : k = q := e2
    subst e1
    subst e2
    have := (termQ_iff hm (c, k)).1 hx
    exact ⟨mem_marks.1 this.1, this.2.imp id (fun g h => g (mem_marks.2 h))⟩
  · rintro ⟨h1, h2⟩
    exact ⟨(b, q), (termQ_iff hm (b, q)).2 ⟨mem_marks.2 h1, h2.imp id (fun g h => g (mem_marks.1 h))⟩, rfl⟩
theorem term_marked {L : Nat} {ps : List (ByteArray × Int)} {p : ByteArray × Int} (h : p ∈ termP L ps) : markB p.1 = true := by
  rw [termP_marks, List.mem_map] at h
  obtain ⟨x, _, rfl⟩ := h
  exact word_mark x.1
theorem term_has {L : Nat} {ps : List (ByteArray × Int)} (hk : ∀ p ∈ ps, 0 ≤ p.2 ∧ p.2 < (L : Int)) {u : ByteArray} {k : Int} (h : (u, k) ∈ ps) (hu : markB u = true) : ∃ v, (v, k) ∈ termP L ps := by
  by_cases ht : (wordOf true, k) ∈ ps
  · exact ⟨_, (mem_term hk true k).2 ⟨ht, .inl rfl⟩⟩
  · have e := mark_word hu
    refine ⟨_, (mem_term hk (decide (u = tiW)) k).2 ⟨by rw [← e]; exact h, .inr ht⟩⟩
theorem term_congr {X Y : List (ByteArray × Int)} (h : ∀ p : Nat, markP X p = markP Y p) (L : Nat) : termP L X = termP L Y := by
  unfold termP
  congr 1
  funext p
  exact h p
theorem mem_mapP {J : Nat → Int} {ps : List (ByteArray × Int)} {u : ByteArray} {p : Int} : (u, p) ∈ mapP J ps ↔ ∃ q, (u, q) ∈ ps ∧ J q.toNat = p := by
  unfold mapP
  rw [List.mem_map]
  constructor
  · rintro ⟨⟨v, q⟩, h, e⟩
    injection e with e1 e2
    have e1 : v = u := e1
    subst e1
    exact ⟨q, h, e2⟩
  · rintro ⟨q, h, e⟩
    exact ⟨(u, q), h, by rw [← e]⟩
theorem filter_mapP (J : Nat → Int) (ps : List (ByteArray × Int)) : (mapP J ps).filter (fun p => !markB p.1) = mapP J (ps.filter fun p => !markB p.1) := by
  unfold mapP
  rw [List.filter_map]
  rfl
theorem tidP_map {Y Z : Nat} {ps : List (ByteArray × Int)} (hk : ∀ p ∈ ps, 0 ≤ p.2 ∧ p.2 < (Y : Int)) (J : Nat → Int) : tidP Z (mapP J (tidP Y ps)) = tidP Z (mapP J ps) := by
  have hf : (tidP Y ps).filter (fun p => !markB p.1) = ps.filter fun p => !markB p.1 := by
    have a1 : (ps.filter fun p => !markB p.1).filter (fun p => !markB p.1) = ps.filter fun p => !markB p.1 := by rw [List.filter_filter]; simp
    have a2 : (termP Y ps).filter (fun p => !markB p.1) = [] := List.filter_eq_nil_iff.2 (fun p hp => by rw [term_marked hp]; decide)
    unfold tidP
    rw [List.filter_append, a1, a2, List.append_nil]
  have hmem : ∀ b q, (wordOf b, q) ∈ tidP Y ps ↔ (wordOf b, q) ∈ ps ∧ (b = true ∨ (wordOf true, q) ∉ ps) := fun b q => by
    unfold tidP
    rw [List.mem_append, mem_term hk]
    constructor
    · rintro (h | h)
      · have := (List.mem_filter.1 h).2
        rw [word_mark b] at this
        cases this
      · exact h
    · exact .inr
  have h1 : ∀ p : Int, (tiW, p) ∈ mapP J (tidP Y ps) ↔ (tiW, p) ∈ mapP J ps := fun p => by
    rw [mem_mapP, mem_mapP]
    constructor
    · rintro ⟨q, h, e⟩; exact ⟨q, ((hmem true q).1 h).1, e⟩
    · rintro ⟨q, h, e⟩; exact ⟨q, (hmem true q).2 ⟨h, .inl rfl⟩, e⟩
  have h2 : ∀ p : Int, (tiW, p) ∉ mapP J ps → ((eqW, p) ∈ mapP J (tidP Y ps) ↔ (eqW, p) ∈ mapP J ps) := fun p hn => by
    rw [mem_mapP, mem_mapP]
    constructor
    · rintro ⟨q, h, e⟩; exact ⟨q, ((hmem false q).1 h).1, e⟩
    · rintro ⟨q, h, e⟩
      exact ⟨q, (hmem false q).2 ⟨h, .inr (fun g => hn (mem_mapP.2 ⟨q, g, e⟩))⟩, e⟩
  show (mapP J (tidP Y ps)).filter _ ++ termP Z (mapP J (tidP Y ps)) = _
  rw [filter_mapP, hf, term_congr (Y := mapP J ps) (fun p => ?_) Z, ← filter_mapP]
  · rfl
  · unfold markP
    by_cases g : (tiW, (p : Int)) ∈ mapP J ps
    · rw [if_pos g, if_pos ((h1 _).2 g)]
    · rw [if_neg g, if_neg (fun h => g ((h1 _).1 h))]
      by_cases g2 : (eqW, (p : Int)) ∈ mapP J ps
      · rw [if_pos g2, if_pos ((h2 _ g).2 g2)]
      · rw [if_neg g2, if_neg (fun h => g2 ((h2 _ g).1 h))]
theorem pairs_in {t : Ty} {I : Nat → Int} {L : Nat} (h : ∀ k ∈ t.kids, 0 ≤ I k.toNat ∧ I k.toNat < (L : Int)) : ∀ p ∈ mapP I (t.words.zip t.kids), 0 ≤ p.2 ∧ p.2 < (L : Int) := fun p hp => by
  obtain ⟨q, hq, rfl⟩ := List.mem_map.1 hp
  exact h _ (List.of_mem_zip hq).2
theorem mapP_map (I J : Nat → Int) (ps : List (ByteArray × Int)) : mapP J (mapP I ps) = mapP (fun k => J (I k).toNat) ps := by
  unfold mapP
  rw [List.map_map]
  rfl
/-- What is put in, put in once more. -/
theorem new_comp {y z : List Ty} {t : Ty} {I : Nat → Int} (J : Nat → Int) (hI : ∀ k ∈ t.kids, 0 ≤ I k.toNat ∧ I k.toNat < (y.length : Int)) : newT z (newT y t I) J = newT z t (fun k => J (I k).toNat) := by
  by_cases h7 : t.kind = 7
  · have e1 : newT y t I = tidyT y.length (swapT t I) := by unfold newT; rw [if_pos h7]
    have e2 : newT z (newT y t I) J = tidyT z.length (swapT (newT y t I) J) := by
      have : (newT y t I).kind = 7 := by rw [e1]; exact h7
      show newT z _ J = _
      unfold newT at this ⊢
      rw [if_pos this]
    have e3 : newT z t (fun k => J (I k).toNat) = tidyT z.length (swapT t fun k => J (I k).toNat) := by unfold newT; rw [if_pos h7]
    rw [e2, e3, e1, tidy_pairs z.length, tidy_pairs z.length, zip_swap, zip_tidy, zip_swap, zip_swap, tidP_map (pairs_in hI), mapP_map]
    rfl
  · have e1 : newT y t I = swapT t I := by unfold newT; rw [if_neg h7]
    have e2 : newT z (swapT t I) J = swapT (swapT t I) J := by
      have : ¬ (swapT t I).kind = 7 := h7
      unfold newT
      rw [if_neg this]
    have e3 : newT z t (fun k => J (I k).toNat) = swapT t fun k => J (I k).toNat := by unfold newT; rw [if_neg h7]
    rw [e1, e2, e3]
    unfold swapT
    simp only [List.map_map]
    rfl
theorem odd_comp {y N : List Ty} {t : Ty} {I : Nat → Int} (J : Nat → Int) (hI : ∀ k ∈ t.kids, 0 ≤ I k.toNat ∧ I k.toNat < (y.length : Int)) (h7 : t.kind = 7) (h : oddT N (swapT t fun k => J (I k).toNat) = true) : oddT N (swapT (newT y t I) J) = true := by
  have e1 : newT y t I = tidyT y.length (swapT t I) := by unfold newT; rw [if_pos h7]
  rw [e1]
  unfold oddT at *
  rw [zip_swap] at h ⊢
  rw [zip_tidy, zip_swap]
  rw [List.any_eq_true] at h ⊢
  obtain ⟨⟨u, p⟩, hm, hb⟩ := h
  rw [← mapP_map, mem_mapP] at hm
  obtain ⟨q, hq, e⟩ := hm
  rw [Bool.and_eq_true] at hb
  obtain ⟨v, hv⟩ := term_has (pairs_in hI) hq hb.1
  refine ⟨(v, p), mem_mapP.2 ⟨q, List.mem_append_right _ hv, e⟩, ?_⟩
  rw [Bool.and_eq_true]
  exact ⟨term_marked (p := (v, q)) hv, hb.2⟩
theorem new_kid {y : List Ty} {t : Ty} {I : Nat → Int} (hl : t.kind = 7 → t.words.length = t.kids.length) (hI : ∀ k ∈ t.kids, 0 ≤ I k.toNat ∧ I k.toNat < (y.length : Int)) {k : Int} (hk : k ∈ t.kids) : I k.toNat ∈ (newT y t I).kids := by
  by_cases h7 : t.kind = 7
  · have e1 : newT y t I = tidyT y.length (swapT t I) := by unfold newT; rw [if_pos h7]
    rw [e1, tidy_pairs, zip_swap]
    obtain ⟨j, hj, e⟩ := List.getElem_of_mem hk
    have hw : j < t.words.length := by rw [hl h7]; exact hj
    have hz : (t.words[j], k) ∈ t.words.zip t.kids := by
      have h : j < (t.words.zip t.kids).length := by rw [List.length_zip]; omega
      have := List.getElem_mem h
      rwa [List.getElem_zip, e] at this
    have hm : (t.words[j], I k.toNat) ∈ mapP I (t.words.zip t.kids) := mem_mapP.2 ⟨k, hz, rfl⟩
    show I k.toNat ∈ (tidP y.length (mapP I (t.words.zip t.kids))).map (·.2)
    rw [List.mem_map]
    cases hmk : markB t.words[j]
    · exact ⟨_, List.mem_append_left _ (List.mem_filter.2 ⟨hm, by simp [hmk]⟩), rfl⟩
    · obtain ⟨v, hv⟩ := term_has (pairs_in hI) hm hmk
      exact ⟨_, List.mem_append_right _ hv, rfl⟩
  · have e1 : newT y t I = swapT t I := by unfold newT; rw [if_neg h7]
    rw [e1]
    exact List.mem_map.2 ⟨k, hk, rfl⟩
end Go.Proofs.YtleiaghegokjkaaGreatDoor
/- Two steps as one, and what stays. -/
namespace Go.Proofs.YtleiaghegokjkaaGreatDoor
open Go.RowKit
set_option linter.unusedSimpArgs false
set_option linter.unusedVariables false

/-- What is told of a run by its outcome. -/
structure Went (l : List Ty) (i : Nat) (args : List Int) (M : List Ty) (I : Nat → Int) : Prop where
  few : ¬ (args.length : Int) < askD (funT l) (i + 1) i
  inn : inArena l args = true
  spec : Spec l i args (i + 1) M I
  right : rightT M = true
  ext : Ext l M
theorem sub_went {l : List Ty} (hr : rightT l = true) {i : Nat} (hi : i < l.length) {args : List Int} {M : List Ty} {p : Int} (h : substT l i args = (M, p, 0)) : ∃ I, Went l i args M I ∧ p = I i ∧ 0 ≤ p ∧ p < (M.length : Int) := by
  unfold substT at h
  split at h
  · cases h
  · rename_i h1
    split at h
    · cases h
    · rename_i h2
      have hin : inArena l args = true := by revert h2; cases inArena l args <;> simp
      split at h
      · rename_i h3
        injection h with _ h
        injection h with _ h
        exact absurd h h3
      · rename_i h3
        have he : (runT l i args (i + 1)).err = 0 := Classical.byContradiction h3
        injection h with e1 h
        injection h with e2 _
        have hS := spec_run hr hi hin h1 (i + 1) (Nat.le_refl _) he
        have hI := inv_run hr hi hin h1 (i + 1) (Nat.le_refl _) he
        have hb := hS.ins i (by omega) (needD_self _ _ _)
        rw [e1, e2] at hb
        refine ⟨(runT l i args (i + 1)).ins, ⟨h1, hin, by rw [← e1]; exact hS, by rw [← e1]; exact hI.right, by rw [← e1]; exact ⟨hI.pre, hI.len⟩⟩, e2.symm, hb.1, hb.2⟩
theorem arena_ext {l N : List Ty} (hx : Ext l N) {args : List Int} (h : inArena l args = true) : inArena N args = true :=
  all_arena fun j hj => by
    have := in_arena h hj
    have := hx.2
    omega
theorem kids_in {l : List Ty} (hr : rightT l = true) {i : Nat} (hi : i < l.length) {args : List Int} {M : List Ty} {I : Nat → Int} (hS : Spec l i args (i + 1) M I) {m : Nat} (hm : m ≤ i) (hn : needD (funT l) i (i + 1) m = true) :
    ∀ k ∈ (funT l m).kids, 0 ≤ I k.toNat ∧ I k.toNat < (M.length : Int) := fun k hk => by
  have := fun_kids hr hi m hm k hk
  exact hS.ins _ (by omega) (need_kid (fun_kids hr hi) hm hn hk)
/-- A needed one put in again, in a later arena: it stands. -/
theorem resub {y z N : List Ty} (hry : rightT y = true) {q0 : Nat} (hq0 : q0 < y.length) {others : List Int} {I : Nat → Int} (hW : Went y q0 others z I) (hx : Ext z N) (hrN : rightT N = true) {q : Nat} (hq : needD (funT y) q0 (q0 + 1) q = true) :
    substT N q others = (N, I q, 0) := by
  have hyN : Ext y N := hW.ext.trans hx
  have hky := fun_kids hry hq0
  have hqq := need_le hky hq
  have hqN : q < N.length := Nat.lt_of_lt_of_le (by omega) hyN.2
  have hkN := fun_kids hrN hqN
  have hfn : ∀ j, j ≤ q0 → funT N j = funT y j := fun j hj => hyN.fn (by omega)
  have hneed : ∀ m, needD (funT N) q (q + 1) m = true → needD (funT y) q0 (q0 + 1) m = true := fun m hm =>
    need_down hkN (P := fun m => needD (funT y) q0 (q0 + 1) m = true) hq (fun j hj _ hj2 m hmk => by
      rw [hfn j (by omega)] at hmk
      have := need_kid hky (by omega) hj2 hmk
      rwa [Int.toNat_natCast] at this) q m (by omega) hm
  have hask : ∀ m, m ≤ q → askD (funT N) (q + 1) m = askD (funT y) (q0 + 1) m := fun m hm => ask_two (by omega) (by omega) (fun j hj => hfn j (by omega))
  have hle := hx.2
  refine subst_stays hrN hqN ?_ (arena_ext hyN hW.inn) ⟨fun m hm hn => ?_, fun m hm hn ha => ?_, fun m hm hn ha h9 => ?_, fun m hm hn ha h9 => ?_⟩
  · rw [hask q (Nat.le_refl _)]
    have h1 := need_ask hky hq
    have h2 := hW.few
    omega
  · have := hW.spec.ins m (by omega) (hneed m hn)
    omega
  · rw [hask m (by omega)] at ha
    exact hW.spec.skip m (by omega) (hneed m hn) ha
  · rw [hask m (by omega)] at ha
    rw [hfn m (by omega)] at h9 ⊢
    exact hW.spec.param m (by omega) (hneed m hn) ha h9
  · rw [hask m (by omega)] at ha
    rw [hfn m (by omega)] at h9 ⊢
    exact (hW.spec.put m (by omega) (hneed m hn) ha h9).ext hx (hW.spec.ins m (by omega) (hneed m hn)) (kids_in hry hq0 hW.spec (by omega) (hneed m hn)) (fun _ _ => rfl)
/-- What was needed is needed in what stands instead. -/
theorem need_over {l y : List Ty} (hr : rightT l = true) {i : Nat} (hi : i < l.length) {args : List Int} {I : Nat → Int} (hW : Went l i args y I) {m : Nat} (hm : needD (funT l) i (i + 1) m = true) :
    needD (funT y) (I i).toNat ((I i).toNat + 1) (I m).toNat = true := by
  have hkl := fun_kids hr hi
  have hb0 := hW.spec.ins i (by omega) (needD_self _ _ _)
  have hky := fun_kids hW.right (i := (I i).toNat) (by omega)
  refine need_down hkl (P := fun m => needD (funT y) (I i).toNat ((I i).toNat + 1) (I m).toNat = true) (needD_self _ _ _) (fun j hj hn hP m hmk => ?_) i m (by omega) hm
  have hmj := hkl j hj _ hmk
  have hnm := need_kid hkl hj hn hmk
  rw [Int.toNat_natCast] at hnm
  have hjl := need_le hky hP
  have hin := kids_in hr hi hW.spec hj hn
  have hbm := hW.spec.ins m (by omega) hnm
  have hjle : j < l.length := by omega
  have hmem : I m ∈ (funT y (I j).toNat).kids := by
    by_cases ha : askD (funT l) (i + 1) j = 0
    · have h1 := hW.spec.skip j (by omega) hn ha
      have h2 := ask_kid (f := funT l) (c := i + 1) (by omega) hmj hmk
      rw [Int.toNat_natCast] at h2
      have h3 := askD_in (right_param hr) (i + 1) m
      have h4 := hW.spec.skip m (by omega) hnm (by omega)
      rw [h1, h4, Int.toNat_natCast, hW.ext.fn hjle]
      exact hmk
    · by_cases h9 : (funT l j).kind = 9
      · exfalso
        have e : funT l j = l[j] := getD_of hjle
        rw [e] at h9 hmk
        rw [param_bare hr hjle h9] at hmk
        cases hmk
      · have hP := hW.spec.put j (by omega) hn ha h9
        rw [hP.2]
        have := new_kid (y := y) (t := funT l j) (I := I) (fun h7 => by
          have e : funT l j = l[j] := getD_of hjle
          rw [e] at h7 ⊢
          exact kind7_len hr hjle h7) hin hmk
        rwa [Int.toNat_natCast] at this
  exact need_kid hky hjl hP hmem
/-- In two steps as in one. -/
theorem two_steps {l y z N : List Ty} (hr : rightT l = true) {i : Nat} (hi : i < l.length) {args others both : List Int} {I J : Nat → Int} (hW : Went l i args y I) (hV : Went y (I i).toNat others z J) (hx : Ext z N) (hrN : rightT N = true)
    (hbl : both.length = args.length) (hbi : inArena N both = true) (hb : ∀ k, k < args.length → needD (funT y) (I i).toNat ((I i).toNat + 1) (args.getD k 0).toNat = true → both.getD k 0 = J (args.getD k 0).toNat) :
    substT N i both = (N, J (I i).toNat, 0) := by
  have hb0 := hW.spec.ins i (by omega) (needD_self _ _ _)
  have hq0 : (I i).toNat < y.length := by omega
  have hlN : Ext l N := (hW.ext.trans hV.ext).trans hx
  have hyN : Ext y N := hV.ext.trans hx
  have hkl := fun_kids hr hi
  have hky := fun_kids hW.right hq0
  have hiN : i < N.length := Nat.lt_of_lt_of_le hi hlN.2
  have hfn : ∀ j, j ≤ i → funT N j = funT l j := fun j hj => hlN.fn (by omega)
  have hneed : needD (funT N) i (i + 1) = needD (funT l) i (i + 1) := need_same hfn _
  have hask : ∀ m, m ≤ i → askD (funT N) (i + 1) m = askD (funT l) (i + 1) m := fun m hm => ask_two (by omega) (by omega) (fun j hj => hfn j (by omega))
  have hov := fun m hm => need_over hr hi hW (m := m) hm
  have hJb : ∀ m, needD (funT l) i (i + 1) m = true → 0 ≤ J (I m).toNat ∧ J (I m).toNat < (z.length : Int) := fun m hm => hV.spec.ins _ (by have := need_le hky (hov m hm); omega) (hov m hm)
  have hle := hx.2
  refine subst_stays (J := fun m => J (I m).toNat) hrN hiN ?_ hbi ⟨fun m hm hn => ?_, fun m hm hn ha => ?_, fun m hm hn ha h9 => ?_, fun m hm hn ha h9 => ?_⟩
  · rw [hask i (Nat.le_refl _), hbl]
    exact hW.few
  · rw [hneed] at hn
    have := hJb m hn
    show 0 ≤ J (I m).toNat ∧ J (I m).toNat < (N.length : Int)
    omega
  · rw [hneed] at hn
    rw [hask m (by omega)] at ha
    have h1 := hW.spec.skip m (by omega) hn ha
    have h2 := hov m hn
    rw [h1, Int.toNat_natCast] at h2
    show J (I m).toNat = (m : Int)
    rw [h1, Int.toNat_natCast]
    refine hV.spec.skip m (by have := need_le hky h2; omega) h2 ?_
    rw [ask_two (g := funT l) (d := i + 1) (by have := need_le hky h2; omega) (by omega) (fun j hj => hW.ext.fn (by omega))]
    exact ha
  · rw [hneed] at hn
    rw [hask m (by omega)] at ha
    rw [hfn m (by omega)] at h9 ⊢
    have h1 := hW.spec.param m (by omega) hn ha h9
    obtain ⟨g1, g2⟩ := param_in hr hi (by omega) hn h9 hW.few
    show J (I m).toNat = _
    rw [h1]
    have h2 := hov m hn
    rw [h1] at h2
    exact (hb _ (by omega) h2).symm
  · rw [hneed] at hn
    rw [hask m (by omega)] at ha
    rw [hfn m (by omega)] at h9 ⊢
    have hP := hW.spec.put m (by omega) hn ha h9
    have hin := kids_in hr hi hW.spec (m := m) (by omega) hn
    have hbm := hW.spec.ins m (by omega) hn
    have hq := hov m hn
    have hql := need_le hky hq
    show PutOk (funT l m) (J (I m).toNat) N fun k => J (I k).toNat
    by_cases h0 : askD (funT y) ((I i).toNat + 1) (I m).toNat = 0
    · have e : J (I m).toNat = I m := by
        have := hV.spec.skip _ (by omega) hq h0
        rw [this]
        omega
      rw [e]
      refine hP.ext hyN hbm hin (fun k hk => ?_)
      have hkm := hkl m (by omega) k hk
      have hnk := need_kid hkl (by omega) hn hk
      have hok := hov _ hnk
      have hmem : I k.toNat ∈ (funT y (I m).toNat).kids := by
        rw [hP.2]
        exact new_kid (fun h7 => by
          have e : funT l m = l[m]'(by omega) := getD_of (by omega)
          rw [e] at h7 ⊢
          exact kind7_len hr (by omega) h7) hin hk
      have hlt := hky _ hql _ hmem
      have h2 := ask_kid (f := funT y) (c := (I i).toNat + 1) (by omega) hlt hmem
      have h3 := askD_in (right_param hW.right) ((I i).toNat + 1) (I k.toNat).toNat
      have h4 := hV.spec.skip _ (by omega) hok (by omega)
      show I k.toNat = J (I k.toNat).toNat
      rw [h4]
      omega
    · have hk2 : (funT y (I m).toNat).kind ≠ 9 := by
        rw [hP.2]
        have : (newT y (funT l m) I).kind = (funT l m).kind := by unfold newT; split <;> rfl
        rw [this]
        exact h9
      have hQ := hV.spec.put _ (by omega) hq h0 hk2
      rw [hP.2] at hQ
      have hbq := hV.spec.ins _ (by omega) hq
      have hin2 := kids_in hW.right hq0 hV.spec hql hq
      rw [hP.2] at hin2
      have hQN := hQ.ext hx hbq hin2 (fun _ _ => rfl)
      refine ⟨fun g => hQN.1 ⟨?_, odd_comp J hin g.1 g.2⟩, ?_⟩
      · have : (newT y (funT l m) I).kind = (funT l m).kind := by unfold newT; split <;> rfl
        rw [this]
        exact g.1
      · rw [hQN.2, new_comp J hin]
/-- No param, nothing put in. -/
theorem sub_none {l : List Ty} (hr : rightT l = true) {i : Nat} (hi : i < l.length) (h0 : askD (funT l) (i + 1) i = 0) (args : List Int) (ha : args = []) : substT l i args = (l, (i : Int), 0) := by
  subst ha
  have h1 := fun m (hn : needD (funT l) i (i + 1) m = true) => need_ask (fun_kids hr hi) hn
  have h2 := fun m => askD_in (right_param hr) (i + 1) m
  have hz : ∀ m, needD (funT l) i (i + 1) m = true → askD (funT l) (i + 1) m = 0 := fun m hn => by
    have := h1 m hn
    have := (h2 m).1
    omega
  exact subst_stays (J := fun m => (m : Int)) hr hi (by rw [h0]; decide) rfl ⟨fun m hm _ => by show 0 ≤ (m : Int) ∧ (m : Int) < _; omega, fun _ _ _ _ => rfl, fun m _ hn ha => absurd (hz m hn) ha, fun m _ hn ha => absurd (hz m hn) ha⟩
end Go.Proofs.YtleiaghegokjkaaGreatDoor
/- Each param instead of itself: all stays. -/
namespace Go.Proofs.YtleiaghegokjkaaGreatDoor
open Go.RowKit
set_option linter.unusedSimpArgs false
set_option linter.unusedVariables false

/-- Behind a term there are terms of later kids alone. -/
def TermR (p q : ByteArray × Int) : Prop := markB p.1 = true → markB q.1 = true ∧ p.2 < q.2
theorem marks_strict : ∀ {ps : List (ByteArray × Int)}, ps.Pairwise TermR → (marksB ps).Pairwise fun x y => x.2 < y.2
  | [], _ => List.Pairwise.nil
  | p :: r, h => by
    rw [List.pairwise_cons] at h
    have ih := marks_strict h.2
    unfold marksB at *
    rw [List.filter_cons]
    cases hm : markB p.1
    · simpa using ih
    · rw [if_pos rfl, List.map_cons, List.pairwise_cons]
      refine ⟨fun y hy => ?_, ih⟩
      obtain ⟨q, hq, rfl⟩ := List.mem_map.1 hy
      exact (h.1 q (List.mem_filter.1 hq).1 hm).2
theorem parts_whole : ∀ {ps : List (ByteArray × Int)}, ps.Pairwise TermR → (ps.filter fun p => !markB p.1) ++ (ps.filter fun p => markB p.1) = ps
  | [], _ => rfl
  | p :: r, h => by
    rw [List.pairwise_cons] at h
    have ih := parts_whole h.2
    rw [List.filter_cons, List.filter_cons]
    cases hm : markB p.1
    · simpa using ih
    · have h1 : (r.filter fun p => !markB p.1) = [] := List.filter_eq_nil_iff.2 (fun q hq => by rw [(h.1 q hq hm).1]; decide)
      rw [h1] at ih ⊢
      simpa using ih
theorem term_marks {L : Nat} {ps : List (ByteArray × Int)} (hk : ∀ p ∈ ps, 0 ≤ p.2 ∧ p.2 < (L : Int)) (h : ps.Pairwise TermR) : termP L ps = ps.filter fun p => markB p.1 := by
  have hm : ∀ z ∈ marksB ps, 0 ≤ z.2 ∧ z.2 < (L : Int) := fun z hz => hk (wordOf z.1, z.2) (mem_marks.1 hz)
  have hs := marks_strict h
  have e : termQ L (marksB ps) = marksB ps := by
    refine strict_eq (termQ_strict _ L) hs (fun z => ?_)
    rw [termQ_iff hm]
    refine ⟨fun g => g.1, fun g => ⟨g, ?_⟩⟩
    obtain ⟨b, k⟩ := z
    cases b
    · right
      intro g2
      obtain ⟨i, hi, ei⟩ := List.getElem_of_mem g
      obtain ⟨j, hj, ej⟩ := List.getElem_of_mem g2
      have hp := List.pairwise_iff_getElem.1 hs
      rcases Nat.lt_trichotomy i j with c | c | c
      · have := hp i j hi hj c
        rw [ei, ej] at this
        exact absurd this (Int.lt_irrefl _)
      · subst c
        rw [ei] at ej
        cases ej
      · have := hp j i hj hi c
        rw [ei, ej] at this
        exact absurd this (Int.lt_irrefl _)
    · exact .inl rfl
  rw [termP_marks, e]
  unfold marksB
  rw [List.map_map]
  conv => rhs; rw [← List.map_id (ps.filter fun p => markB p.1)]
  refine List.map_congr_left (fun p hp => ?_)
  have := mark_word (List.mem_filter.1 hp).2
  show (wordOf (decide (p.1 = tiW)), p.2) = p
  rw [← this]
theorem tidP_stays {L : Nat} {ps : List (ByteArray × Int)} (hk : ∀ p ∈ ps, 0 ≤ p.2 ∧ p.2 < (L : Int)) (h : ps.Pairwise TermR) : tidP L ps = ps := by
  unfold tidP
  rw [term_marks hk h, parts_whole h]
theorem elem_step {l : List Ty} {n : Int} {ws : List ByteArray} {ks : List Int} (h : elemsB l n ws ks = true) {i : Nat} (hi : i < ws.length) : elemB l n (aheadOf ws ks i) (ws.getD i ⟨#[]⟩) (ks.getD i 0) = true := by
  unfold elemsB at h
  exact List.all_eq_true.1 h i (List.mem_range.2 hi)
theorem elem_next {l : List Ty} {n : Int} {v w : ByteArray} {j k : Int} (h : elemB l n (some (v, j)) w k = true) : TermR (v, j) (w, k) := fun hv => by
  have hv : markB v = true := hv
  unfold elemB at h
  by_cases hw : markB w = true
  · rw [if_pos hw] at h
    simp only [hv, Bool.true_and, Bool.and_eq_true] at h
    have := h.2
    simp at this
    exact ⟨hw, by show j < k; omega⟩
  · rw [if_neg hw] at h
    simp [hv] at h
theorem elems_pairs {l : List Ty} {n : Int} {ws : List ByteArray} {ks : List Int} (hl : ws.length = ks.length) (h : elemsB l n ws ks = true) : (ws.zip ks).Pairwise TermR := by
  rw [List.pairwise_iff_getElem]
  have hz : (ws.zip ks).length = ws.length := by rw [List.length_zip]; omega
  have step : ∀ b (hb : b + 1 < (ws.zip ks).length), TermR ((ws.zip ks)[b]'(by omega)) (ws.zip ks)[b + 1] := fun b hb => by
    have h1 := elem_step h (i := b + 1) (by omega)
    unfold aheadOf at h1
    rw [if_neg (by omega), Nat.add_sub_cancel] at h1
    have h2 := elem_next h1
    rw [getD_of (show b < ws.length by omega), getD_of (show b + 1 < ws.length by omega), getD_of (show b < ks.length by omega), getD_of (show b + 1 < ks.length by omega)] at h2
    rw [List.getElem_zip, List.getElem_zip]
    exact h2
  have all : ∀ b a (ha : a < b) (hb : b < (ws.zip ks).length), TermR ((ws.zip ks)[a]'(by omega)) (ws.zip ks)[b] := fun b => by
    induction b with
    | zero => intro a ha; omega
    | succ b ih =>
      intro a ha hb hm
      have hs := step b hb
      rcases Nat.lt_or_eq_of_le (Nat.le_of_lt_succ ha) with c | c
      · have h1 := ih a c (by omega) hm
        have h2 := hs h1.1
        exact ⟨h2.1, Int.lt_trans h1.2 h2.2⟩
      · subst c
        exact hs hm
  exact fun a b ha hb hab => all b a hab hb
theorem elems_odd {l : List Ty} {n : Int} {ws : List ByteArray} {ks : List Int} (hl : ws.length = ks.length) (h : elemsB l n ws ks = true) : ∀ p ∈ ws.zip ks, markB p.1 = true → kindAt l p.2 ≠ 7 ∧ kindAt l p.2 ≠ 9 ∧ ¬ (14 ≤ p.2 ∧ p.2 ≤ 19) := fun p hp hm => by
  obtain ⟨i, hi, rfl⟩ := List.getElem_of_mem hp
  have hz : (ws.zip ks).length = ws.length := by rw [List.length_zip]; omega
  have h1 := elem_step h (i := i) (by omega)
  rw [getD_of (show i < ws.length by omega), getD_of (show i < ks.length by omega)] at h1
  rw [List.getElem_zip] at hm ⊢
  unfold elemB at h1
  rw [if_pos hm, Bool.and_eq_true] at h1
  exact (of_decide_eq_true h1.1).2
theorem take_ext (l : List Ty) {c : Nat} (hc : c ≤ l.length) : Ext (l.take c) l := by
  have e : (l.take c).length = c := by rw [List.length_take]; omega
  exact ⟨by rw [e], by rw [e]; exact hc⟩
/-- An interface that stands is tidy. -/
theorem right_tidy {l : List Ty} (hr : rightT l = true) {j : Nat} (hj : j < l.length) (h7 : l[j].kind = 7) : (l[j].words.zip l[j].kids).Pairwise TermR ∧ oddT l l[j] = false := by
  have hlen := kind7_len hr hj h7
  by_cases h22 : j < 22
  · have e : l[j].words = [] := by
      rw [right_low hr hj h22]
      unfold bas
      split <;> rfl
    unfold oddT
    rw [e]
    exact ⟨List.Pairwise.nil, rfl⟩
  · have hm := (right_high hr hj h22).1
    have hk := right_kids hr hj
    unfold madeB at hm
    rw [Bool.and_eq_true] at hm
    have hm := hm.2
    rw [h7] at hm
    simp at hm
    refine ⟨elems_pairs hlen hm.2, ?_⟩
    have ho := elems_odd hlen hm.2
    unfold oddT
    rw [List.any_eq_false]
    intro p hp
    cases hmk : markB p.1
    · simp
    · have g := ho p hp hmk
      have hb := hk _ (List.of_mem_zip hp).2
      have ek := (take_ext l (c := j) (by omega)).kind (k := p.2) hb.1 (by rw [List.length_take]; omega)
      unfold badT
      rw [ek]
      simp only [Bool.true_and, decide_eq_true_eq]
      intro g2
      rcases g2 with g2 | g2 | g2
      · exact g.1 g2
      · exact g.2.1 g2
      · exact g.2.2 g2
theorem swap_self {t : Ty} (h : ∀ k ∈ t.kids, 0 ≤ k) : swapT t (fun m => (m : Int)) = t := by
  obtain ⟨kd, nm, n, ws, ks⟩ := t
  unfold swapT
  congr 1
  conv => rhs; rw [← List.map_id ks]
  refine List.map_congr_left (fun k hk => ?_)
  have := h k hk
  show ((k.toNat : Nat) : Int) = k
  omega
theorem tidy_self {l : List Ty} (hr : rightT l = true) {j : Nat} (hj : j < l.length) (h7 : l[j].kind = 7) : tidyT l.length l[j] = l[j] := by
  have hlen := kind7_len hr hj h7
  have hp := (right_tidy hr hj h7).1
  have hk := right_kids hr hj
  rw [tidy_pairs, tidP_stays (fun p hp => by have := hk _ (List.of_mem_zip hp).2; omega) hp]
  obtain ⟨t, ht⟩ : ∃ t, l[j] = t := ⟨_, rfl⟩
  rw [ht] at hlen ⊢
  obtain ⟨kd, nm, n, ws, ks⟩ := t
  have hlen : ws.length = ks.length := hlen
  show (⟨kd, nm, n, (ws.zip ks).map Prod.fst, (ws.zip ks).map Prod.snd⟩ : Ty) = _
  rw [List.map_fst_zip (by omega), List.map_snd_zip (by omega)]
/-- Each param instead of itself. -/
theorem sub_self {l : List Ty} (hr : rightT l = true) {i : Nat} (hi : i < l.length) {self : List Int} (ha : askD (funT l) (i + 1) i ≤ (self.length : Int)) (hs : ∀ k : Nat, k < self.length → 0 ≤ self.getD k 0 ∧ self.getD k 0 < (l.length : Int) ∧ funT l (self.getD k 0).toNat = ⟨9, ⟨#[]⟩, (k : Int), [], []⟩) :
    substT l i self = (l, (i : Int), 0) := by
  have hfew : ¬ (self.length : Int) < askD (funT l) (i + 1) i := by omega
  have hkl := fun_kids hr hi
  refine subst_stays (J := fun m => (m : Int)) hr hi hfew (all_arena fun j hj => ⟨(hs j hj).1, (hs j hj).2.1⟩) ⟨fun m hm _ => by show 0 ≤ (m : Int) ∧ (m : Int) < _; omega, fun _ _ _ _ => rfl, fun m hm hn _ h9 => ?_, fun m hm hn _ h9 => ?_⟩
  · obtain ⟨g1, g2⟩ := param_in hr hi (by omega) hn h9 hfew
    obtain ⟨s1, s2, s3⟩ := hs (funT l m).n.toNat (by omega)
    have hml : m < l.length := by omega
    have e1 : funT l m = l[m] := getD_of hml
    rw [e1] at h9 g1 s1 s2 s3 ⊢
    have e2 := param_bare hr hml h9
    have hpl : (self.getD l[m].n.toNat 0).toNat < l.length := by omega
    have e3 : funT l (self.getD l[m].n.toNat 0).toNat = l[(self.getD l[m].n.toNat 0).toNat] := getD_of hpl
    rw [e3] at s3
    have e4 : ((l[m].n.toNat : Nat) : Int) = l[m].n := by omega
    rw [e4, ← e2] at s3
    have := right_once hr hpl hml s3
    show (m : Int) = self.getD l[m].n.toNat 0
    omega
  · have hml : m < l.length := by omega
    have e1 : funT l m = l[m] := getD_of hml
    have hk0 : ∀ k ∈ (funT l m).kids, 0 ≤ k := fun k hk => (hkl m (by omega) k hk).1
    refine ⟨fun g => ?_, ?_⟩
    · rw [swap_self hk0, e1] at g
      rw [(right_tidy hr hml g.1).2] at g
      cases g.2
    · show funT l ((m : Int)).toNat = newT l (funT l m) fun m => (m : Int)
      rw [Int.toNat_natCast]
      unfold newT
      rw [swap_self hk0]
      by_cases h7 : (funT l m).kind = 7
      · rw [if_pos h7, e1, tidy_self hr hml (by rw [e1] at h7; exact h7)]
      · rw [if_neg h7]
end Go.Proofs.YtleiaghegokjkaaGreatDoor
