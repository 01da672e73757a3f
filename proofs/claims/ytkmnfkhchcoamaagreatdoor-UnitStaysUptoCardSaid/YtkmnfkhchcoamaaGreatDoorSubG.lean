import Derived.Test.YtkmnfkhchcoamaaGreatDoorSubTidy
import Derived.Test.YtkmnfkhchcoamaaGreatDoorSubB
import Derived.Maps.Own
import Derived.Maps.OwnOps
import Derived.Maps.Keyed
import Derived.BigQuiet
import Derived.Deep.QuietTactic
/- A map of places, and the program's put. -/
namespace Go.Proofs.YtkmnfkhchcoamaaGreatDoor
open Go.RowKit
set_option linter.unusedSimpArgs false
set_option linter.unusedVariables false

theorem law_int : Maps.Keyed Tryz.prog 3 := Maps.int_keyed Tryz.underlying3
/-- Block b is a map that holds, for each place below c of which P, the place I. -/
def IMap (w : World) (b c : Nat) (P : Nat → Bool) (I : Nat → Int) : Prop :=
  ∃ (n : Nat) (D : DataW Unit), n ≤ c ∧ w.ownsMap Tryz.prog 3 (plainElem Tryz.prog 3) b n D ∧ ∀ m, m < c → P m = true → ∀ z : DataW Unit, D.atKey (.int .i64 (m : Int)) z = .lit (.int .i64 (I m))
theorem imap_new (w : World) (P : Nat → Bool) (I : Nat → Int) : IMap (w.alloc (.map #[] 0)) w.heap.size 0 P I :=
  ⟨0, .map [], Nat.le_refl _, World.ownsMap_made _ _ _ _, fun m hm => absurd hm (Nat.not_lt_zero _)⟩
theorem IMap.lt {w : World} {b c : Nat} {P : Nat → Bool} {I : Nat → Int} (h : IMap w b c P I) : b < w.heap.size := by
  obtain ⟨_, D, _, h1, -⟩ := h
  exact h1.lt
theorem IMap.below {w w' : World} {b c : Nat} {P : Nat → Bool} {I : Nat → Int} (h : IMap w b c P I) (hb : Below w.heap.size w w') : IMap w' b c P I := by
  have hlt := h.lt
  obtain ⟨n, D, hn, ⟨es, clock, h1, h2⟩, h3⟩ := h
  exact ⟨n, D, hn, ⟨es, clock, (hb.block b hlt).trans h1, h2⟩, h3⟩
theorem key_int {m : Nat} (hm : m ≤ 100000) : keyOf Tryz.prog 3 (.int .i64 (m : Int)) = some (.int .i64 (m : Int)) := Maps.keyOf_int_mk Tryz.underlying3 (wf_int (by omega))
theorem IMap.look {w : World} {b c : Nat} {P : Nat → Bool} {I : Nat → Int} (h : IMap w b c P I) {m : Nat} (hm : m < c) (hp : P m = true) (hc : c ≤ 100000) : (Instr.lookup 108 (.map (some b)) (.int .i64 (m : Int)) false).run Tryz.prog w = .ok (.int .i64 (I m)) w := by
  obtain ⟨n, D, hn, h1, h2⟩ := h
  obtain ⟨x, hrun, hat, -⟩ := h1.lookup_int law_int Tryz.underlying108 Tryz.underlying3 (zero_i64 w) (key_int (m := m) (by omega))
  rw [h2 m hm hp] at hat
  simp only [DataW.lit.injEq, Lit.int.injEq, true_and] at hat
  rw [hrun, ← hat]
theorem IMap.store {w : World} {b c : Nat} {P : Nat → Bool} {I : Nat → Int} (h : IMap w b c P I) (hc : c ≤ 100000) {v : Int} (hv : -9223372036854775808 ≤ v ∧ v ≤ 9223372036854775807) :
    ∃ w', (Instr.mapUpdate 108 (.map (some b)) (.int .i64 (c : Int)) (.int .i64 v)).run Tryz.prog w = .ok () w' ∧ IMap w' b (c + 1) P (updI I c v) ∧ w.grownBy w' (some b) := by
  obtain ⟨n, D, hn, h1, h2⟩ := h
  obtain ⟨w', hrun, h3, h4⟩ := h1.update law_int Tryz.underlying108 (by unfold maxLen; omega) (key_int hc) (plainElem_int (H := Unit) Tryz.underlying3 (a := v) (wf_int hv))
  refine ⟨w', hrun, ⟨n + 1, _, by omega, h3, fun m hm hp z => ?_⟩, h4⟩
  have hisk := law_int.key (key_int (m := c) hc)
  by_cases e : m = c
  · subst e
    rw [Maps.atKey_put_same h1.isMap hisk _ z, updI_at]
  · rw [Maps.atKey_put_other (by intro g; injection g with _ g; omega), updI_ne e]
    exact h2 m (by omega) hp z
theorem IMap.skip {w : World} {b c : Nat} {P : Nat → Bool} {I : Nat → Int} (h : IMap w b c P I) (hp : P c = false) (v : Int) : IMap w b (c + 1) P (updI I c v) := by
  obtain ⟨n, D, hn, h1, h2⟩ := h
  refine ⟨n, D, by omega, h1, fun m hm hpm z => ?_⟩
  have : m ≠ c := fun e => by rw [e, hp] at hpm; cases hpm
  rw [updI_ne this]
  exact h2 m (by omega) hpm z
/-- The kids with others instead, up to q. -/
def kidG (ks : List Int) (I : Nat → Int) (q : Nat) : Nat → Int := fun j => if j < q then I (ks.getD j 0).toNat else 0
theorem kidG_zero (ks : List Int) (I : Nat → Int) : kidG ks I 0 = fun _ => 0 := by funext j; simp [kidG]
theorem kidG_step {L : Nat} {ks : List Int} {I : Nat → Int} {q : Nat} {v : Int} (hv : I (ks.getD q 0).toNat = v) : (rowZ L (kidG ks I q)).setIfInBounds q (.int .i64 v) = rowZ L (kidG ks I (q + 1)) := by
  rw [rowZ_set]
  congr 1
  funext j
  unfold kidG
  by_cases h : j = q
  · subst h; rw [if_pos rfl, if_pos (by omega), hv]
  · rw [if_neg h]
    by_cases h2 : j < q
    · rw [if_pos h2, if_pos (by omega)]
    · rw [if_neg h2, if_neg (by omega)]
theorem kidG_row {w : World} {b m : Nat} {ks : List Int} {I : Nat → Int} (hm : ks.length = m) (h : BlockAt w b (rowZ m (kidG ks I m)) 3) : IRow w (some ⟨b, 0, none⟩) (ks.map fun k => I k.toNat) := by
  refine .inr ⟨b, 0, rfl, h.lt, fun i hi => ?_⟩
  rw [List.length_map] at hi
  rw [Nat.zero_add, h.cell i, rowZ_get (by omega), getD_of (by rw [List.length_map]; exact hi), List.getElem_map]
  unfold kidG
  rw [if_pos (by omega), getD_of hi]
theorem right_small {l : List Ty} (h : rightT l = true) {j : Nat} (hj : j < l.length) : TySm l[j] := by
  by_cases h22 : j < 22
  · rw [right_low h hj h22]
    intro s hs
    unfold bas at hs
    split at hs <;> cases hs
  · exact made_small (right_high h hj h22).1
theorem swap_ok {t : Ty} {I : Nat → Int} (h : TyOk t) (hk : ∀ k ∈ t.kids, -9223372036854775808 ≤ I k.toNat ∧ I k.toNat ≤ 9223372036854775807) : TyOk (swapT t I) :=
  ⟨h.nl, h.wl, by show (List.map _ _).length ≤ 18; rw [List.length_map]; exact h.kl, h.ws, h.nums, fun k hk2 => by
    obtain ⟨k0, h0, rfl⟩ := List.mem_map.1 hk2
    exact hk k0 h0⟩
theorem lasts_len : ∀ S : List Tm, (lasts S).length ≤ S.length
  | [] => Nat.le_refl _
  | [x] => Nat.le_refl _
  | x :: y :: r => by
    have ih := lasts_len (y :: r)
    unfold lasts
    split
    · rw [List.length_cons]; omega
    · rw [List.length_cons, List.length_cons]; omega
theorem tidy_len {t : Ty} {L : Nat} (hk : ∀ k ∈ t.kids, 0 ≤ k ∧ k < (L : Int)) : (tidyT L t).words.length ≤ t.words.length ∧ (tidyT L t).kids.length ≤ t.words.length := by
  have e : termP L (t.words.zip t.kids) = (lasts ((marksB (t.words.zip t.kids)).mergeSort fun x y => !ltT y x)).map decP := by rw [termP_marks, lasts_terms (marks_kids hk)]
  have h1 : (plainP t ++ termP L (t.words.zip t.kids)).length ≤ t.words.length := by
    rw [List.length_append, e, List.length_map]
    have h2 := lasts_len ((marksB (t.words.zip t.kids)).mergeSort fun x y => !ltT y x)
    rw [List.length_mergeSort] at h2
    have h3 : (plainP t).length + (marksB (t.words.zip t.kids)).length = (t.words.zip t.kids).length := by
      unfold plainP marksB
      rw [List.length_map]
      have : ∀ l : List (ByteArray × Int), (l.filter fun p => !markB p.1).length + (l.filter fun p => markB p.1).length = l.length := fun l => by
        induction l with
        | nil => rfl
        | cons p r ih =>
          rw [List.filter_cons, List.filter_cons]
          cases markB p.1 <;> simp <;> omega
      exact this _
    rw [List.length_zip] at h3
    omega
  unfold tidyT
  exact ⟨by show (List.map _ _).length ≤ _; rw [List.length_map]; exact h1, by show (List.map _ _).length ≤ _; rw [List.length_map]; exact h1⟩
theorem tidy_word {t : Ty} {L : Nat} {s : ByteArray} (h : s ∈ (tidyT L t).words) : s ∈ t.words ∨ s.size = 1 := by
  have h : s ∈ (plainP t ++ termP L (t.words.zip t.kids)).map (·.1) := h
  obtain ⟨p, hp, rfl⟩ := List.mem_map.1 h
  rcases List.mem_append.1 hp with hp | hp
  · exact .inl (List.of_mem_zip (List.mem_filter.1 hp).1).1
  · rw [termP_marks] at hp
    obtain ⟨x, _, rfl⟩ := List.mem_map.1 hp
    right
    show (wordOf x.1).size = 1
    cases x.1 <;> rfl
theorem tidy_kid {t : Ty} {L : Nat} (hk : ∀ k ∈ t.kids, 0 ≤ k ∧ k < (L : Int)) {k : Int} (h : k ∈ (tidyT L t).kids) : 0 ≤ k ∧ k < (L : Int) := by
  have h : k ∈ (plainP t ++ termP L (t.words.zip t.kids)).map (·.2) := h
  obtain ⟨p, hp, rfl⟩ := List.mem_map.1 h
  rcases List.mem_append.1 hp with hp | hp
  · exact hk _ (List.of_mem_zip (List.mem_filter.1 hp).1).2
  · rw [termP_marks] at hp
    obtain ⟨x, hx, rfl⟩ := List.mem_map.1 hp
    exact termQ_kid hx
theorem tidy_ok {t : Ty} {L : Nat} (h : TyOk t) (hL : L ≤ 1000) (hk : ∀ k ∈ t.kids, 0 ≤ k ∧ k < (L : Int)) : TyOk (tidyT L t) := by
  have hl := tidy_len hk
  have hw := h.wl
  refine ⟨h.nl, by omega, by omega, fun s hs => ?_, h.nums, fun k hk2 => ?_⟩
  · rcases tidy_word hs with g | g
    · exact h.ws s g
    · omega
  · have := tidy_kid hk hk2
    omega
theorem tidy_small {t : Ty} {L : Nat} (h : TySm t) : TySm (tidyT L t) := fun s hs => by
  rcases tidy_word hs with g | g
  · exact h s g
  · omega
theorem padd_putn {l : List Ty} {t : Ty} {I : Nat → Int} (hr : rightT l = true) (h7 : ¬ t.kind = 7) : paddT l (swapT t I) = putT l t I := by
  unfold paddT putT
  rw [if_pos hr, if_neg h7]
theorem padd_put7 {l : List Ty} {t : Ty} {I : Nat → Int} (hr : rightT l = true) (h7 : t.kind = 7) (ho : oddT l (swapT t I) = false) : paddT l (tidyT l.length (swapT t I)) = putT l t I := by
  unfold paddT putT
  rw [if_pos hr, if_pos h7, if_neg (by rw [ho]; decide)]
theorem put_odd {l : List Ty} {t : Ty} {I : Nat → Int} (h7 : t.kind = 7) (ho : oddT l (swapT t I) = true) : putT l t I = ([], 0, 11) := by
  unfold putT
  rw [if_pos h7, if_pos ho]
end Go.Proofs.YtkmnfkhchcoamaaGreatDoor
/- The program's put. -/
namespace Go.Proofs.YtkmnfkhchcoamaaGreatDoor
open Go.RowKit
set_option linter.unusedSimpArgs false
set_option linter.unusedVariables false

end Go.Proofs.YtkmnfkhchcoamaaGreatDoor
/- What holds while a type is put in, part by part. -/
namespace Go.Proofs.YtkmnfkhchcoamaaGreatDoor
open Go.RowKit
set_option linter.unusedSimpArgs false
set_option linter.unusedVariables false

/-- What Add gives, if it gives no error. -/
theorem add_good {l : List Ty} {t : Ty} (hr : rightT l = true) (he : (addT l t).2.2 = 0) :
    ∃ (M : List Ty) (p : Nat) (hp : p < M.length), addT l t = (M, (p : Int), 0) ∧ M[p] = t ∧ rightT M = true ∧ M.take l.length = l ∧ l.length ≤ M.length ∧ M.length ≤ l.length + 1 := by
  have hl := (right_step hr).1
  by_cases h0 : 0 ≤ atT l t
  · have hm : t ∈ l := Classical.byContradiction fun g => by have := atT_neg.2 g; omega
    obtain ⟨j, hj, rfl⟩ := List.getElem_of_mem hm
    refine ⟨l, j, hj, ?_, rfl, hr, List.take_length, Nat.le_refl _, by omega⟩
    unfold addT
    rw [if_pos h0, at_of hr hj rfl]
  · unfold addT at he ⊢
    rw [if_neg h0] at he ⊢
    cases hm : madeB l t
    · rw [hm, if_pos rfl] at he
      have he : (1 : Int) = 0 := he
      omega
    · rw [hm] at he
      rw [if_neg (by decide)] at he ⊢
      by_cases h4 : l.length = 400
      · rw [if_pos h4] at he
        have he : (7 : Int) = 0 := he
        omega
      · rw [if_neg h4]
        have hlen : (l ++ [t]).length = l.length + 1 := by simp
        refine ⟨l ++ [t], l.length, by omega, rfl, by simp, rightT_yes (by omega) (fun k hk => ?_), by simp, by omega, by omega⟩
        by_cases hkl : k < l.length
        · have := (right_step hr).2 k hkl
          rw [List.getElem_append_left hkl]
          unfold stepB at this ⊢
          by_cases h22 : k < 22
          · rw [if_pos h22] at this ⊢; exact this
          · rw [if_neg h22] at this ⊢
            rw [List.take_append_of_le_length (by omega)]
            exact this
        · obtain rfl : k = l.length := by omega
          unfold stepB
          rw [if_neg (by omega), List.take_left' rfl]
          have hnm : t ∉ l := atT_neg.1 (by omega)
          simp [hm, hnm]
/-- What is put in instead of a type. -/
def newT (l : List Ty) (t : Ty) (I : Nat → Int) : Ty := if t.kind = 7 then tidyT l.length (swapT t I) else swapT t I
theorem put_add {l : List Ty} {t : Ty} {I : Nat → Int} (h : ¬ (t.kind = 7 ∧ oddT l (swapT t I) = true)) : putT l t I = addT l (newT l t I) := by
  unfold putT newT
  by_cases h7 : t.kind = 7
  · rw [if_pos h7, if_pos h7, if_neg (fun g => h ⟨h7, g⟩)]
  · rw [if_neg h7, if_neg h7]
theorem put_err {l : List Ty} {t : Ty} {I : Nat → Int} (h : t.kind = 7 ∧ oddT l (swapT t I) = true) : putT l t I = ([], 0, 11) := put_odd h.1 h.2
theorem put_good {l : List Ty} {t : Ty} {I : Nat → Int} (hr : rightT l = true) (he : (putT l t I).2.2 = 0) :
    ¬ (t.kind = 7 ∧ oddT l (swapT t I) = true) ∧ ∃ (M : List Ty) (p : Nat) (hp : p < M.length), putT l t I = (M, (p : Int), 0) ∧ M[p] = newT l t I ∧ rightT M = true ∧ M.take l.length = l ∧ l.length ≤ M.length ∧ M.length ≤ l.length + 1 := by
  have hn : ¬ (t.kind = 7 ∧ oddT l (swapT t I) = true) := fun g => by
    rw [put_err g] at he
    have he : (11 : Int) = 0 := he
    omega
  rw [put_add hn] at he ⊢
  exact ⟨hn, add_good hr he⟩
theorem need_mono {f : Nat → Ty} {i : Nat} : ∀ {e d m : Nat}, d ≤ e → needD f i d m = true → needD f i e m = true
  | 0, d, m, h1, h => by
    have : d = 0 := by omega
    rwa [this] at h
  | e + 1, d, m, h1, h => by
    rcases Nat.lt_or_eq_of_le h1 with g | g
    · have := need_mono (e := e) (by omega) h
      show kmark (needD f i e) (i - e) (f (i - e)).kids m = true
      unfold kmark
      rw [this]
      rfl
    · rwa [g] at h
section
variable {f : Nat → Ty} {i : Nat} (hk : ∀ j, j ≤ i → ∀ k ∈ (f j).kids, 0 ≤ k ∧ k < (j : Int))
include hk
theorem need_final : ∀ {e d m : Nat}, d ≤ e → e ≤ i + 1 → i ≤ d + m → needD f i e m = needD f i d m
  | 0, d, m, h1, _, _ => by
    have : d = 0 := by omega
    rw [this]
  | e + 1, d, m, h1, h2, h3 => by
    rcases Nat.lt_or_eq_of_le h1 with h | h
    · rw [← need_final (e := e) (d := d) (by omega) (by omega) h3]
      show kmark (needD f i e) (i - e) (f (i - e)).kids m = needD f i e m
      unfold kmark
      have : ¬ ((m : Int) ∈ (f (i - e)).kids) := fun g => by
        have := hk (i - e) (by omega) _ g
        omega
      simp [this]
    · rw [h]
theorem need_kid {c : Nat} (hc : c ≤ i) (h : needD f i (i + 1) c = true) {k : Int} (hkc : k ∈ (f c).kids) : needD f i (i + 1) k.toNat = true := by
  have g := hk c hc k hkc
  rw [need_final hk (e := i + 1) (d := i - c) (by omega) (by omega) (by omega)] at h
  refine need_mono (d := i - c + 1) (by omega) ?_
  show kmark (needD f i (i - c)) (i - (i - c)) (f (i - (i - c))).kids k.toNat = true
  rw [show i - (i - c) = c by omega]
  unfold kmark
  rw [h, show ((k.toNat : Nat) : Int) = k by omega]
  simp [hkc]
theorem need_ask : ∀ {d m : Nat}, needD f i d m = true → askD f (i + 1) m ≤ askD f (i + 1) i
  | 0, m, h => by
    have : m = i := of_decide_eq_true h
    rw [this]
    exact Int.le_refl _
  | d + 1, m, h => by
    have h : kmark (needD f i d) (i - d) (f (i - d)).kids m = true := h
    unfold kmark at h
    rw [Bool.or_eq_true] at h
    rcases h with h | h
    · exact need_ask h
    · rw [Bool.and_eq_true] at h
      have hm := of_decide_eq_true h.2
      have g := hk (i - d) (by omega) _ hm
      refine Int.le_trans ?_ (need_ask h.1)
      have e := askD_stay (f := f) (m := m) (c := i - d) (d := i + 1) (by omega) (by omega)
      rw [askD_self (show i - d < i + 1 by omega), e]
      have := askF_kid (A := askD f (i - d)) (n := ask0 (f (i - d))) hm
      rw [Int.toNat_natCast] at this
      exact this
end
theorem fun_kids {l : List Ty} (hr : rightT l = true) {i : Nat} (hi : i < l.length) : ∀ j, j ≤ i → ∀ k ∈ (funT l j).kids, 0 ≤ k ∧ k < (j : Int) := fun j hj k hk => by
  unfold funT at hk
  rw [getD_of (show j < l.length by omega)] at hk
  exact right_kids hr (by omega) k hk
/-- What holds. -/
structure Inv (l : List Ty) (i c : Nat) (s : SS) : Prop where
  right : rightT s.now = true
  pre : s.now.take l.length = l
  len : l.length ≤ s.now.length
  ins : ∀ m, m < c → needD (funT l) i (i + 1) m = true → 0 ≤ s.ins m ∧ s.ins m < (s.now.length : Int)
theorem inv_zero {l : List Ty} (hr : rightT l = true) (i : Nat) (args : List Int) : Inv l i 0 (runT l i args 0) :=
  ⟨hr, List.take_length, Nat.le_refl _, fun m hm => absurd hm (Nat.not_lt_zero _)⟩
theorem in_arena {l : List Ty} {args : List Int} (h : inArena l args = true) {k : Nat} (hk : k < args.length) : 0 ≤ args.getD k 0 ∧ args.getD k 0 < (l.length : Int) := by
  unfold inArena at h
  rw [List.all_eq_true] at h
  exact of_decide_eq_true (h _ (getD_mem hk))
theorem param_in {l : List Ty} (hr : rightT l = true) {i c : Nat} (hi : i < l.length) (hc : c ≤ i) (hn : needD (funT l) i (i + 1) c = true) (h9 : (funT l c).kind = 9) {args : List Int} (ha : ¬ (args.length : Int) < askD (funT l) (i + 1) i) : 0 ≤ (funT l c).n ∧ (funT l c).n < (args.length : Int) := by
  have g := right_param hr c h9
  have h1 := need_ask (fun_kids hr hi) hn
  rw [askD_self (show c < i + 1 by omega)] at h1
  have h2 := askF_ge (A := askD (funT l) c) (n := ask0 (funT l c)) (ks := (funT l c).kids)
  have h3 : ask0 (funT l c) = (funT l c).n + 1 := by unfold ask0; rw [if_pos h9]
  omega
theorem inv_step {l : List Ty} (hr : rightT l = true) {i : Nat} (hi : i < l.length) {args : List Int} (hin : inArena l args = true) (ha : ¬ (args.length : Int) < askD (funT l) (i + 1) i) {c : Nat} (hc : c ≤ i) {s : SS} (h0 : s.err = 0) (h : Inv l i c s)
    (he : (stepS (funT l) (needD (funT l) i (i + 1)) (askD (funT l) (i + 1)) args c s).err = 0) : Inv l i (c + 1) (stepS (funT l) (needD (funT l) i (i + 1)) (askD (funT l) (i + 1)) args c s) := by
  have keep : ∀ (v : Int), (needD (funT l) i (i + 1) c = true → 0 ≤ v ∧ v < (s.now.length : Int)) → Inv l i (c + 1) ⟨updI s.ins c v, s.now, 0⟩ := fun v hv =>
    ⟨h.right, h.pre, h.len, fun m hm hn => by
      show 0 ≤ updI s.ins c v m ∧ updI s.ins c v m < (s.now.length : Int)
      by_cases e : m = c
      · subst e; rw [updI_at]; exact hv hn
      · rw [updI_ne e]; exact h.ins m (by omega) hn⟩
  have hlen := h.len
  by_cases hs : needD (funT l) i (i + 1) c = false ∨ askD (funT l) (i + 1) c = 0
  · rw [stepS_skip h0 hs]
    exact keep _ (fun _ => by omega)
  · have hn : needD (funT l) i (i + 1) c = true := by
      cases hh : needD (funT l) i (i + 1) c
      · exact absurd (.inl hh) hs
      · rfl
    have hA : ¬ askD (funT l) (i + 1) c = 0 := fun g => hs (.inr g)
    by_cases h9 : (funT l c).kind = 9
    · rw [stepS_param h0 hn hA h9]
      obtain ⟨g1, g2⟩ := param_in hr hi hc hn h9 ha
      have := in_arena hin (k := (funT l c).n.toNat) (by omega)
      exact keep _ (fun _ => by omega)
    · by_cases hp : (putT s.now (funT l c) s.ins).2.2 = 0
      · obtain ⟨-, M, p, hpM, e, -, hR, hT, hL, -⟩ := put_good h.right hp
        rw [stepS_put h0 hn hA h9 e]
        refine ⟨hR, ?_, Nat.le_trans h.len hL, fun m hm hnm => ?_⟩
        · show M.take l.length = l
          have e1 : M.take l.length = (M.take s.now.length).take l.length := by rw [List.take_take, Nat.min_eq_left h.len]
          rw [e1, hT, h.pre]
        · show 0 ≤ updI s.ins c p m ∧ updI s.ins c p m < (M.length : Int)
          by_cases em : m = c
          · rw [em, updI_at]; omega
          · rw [updI_ne em]
            have := h.ins m (by omega) hnm
            omega
      · exfalso
        obtain ⟨M, p, e'⟩ : ∃ M p, putT s.now (funT l c) s.ins = (M, p, (putT s.now (funT l c) s.ins).2.2) := ⟨_, _, rfl⟩
        rw [stepS_fail h0 hn hA h9 e' hp] at he
        exact hp he
theorem inv_run {l : List Ty} (hr : rightT l = true) {i : Nat} (hi : i < l.length) {args : List Int} (hin : inArena l args = true) (ha : ¬ (args.length : Int) < askD (funT l) (i + 1) i) : ∀ c, c ≤ i + 1 → (runT l i args c).err = 0 → Inv l i c (runT l i args c)
  | 0, _, _ => inv_zero hr i args
  | c + 1, hc, he => by
    have h0 : (runT l i args c).err = 0 := Classical.byContradiction fun g => by
      have := runS_bad (f := funT l) (nd := needD (funT l) i (i + 1)) (A := askD (funT l) (i + 1)) (args := args) (l := l) (c := c) (d := c + 1) rfl g (by omega)
      rw [show (runT l i args (c + 1)).err = _ from this] at he
      exact g he
    exact inv_step hr hi hin ha (by omega) h0 (inv_run hr hi hin ha c (by omega) h0) he
end Go.Proofs.YtkmnfkhchcoamaaGreatDoor
/- The program's Subst. -/
namespace Go.Proofs.YtkmnfkhchcoamaaGreatDoor
open Go.RowKit
set_option linter.unusedSimpArgs false
set_option linter.unusedVariables false

theorem IMap.none {w : World} {b c : Nat} {P : Nat → Bool} {I : Nat → Int} (h : IMap w b c P I) {a : Addr} {v : Value} (hc : w.cell? a = some v) : a.block ≠ b := fun e => by
  obtain ⟨n, D, hn, ⟨es, clock, h1, h2⟩, h3⟩ := h
  unfold World.cell? at hc
  rw [e, h1] at hc
  cases hc
section
variable {w w' : World} {mb : Nat}
theorem block_map {b : Nat} {cs : Array Value} {T : TypeId} (h : BlockAt w b cs T) (hb : b ≠ mb) (hg : w.grownBy w' (some mb)) : BlockAt w' b cs T := by
  have : w'.heap[b]? = w.heap[b]? := hg.block b h.lt (fun e => hb (by injection e))
  unfold BlockAt
  rw [this]
  exact h
end
theorem make_imap (w : World) : (Instr.makeMap 108 none).run Tryz.prog w = .ok (.map (some w.heap.size)) (w.alloc (.map #[] 0)) := run_makeMap _ _
/-- What the program's Subst gives. -/
def psubT (l : List Ty) (i : Int) (args : List Int) : List Ty × Int × Int := if thereT l i = 0 then substT l i.toNat args else ([], 0, thereT l i)
theorem sub_few {l : List Ty} {i : Nat} {args : List Int} (h : (args.length : Int) < askD (funT l) (i + 1) i) : substT l i args = ([], 0, 1) := by unfold substT; rw [if_pos h]
theorem sub_out {l : List Ty} {i : Nat} {args : List Int} (h : ¬ (args.length : Int) < askD (funT l) (i + 1) i) (h2 : inArena l args = false) : substT l i args = ([], 0, 1) := by unfold substT; rw [if_neg h, if_pos h2]
theorem sub_err {l : List Ty} {i : Nat} {args : List Int} {e : Int} (h : ¬ (args.length : Int) < askD (funT l) (i + 1) i) (h2 : inArena l args = true) (h3 : (runT l i args (i + 1)).err = e) (h4 : e ≠ 0) : substT l i args = ([], 0, e) := by
  unfold substT; rw [if_neg h, if_neg (by rw [h2]; decide), h3, if_pos h4]
theorem sub_ok {l : List Ty} {i : Nat} {args : List Int} {s : SS} (h : ¬ (args.length : Int) < askD (funT l) (i + 1) i) (h2 : inArena l args = true) (h3 : runT l i args (i + 1) = s) (h4 : s.err = 0) : substT l i args = (s.now, s.ins i, 0) := by
  unfold substT; rw [if_neg h, if_neg (by rw [h2]; decide), h3, if_neg (by omega)]
theorem out_arena {l : List Ty} {args : List Int} {k : Nat} (hk : k < args.length) (h : args.getD k 0 < 0 ∨ (l.length : Int) ≤ args.getD k 0) : inArena l args = false := by
  unfold inArena
  rw [Bool.eq_false_iff]
  intro g
  rw [List.all_eq_true] at g
  have := of_decide_eq_true (g _ (getD_mem hk))
  omega
theorem all_arena {l : List Ty} {args : List Int} (h : ∀ j, j < args.length → 0 ≤ args.getD j 0 ∧ args.getD j 0 < (l.length : Int)) : inArena l args = true := by
  unfold inArena
  rw [List.all_eq_true]
  intro a ha
  obtain ⟨j, hj, rfl⟩ := List.getElem_of_mem ha
  have := h j hj
  rw [getD_of hj] at this
  exact decide_eq_true this
theorem run_step (l : List Ty) (i : Nat) (args : List Int) (c : Nat) : runT l i args (c + 1) = stepS (funT l) (needD (funT l) i (i + 1)) (askD (funT l) (i + 1)) args c (runT l i args c) := rfl
theorem kind7_len {l : List Ty} (hr : rightT l = true) {j : Nat} (hj : j < l.length) (h7 : l[j].kind = 7) : l[j].words.length = l[j].kids.length := by
  by_cases h22 : j < 22
  · rw [right_low hr hj h22]
    unfold bas
    split <;> rfl
  · exact ((made_shape (right_high hr hj h22).1).lens (.inr h7)).1
end Go.Proofs.YtkmnfkhchcoamaaGreatDoor

