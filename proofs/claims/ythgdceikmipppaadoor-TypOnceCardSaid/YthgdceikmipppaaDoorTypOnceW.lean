/- The law TypOnce: its walk. -/
import Derived.Test.YthgdceikmipppaaDoorTypAddsW
import Derived.Test.YthgdceikmipppaaDoorTypSM
import Derived.Test.YthgdceikmipppaaDoorTypLike
namespace Go.Proofs.YthgdceikmipppaaDoor
open Go.RowKit
set_option linter.unusedSimpArgs false
set_option linter.unusedVariables false

/-- A text speaks of the types up to its own. -/
theorem need_congr {f g : Nat → Ty} {i : Nat} (h : ∀ j, j ≤ i → f j = g j) : ∀ c, needD f i c = needD g i c
  | 0 => rfl
  | c + 1 => by
    show kmark (needD f i c) (i - c) (f (i - c)).kids = kmark (needD g i c) (i - c) (g (i - c)).kids
    rw [need_congr h c, h (i - c) (by omega)]
theorem run_congr {f g : Nat → Ty} {nd : Nat → Bool} {i : Nat} (h : ∀ j, j ≤ i → f j = g j) : ∀ k, k ≤ i + 1 → runF f nd k = runF g nd k
  | 0, _ => rfl
  | k + 1, hk => by
    show (match runF f nd k with | none => none | some T => if nd k = true then (if 4000 < (textF (f k) (kidsT T (f k))).size then none else some fun m => if m = k then textF (f k) (kidsT T (f k)) else T m) else some T) = _
    rw [run_congr h k (by omega), h k (by omega)]
    rfl
theorem out_congr {f g : Nat → Ty} {i : Nat} (h : ∀ j, j ≤ i → f j = g j) : outF f i = outF g i := by
  unfold outF
  rw [need_congr h, run_congr h (i + 1) (Nat.le_refl _)]
theorem out_err (f : Nat → Ty) (i : Nat) : (outF f i).2 = 0 ∨ (outF f i).2 = 7 := by
  unfold outF
  split
  · exact .inr rfl
  · exact .inl rfl
theorem out_text {f : Nat → Ty} {i : Nat} (h : (outF f i).2 = 0) : ∃ T, (outF f i).1 = textF (f i) (kidsT T (f i)) := by
  unfold outF at h ⊢
  have hn : needD f i (i + 1) i = true := needD_self f i (i + 1)
  obtain ⟨nd, hnd⟩ : ∃ nd, needD f i (i + 1) = nd := ⟨_, rfl⟩
  rw [hnd] at h hn ⊢
  cases hr : runF f nd i with
  | none =>
    rw [runF_none hr (i + 1) (by omega)] at h
    have h : (7 : Int) = 0 := h
    omega
  | some T =>
    by_cases hl : 4000 < (textF (f i) (kidsT T (f i))).size
    · rw [runF_long hr hn hl] at h
      have h : (7 : Int) = 0 := h
      omega
    · rw [runF_next hr hn hl]
      exact ⟨T, by simp⟩
theorem joinT_cons (x : ByteArray) (r : List ByteArray) (sep : ByteArray) : x.size ≤ (joinT (x :: r) sep).size := by
  have e2 : (joinT (x :: r) sep).size = (Lib.join ((x :: r).map (·.data.toList)) sep.data.toList).length := by
    unfold joinT
    show ((Lib.join ((x :: r).map (·.data.toList)) sep.data.toList).toArray).size = _
    simp
  rw [e2, List.map_cons, Lib.join_length]
  have : Lib.lens (x.data.toList :: r.map (·.data.toList)) = x.size + Lib.lens (r.map (·.data.toList)) := by simp [Lib.lens]
  omega
theorem named_pos {s : ByteArray} (h : namedB s = true) : 0 < s.size := by
  unfold namedB at h
  cases hd : dotAt s with
  | none => rw [hd] at h; cases h
  | some i =>
    unfold dotAt at hd
    have := List.mem_of_find?_eq_some hd
    have := List.mem_range.1 this
    omega
theorem bas_pos : ∀ k, k < 20 → 0 < (basicNames.getD k ⟨#[]⟩).size := by decide
theorem text_pos {l : List Ty} (h : rightT l = true) {j : Nat} (hj : j < l.length) (ks : List ByteArray) : 0 < (textF l[j] ks).size := by
  have hs : ∀ a b : ByteArray, (a ++ b).size = a.size + b.size := fun a b => ByteArray.size_append
  have h42 : (⟨#[42]⟩ : ByteArray).size = 1 := rfl
  have h91 : (⟨#[91, 93]⟩ : ByteArray).size = 2 := rfl
  have h91' : (⟨#[91]⟩ : ByteArray).size = 1 := rfl
  have h93 : (⟨#[93]⟩ : ByteArray).size = 1 := rfl
  have h125 : (⟨#[125]⟩ : ByteArray).size = 1 := rfl
  have h35 : (⟨#[35]⟩ : ByteArray).size = 1 := rfl
  have h41 : (⟨#[41]⟩ : ByteArray).size = 1 := rfl
  by_cases hk : l[j].kind = 0 ∨ l[j].kind = 8
  · have hname : 0 < l[j].name.size := by
      by_cases h22 : j < 22
      · have hb := right_low h hj h22
        rw [hb] at hk ⊢
        unfold bas at hk ⊢
        split
        · rename_i h20; exact bas_pos j h20
        · rename_i h20
          rw [if_neg h20] at hk
          rcases hk with hk | hk
          · have hk : (7 : Int) = 0 := hk
            omega
          · have hk : (7 : Int) = 8 := hk
            omega
      · have hm := (right_high h hj h22).1
        unfold madeB at hm
        rw [Bool.and_eq_true] at hm
        have hm := hm.2
        rcases hk with hk | hk
        · rw [hk] at hm
          exact absurd hm (by simp)
        · rw [hk] at hm
          have hm2 : (namedB l[j].name && decide (l[j].kids.length ≤ 16 ∧ l[j].n = 0 ∧ l[j].words = [])) = true := by simpa using hm
          rw [Bool.and_eq_true] at hm2
          exact named_pos hm2.1
    have e : textF l[j] ks = if 0 < ks.length then ((l[j].name ++ ⟨#[91]⟩) ++ joinT ks ⟨#[44, 32]⟩) ++ ⟨#[93]⟩ else l[j].name := by
      unfold textF
      rcases hk with hk | hk <;> rw [hk] <;> rfl
    rw [e]
    split
    · rw [hs, hs, hs]; omega
    · exact hname
  · obtain ⟨t, ht⟩ : ∃ t, l[j] = t := ⟨_, rfl⟩
    have hm : t.kind = 1 ∨ t.kind = 2 ∨ t.kind = 3 ∨ t.kind = 4 ∨ t.kind = 5 ∨ t.kind = 6 ∨ t.kind = 7 ∨ t.kind = 9 := by
      by_cases h22 : j < 22
      · have hb := right_low h hj h22
        rw [hb] at hk ht
        rw [← ht]
        unfold bas at hk ⊢
        split
        · rename_i h20
          rw [if_pos h20] at hk
          exact absurd (.inl rfl) hk
        · exact .inr (.inr (.inr (.inr (.inr (.inr (.inl rfl))))))
      · have hm := (right_high h hj h22).1
        rw [ht] at hm hk
        unfold madeB at hm
        rw [Bool.and_eq_true] at hm
        have hm := hm.2
        rcases Classical.em (t.kind = 1 ∨ t.kind = 2) with g | g
        · rcases g with g | g
          · exact .inl g
          · exact .inr (.inl g)
        rw [if_neg g] at hm
        by_cases g3 : t.kind = 3
        · exact .inr (.inr (.inl g3))
        rw [if_neg g3] at hm
        by_cases g4 : t.kind = 4
        · exact .inr (.inr (.inr (.inl g4)))
        rw [if_neg g4] at hm
        by_cases g5 : t.kind = 5
        · exact .inr (.inr (.inr (.inr (.inl g5))))
        rw [if_neg g5] at hm
        by_cases g6 : t.kind = 6
        · exact .inr (.inr (.inr (.inr (.inr (.inl g6)))))
        rw [if_neg g6] at hm
        by_cases g7 : t.kind = 7
        · exact .inr (.inr (.inr (.inr (.inr (.inr (.inl g7))))))
        rw [if_neg g7] at hm
        rw [if_neg (fun g8 => hk (.inr g8))] at hm
        by_cases g9 : t.kind = 9
        · exact .inr (.inr (.inr (.inr (.inr (.inr (.inr g9))))))
        rw [if_neg g9] at hm
        cases hm
    rw [ht]
    unfold textF
    rcases hm with e | e | e | e | e | e | e | e
    · rw [if_pos e, hs]; omega
    · rw [if_neg (by omega), if_pos e, hs]; omega
    · rw [if_neg (by omega), if_neg (by omega), if_pos e, hs, hs, hs]; omega
    · rw [if_neg (by omega), if_neg (by omega), if_neg (by omega), if_pos e, hs, hs, hs]; omega
    · rw [if_neg (by omega), if_neg (by omega), if_neg (by omega), if_neg (by omega), if_pos e]
      refine Nat.lt_of_lt_of_le ?_ (joinT_cons _ _ _)
      rw [hs]; omega
    · rw [if_neg (by omega), if_neg (by omega), if_neg (by omega), if_neg (by omega), if_neg (by omega), if_pos e, hs]; omega
    · rw [if_neg (by omega), if_neg (by omega), if_neg (by omega), if_neg (by omega), if_neg (by omega), if_neg (by omega), if_pos e, hs]; omega
    · rw [if_neg (by omega), if_neg (by omega), if_neg (by omega), if_neg (by omega), if_neg (by omega), if_neg (by omega), if_neg (by omega), if_pos e, hs]; omega
theorem out_pos {l : List Ty} (h : rightT l = true) {j : Nat} (hj : j < l.length) (h0 : (outF (fun j => l.getD j noT) j).2 = 0) : 0 < (outF (fun j => l.getD j noT) j).1.size := by
  obtain ⟨T, hT⟩ := out_text h0
  rw [hT]
  show 0 < (textF (l.getD j noT) (kidsT T (l.getD j noT))).size
  rw [getD_of hj]
  exact text_pos h hj _
/-- What Add gives, if it gives no error. -/
theorem add_good {l : List Ty} {t : Ty} (hr : rightT l = true) (he : (addT l t).2.2 = 0) :
    ∃ (M : List Ty) (p : Nat) (hp : p < M.length), addT l t = (M, (p : Int), 0) ∧ M[p] = t ∧ rightT M = true ∧ M.take l.length = l ∧ l.length ≤ M.length ∧ M.length ≤ l.length + 1 := by
  have hl := (right_step hr).1
  by_cases h0 : 0 ≤ atT l t
  · have hm : t ∈ l := Classical.byContradiction fun g => by have := atT_neg.2 g; omega
    obtain ⟨j, hj, rfl⟩ := List.getElem_of_mem hm
    refine ⟨l, j, hj, ?_, rfl, hr, List.take_length, Nat.le_refl _, by omega⟩
    unfold addT
    rw [if_pos h0, at_of hr hj rfl]
  · unfold addT at he ⊢
    rw [if_neg h0] at he ⊢
    cases hm : madeB l t
    · rw [hm, if_pos rfl] at he
      have he : (1 : Int) = 0 := he
      omega
    · rw [hm] at he
      rw [if_neg (by decide)] at he ⊢
      by_cases h4 : l.length = 400
      · rw [if_pos h4] at he
        have he : (7 : Int) = 0 := he
        omega
      · rw [if_neg h4]
        have hlen : (l ++ [t]).length = l.length + 1 := by simp
        refine ⟨l ++ [t], l.length, by omega, rfl, by simp, rightT_yes (by omega) (fun k hk => ?_), by simp, by omega, by omega⟩
        by_cases hkl : k < l.length
        · have := (right_step hr).2 k hkl
          rw [List.getElem_append_left hkl]
          unfold stepB at this ⊢
          by_cases h22 : k < 22
          · rw [if_pos h22] at this ⊢; exact this
          · rw [if_neg h22] at this ⊢
            rw [List.take_append_of_le_length (by omega)]
            exact this
        · obtain rfl : k = l.length := by omega
          unfold stepB
          rw [if_neg (by omega), List.take_left' rfl]
          have hnm : t ∉ l := atT_neg.1 (by omega)
          simp [hm, hnm]
theorem add_bad {l : List Ty} {t : Ty} (he : (addT l t).2.2 ≠ 0) : (addT l t).1 = [] := by
  unfold addT at he ⊢
  split
  · rename_i h; rw [if_pos h] at he; exact absurd rfl he
  · rename_i h
    rw [if_neg h] at he
    split
    · rfl
    · rename_i h2
      rw [if_neg h2] at he
      split
      · rfl
      · rename_i h3; rw [if_neg h3] at he; exact absurd rfl he
theorem padd_good {l : List Ty} {t : Ty} (he : (paddT l t).2.2 = 0) :
    rightT l = true ∧ ∃ (M : List Ty) (p : Nat) (hp : p < M.length), paddT l t = (M, (p : Int), 0) ∧ M[p] = t ∧ rightT M = true ∧ M.take l.length = l ∧ l.length ≤ M.length ∧ M.length ≤ l.length + 1 := by
  cases hr : rightT l
  · rw [padd_wrong hr] at he
    exact absurd he (by decide)
  · refine ⟨rfl, ?_⟩
    have e : paddT l t = addT l t := by unfold paddT; rw [if_pos hr]
    rw [e] at he ⊢
    exact add_good hr he
theorem padd_bad0 {l : List Ty} {t : Ty} (he : (paddT l t).2.2 ≠ 0) : (paddT l t).1 = [] := by
  unfold paddT at he ⊢
  split
  · rename_i h; rw [if_pos h] at he; exact add_bad he
  · rfl
theorem padd_again {M : List Ty} {p : Nat} (hr : rightT M = true) (hp : p < M.length) {t : Ty} (e : M[p] = t) : paddT M t = (M, (p : Int), 0) := by
  rw [padd_there hr (by rw [at_of hr hp e]; omega), at_of hr hp e]
/-- Text of a right arena. -/
theorem text_any (l : List Ty) (ao : Option Addr) (ac i : Nat) (w : World) (hl : ARow w ao l) (hr : rightT l = true) (hac : l.length ≤ ac) (hE : Env w) (hi : i < l.length) :
    Calls Tryd.prog 18 #[.slice ao l.length ac, .int .i64 i] w (TextR (fun j => l.getD j noT) i w) :=
  text_in l ao ac i w hl hr hac hE hi (fun j hj _ _ => kind_of hr hj)
/-- A type's cells in a row, and its rows. -/
def MCell (w : World) (b o : Nat) (t : Ty) (wo : Option Addr) (wc : Nat) (ko : Option Addr) (kc : Nat) : Prop :=
  b < w.heap.size ∧ w.cell? ⟨b, o, none⟩ = some (.int .i64 t.kind) ∧ w.cell? ⟨b, o + 1, none⟩ = some (.string t.name) ∧ w.cell? ⟨b, o + 2, none⟩ = some (.int .i64 t.n) ∧ w.cell? ⟨b, o + 3, none⟩ = some (.slice wo t.words.length wc) ∧ w.cell? ⟨b, o + 4, none⟩ = some (.slice ko t.kids.length kc) ∧ TyC w wo ko t
theorem MCell.below {w w' : World} {b o : Nat} {t : Ty} {wo ko : Option Addr} {wc kc : Nat} (h : MCell w b o t wo wc ko kc) (hb : Below w.heap.size w w') : MCell w' b o t wo wc ko kc := by
  obtain ⟨h0, h1, h2, h3, h4, h5, h6⟩ := h
  exact ⟨Nat.lt_of_lt_of_le h0 hb.size, (hb.cell h0).trans h1, (hb.cell h0).trans h2, (hb.cell h0).trans h3, (hb.cell h0).trans h4, (hb.cell h0).trans h5, h6.below hb⟩
theorem mcell_of {w : World} {b o : Nat} {t : Ty} (h : TyAt w b o t) (hb : b < w.heap.size) : ∃ wo wc ko kc, MCell w b o t wo wc ko kc := by
  obtain ⟨wo, wc, ko, kc, h1, h2, h3, h4, h5, _, _, h8⟩ := h
  exact ⟨wo, wc, ko, kc, hb, h1, h2, h3, h4, h5, h8⟩
theorem tmod_nat (I : Nat) {n : Nat} : ((I : Int)).tmod (n : Int) = ((I % n : Nat) : Int) := by
  rw [Int.tmod_eq_emod_of_nonneg (by omega)]
  omega
theorem norm_place (i : Int) {q : Nat} (hq : 0 < q) : ∃ (T : Int) (s : Nat), i.tmod (q : Int) = T ∧ -(q : Int) < T ∧ T < q ∧ (T + q).tmod (q : Int) = (s : Int) ∧ s < q := by
  have h := Int.tmod_lt_of_pos i (show (0 : Int) < q by omega)
  have h2 := Int.lt_tmod_of_pos i (show (0 : Int) < q by omega)
  refine ⟨i.tmod q, ((i.tmod q + q) % q).toNat, rfl, h2, h, ?_, ?_⟩
  · rw [Int.tmod_eq_emod_of_nonneg (by omega)]
    have := Int.emod_nonneg (i.tmod q + q) (show (q : Int) ≠ 0 by omega)
    omega
  · have := Int.emod_nonneg (i.tmod q + q) (show (q : Int) ≠ 0 by omega)
    have := Int.emod_lt_of_pos (i.tmod q + q) (show (0 : Int) < q by omega)
    omega
theorem take_get {us M : List Ty} (h : M.take us.length = us) (hl : us.length ≤ M.length) {j : Nat} (hj : j < us.length) : us.getD j noT = M.getD j noT := by
  rw [getD_of hj, getD_of (show j < M.length by omega)]
  have : us[j] = (M.take us.length)[j]'(by rw [List.length_take]; omega) := by
    congr 1
    exact h.symm
  rw [this, List.getElem_take]
set_option maxHeartbeats 64000000 in
set_option maxRecDepth 100000 in
theorem once_walk (ao : Option Addr) (l : List Ty) (cap : Nat) (t : Ty) (wo ko : Option Addr) (wc kc : Nat) (ia ja : Int) (w : World) (hl : CameT w ao l cap) (ht : TyIn w wo ko wc kc t) (hia : (Lit.int .i64 ia).wf = true) (hja : (Lit.int .i64 ja).wf = true) (hE : Env w) :
    Calls Tryd.prog 5 #[.slice ao l.length cap, tyV t wo wc ko kc, .int .i64 ia, .int .i64 ja] w fun e w' => e = .returned (.bool true) ∧ Below w.heap.size w w' := by
  unfold tyV
  have HI := Lib.hid hl
  have HT := Lib.hid ht
  have HE := Lib.hid hE
  obtain ⟨w1, h1⟩ : ∃ w1, w.alloc (.cells #[.int .i64 t.kind, .string t.name, .int .i64 t.n, .slice wo t.words.length wc, .slice ko t.kids.length kc] 31) = w1 := ⟨_, rfl⟩
  obtain ⟨k1, q1, z1⟩ := box_new h1
  have BW := Lib.hid q1
  have K1 := Lib.hid k1
  have Z1 := Lib.hid z1
  clear hl ht hE k1 q1 z1
  go_enter Tryd.func5, Tryd.ntmps5
  go_wp2_with fail
  clear h1
  obtain ⟨c0, c1, c2, c3, c4⟩ := cell5 K1.out
  refine GoG.start [(5, ⟨w.heap.size, 0, none⟩, .int .i64 t.kind), (5, ⟨w.heap.size, 1, none⟩, .string t.name), (5, ⟨w.heap.size, 2, none⟩, .int .i64 t.n), (5, ⟨w.heap.size, 3, none⟩, .slice wo t.words.length wc), (5, ⟨w.heap.size, 4, none⟩, .slice ko t.kids.length kc)] (by kernel_rfl) ?_ ?_
  · exact (Keeps.cons (by first | assumption | simp [*]) (Keeps.cons (by first | assumption | simp [*]) (Keeps.cons (by first | assumption | simp [*]) (Keeps.cons (by first | assumption | simp [*]) (Keeps.cons (by first | assumption | simp [*]) (Keeps.nil))))))
  refine GoG.take (i := 0) (v := ?_) [] rfl (by kernel_rfl) (by kernel_rfl) (by kernel_rfl) (by kernel_rfl) (by kernel_rfl) (by kernel_rfl) (fun _ _ _ h => h) (yields_free (by rfl) (fun w => ?_)) ?_
  rotate_left
  · go_simp; try (with_reducible rfl)
  try simp only [Act.put, List.getElem_toArray, List.getElem_cons_succ, List.getElem_cons_zero, List.setIfInBounds_toArray, List.set_cons_zero, List.set_cons_succ]
  refine GoG.take (i := 2) (v := ?_) [3, 5] rfl (by kernel_rfl) (by kernel_rfl) (by kernel_rfl) (by kernel_rfl) (by kernel_rfl) (by kernel_rfl) (fun _ _ _ h => h) (.inl ⟨by rfl, fun wz hS => ?_⟩) ?_
  rotate_left
  · have g0 : wz.cell? ⟨w.heap.size, 0, none⟩ = some (.int .i64 t.kind) := hS (5, ⟨w.heap.size, 0, none⟩, .int .i64 t.kind) (by simp) (by simp)
    have g1 : wz.cell? ⟨w.heap.size, 1, none⟩ = some (.string t.name) := hS (5, ⟨w.heap.size, 1, none⟩, .string t.name) (by simp) (by simp)
    have g2 : wz.cell? ⟨w.heap.size, 2, none⟩ = some (.int .i64 t.n) := hS (5, ⟨w.heap.size, 2, none⟩, .int .i64 t.n) (by simp) (by simp)
    have g3 : wz.cell? ⟨w.heap.size, 3, none⟩ = some (.slice wo t.words.length wc) := hS (5, ⟨w.heap.size, 3, none⟩, .slice wo t.words.length wc) (by simp) (by simp)
    have g4 : wz.cell? ⟨w.heap.size, 4, none⟩ = some (.slice ko t.kids.length kc) := hS (5, ⟨w.heap.size, 4, none⟩, .slice ko t.kids.length kc) (by simp) (by simp)
    clear hS
    go_simp; try (with_reducible rfl)
  try simp only [Act.put, List.getElem_toArray, List.getElem_cons_succ, List.getElem_cons_zero, List.setIfInBounds_toArray, List.set_cons_zero, List.set_cons_succ]
  have BD := Lib.hid (show Below w.heap.size w w1.drew from BW.out.drew)
  have KD := Lib.hid (show BlockAt w1.drew w.heap.size _ _ from K1.out.below ((Below.refl _ _).drew))
  have HF := Lib.hid (few_apart w.heap.size w l ao cap 60 w1.drew HI.out.2.2 BD.out (Nat.le_refl _) (by have := Z1.out; show w.heap.size < w1.heap.size; omega) HI.out.1 HI.out.2.1 (by decide))
  have ZD := Lib.hid (show w.heap.size < w1.drew.heap.size from by have := Z1.out; show w.heap.size < w1.heap.size; omega)
  clear c0 c1 c2 c3 c4
  refine GoG.one (i := 1) rfl (by kernel_rfl) (fun K hK => ?_)
  go_simp
  refine HF.out.mono ?_
  rintro e u1 ⟨yo, yc, us, rfl, ra, hyc, hym, bb⟩
  have B1 := Lib.hid (BD.out.trans (bb.mono BD.out.size))
  have KU := Lib.hid (KD.out.below bb)
  have RA := Lib.hid ra
  have HY := Lib.hid (And.intro hyc hym)
  have ZU := Lib.hid (Nat.lt_of_lt_of_le ZD.out bb.size)
  have HO := Lib.hid (one_any t wo ko wc kc u1 (HT.out.below B1.out))
  unfold tyV at HO
  clear ra hyc hym bb HF BD KD ZD K1 BW
  obtain ⟨c0, c1, c2, c3, c4⟩ := cell5 KU.out
  refine hK.out _ _ (Keeps.cons (by first | assumption | simp [*]) (Keeps.cons (by first | assumption | simp [*]) (Keeps.cons (by first | assumption | simp [*]) (Keeps.cons (by first | assumption | simp [*]) (Keeps.cons (by first | assumption | simp [*]) (Keeps.nil)))))) ?_
  clear hK K c0 c1 c2 c3 c4
  try simp only [Act.put, List.getElem_toArray, List.getElem_cons_succ, List.getElem_cons_zero, List.setIfInBounds_toArray, List.set_cons_zero, List.set_cons_succ]
  refine GoG.one (i := 3) rfl (by kernel_rfl) (fun K hK => ?_)
  go_simp
  refine HO.out.mono ?_
  rintro e u2 ⟨uw, uwc, ukc, U, rfl, hs, ⟨j, hj⟩, hw1, hk1, hok, bb⟩
  unfold tyV
  have B2 := Lib.hid (B1.out.trans (bb.mono B1.out.size))
  have KV := Lib.hid (KU.out.below bb)
  have RB := Lib.hid (RA.out.same (SameA.below bb))
  have TU := Lib.hid (show TyCA w.heap.size u2 uw ko U from ⟨by
    rcases hs with h | ⟨b, off, e, hge, hlt, hcc⟩
    · exact .inl h
    · exact .inr ⟨b, off, e, hlt, by (have := ZU.out; omega), hcc⟩, by
    rcases (HT.out.kids).take j with h | ⟨b, off, e, hlt, hcc⟩
    · exact .inl (by rw [hj]; exact h)
    · exact .inr ⟨b, off, e, Nat.lt_of_lt_of_le hlt B2.out.size, by omega, fun i hi => by rw [hj] at hi ⊢; exact (B2.out.cell (p := ⟨b, off + i, none⟩) hlt).trans (hcc i hi)⟩, hok⟩)
  have HU := Lib.hid (And.intro hw1 hk1)
  clear hs hj hw1 hk1 hok bb HO B1 KU RA ZU
  obtain ⟨c0, c1, c2, c3, c4⟩ := cell5 KV.out
  refine hK.out _ _ (Keeps.cons (by first | assumption | simp [*]) (Keeps.cons (by first | assumption | simp [*]) (Keeps.cons (by first | assumption | simp [*]) (Keeps.cons (by first | assumption | simp [*]) (Keeps.cons (by first | assumption | simp [*]) (Keeps.nil)))))) ?_
  clear hK K c0 c1 c2 c3 c4
  try simp only [Act.put, List.getElem_toArray, List.getElem_cons_succ, List.getElem_cons_zero, List.setIfInBounds_toArray, List.set_cons_zero, List.set_cons_succ]
  refine GoG.take (i := 4) (v := ?_) [] rfl (by kernel_rfl) (by kernel_rfl) (by kernel_rfl) (by kernel_rfl) (by kernel_rfl) (by kernel_rfl) (fun _ _ _ h => h) (yields_free (by rfl) (fun w => ?_)) ?_
  rotate_left
  · go_simp; try (with_reducible rfl)
  try simp only [Act.put, List.getElem_toArray, List.getElem_cons_succ, List.getElem_cons_zero, List.setIfInBounds_toArray, List.set_cons_zero, List.set_cons_succ]
  obtain ⟨s, hs⟩ : ∃ s, (((((u2.setCell ⟨w.heap.size, 0, none⟩ (.int .i64 U.kind)).setCell ⟨w.heap.size, 1, none⟩ (.string U.name)).setCell ⟨w.heap.size, 2, none⟩ (.int .i64 U.n)).setCell ⟨w.heap.size, 3, none⟩ (.slice uw U.words.length uwc)).setCell ⟨w.heap.size, 4, none⟩ (.slice ko U.kids.length ukc)) = s := ⟨_, rfl⟩
  obtain ⟨g1, g2, g3⟩ := set5_facts hs
  have fr0 := KV.out.free 0
  have fr1 := KV.out.free 1
  have fr2 := KV.out.free 2
  have fr3 := KV.out.free 3
  have fr4 := KV.out.free 4
  obtain ⟨c0, c1, c2, c3, c4⟩ := cell5 KV.out
  have KS := Lib.hid (g1 _ _ _ _ _ _ KV.out)
  have BS := Lib.hid (g2 _ _ B2.out (Nat.le_refl _))
  have RS := Lib.hid (RB.out.same g3)
  have TS := Lib.hid (TU.out.same g3)
  clear g1 g2 g3 B2 KV RB TU
  refine GoG.one (i := 5) rfl (by kernel_rfl) (fun K hK => ?_)
  go_simp
  clear c0 c1 c2 c3 c4 fr0 fr1 fr2 fr3 fr4
  refine hK.out _ _ (Keeps.up (by rfl) (Keeps.up (by rfl) (Keeps.up (by rfl) (Keeps.up (by rfl) (Keeps.up (by rfl) (Keeps.nil)))))) ?_
  clear hK K hs
  refine GoG.done (by kernel_rfl) ?_ _
  have HE1 := Lib.hid (HE.out.below BS.out)
  obtain ⟨c0, c1, c2, c3, c4⟩ := cell5 KS.out
  have HIJ := Lib.hid (And.intro (i64_wf hia) (i64_wf hja))
  clear hia hja
  have HP0 := padd_any us yo yc U uw ko uwc ukc s RS.out.out (by have := HY.out; omega) HY.out.1 HE1.out TS.out.out HU.out.1 HU.out.2
  unfold tyV at HP0
  by_cases he : (paddT us U).2.2 = 0
  · obtain ⟨hr, M, p, hp, hPA, hMp, hrM, htk, hl1, hl2⟩ := padd_good he
    rw [hPA] at HP0
    have HP1 : Calls Tryd.prog 14 _ s (fun e wz => ∃ ao cap, e = .returned (.tuple #[.slice ao M.length cap, .int .i64 (p : Int), .int .i64 0]) ∧ ARow wz ao M ∧ M.length ≤ cap ∧ Below s.heap.size s wz) := HP0
    have HM400 := (right_step hrM).1
    obtain ⟨q, hq⟩ : ∃ q, M.length = q := ⟨_, rfl⟩
    obtain ⟨n, hn⟩ : ∃ n, us.length = n := ⟨_, rfl⟩
    have HQ := Lib.hid hq
    have HN := Lib.hid hn
    have HRU := Lib.hid hr
    have HRM := Lib.hid hrM
    have HMP := Lib.hid (show ∃ h : p < M.length, M[p] = U from ⟨hp, hMp⟩)
    have HTK := Lib.hid htk
    have n22 : 22 ≤ n := by rw [← hn]; exact (right_step hr).1.1
    rw [hq] at HP1 hl1 hl2 hp HM400
    rw [hn] at HP1 hl1 hl2
    have HPC := Lib.hid HP1
    have hPA2 : paddT M U = (M, (p : Int), 0) := by obtain ⟨h, e⟩ := HMP.out; exact padd_again hrM h e
    have HPA2 := Lib.hid hPA2
    clear HP0 HP1 hq hr hPA hMp hrM htk he hPA2
    rw [hn]
    clear hn
    go_wp2_with fail
    refine HPC.out.mono ?_
    rintro e w2 ⟨po, pc, rfl, rp, hpc, b2⟩
    have B2 := Lib.hid (BS.out.trans (b2.mono BS.out.size))
    have KS2 := Lib.hid (KS.out.below b2)
    have RS2 := Lib.hid (RS.out.out.below b2)
    have TS2 := Lib.hid (TS.out.out.below b2)
    have HE2 := Lib.hid (HE1.out.below b2)
    have RP2 := Lib.hid rp
    have HPCC := Lib.hid hpc
    have HP2 := padd_any M po pc U uw ko uwc ukc w2 rp (by rw [HQ.out]; omega) (by rw [HQ.out]; exact hpc) HE2.out TS2.out HU.out.1 HU.out.2
    unfold tyV at HP2
    rw [HPA2.out] at HP2
    have HP3 : Calls Tryd.prog 14 _ w2 (fun e wz => ∃ ao cap, e = .returned (.tuple #[.slice ao M.length cap, .int .i64 (p : Int), .int .i64 0]) ∧ ARow wz ao M ∧ M.length ≤ cap ∧ Below w2.heap.size w2 wz) := HP2
    rw [HQ.out] at HP3
    have HPD := Lib.hid HP3
    clear rp hpc b2 c0 c1 c2 c3 c4 HPC BS KS RS TS HE1 HP2 HP3
    obtain ⟨c0, c1, c2, c3, c4⟩ := cell5 KS2.out
    go_wp2_with fail
    refine HPD.out.mono ?_
    rintro e w3 ⟨po2, pc2, rfl, rp2, hpc2, b3⟩
    have B3 := Lib.hid (B2.out.trans (b3.mono B2.out.size))
    have KS3 := Lib.hid (KS2.out.below b3)
    have RS3 := Lib.hid (RS2.out.below b3)
    have TS3 := Lib.hid (TS2.out.below b3)
    have HE3 := Lib.hid (HE2.out.below b3)
    have RP3 := Lib.hid (RP2.out.below b3)
    have RPP3 := Lib.hid rp2
    have hpcq : q ≤ pc := HPCC.out
    have hpcn : n ≤ pc := by omega
    clear rp2 hpc2 b3 c0 c1 c2 c3 c4 HPD B2 KS2 RS2 TS2 HE2 RP2
    obtain ⟨pb, pf, rfl, hpb, hpx⟩ := RP3.out.cells (by rw [HQ.out]; omega)
    obtain ⟨mw, mwc, mk, mkc, hmc⟩ := mcell_of (hpx p (by rw [HQ.out]; exact hp)) hpb
    rw [HMP.out.2] at hmc
    have MC3 := Lib.hid hmc
    clear hmc hpx hpb
    have hwn : IntKind.i64.wrap ((n : Int) + 1) = (n : Int) + 1 := IntWalk.i64_in _ (by omega)
    have hgt : decide ((n : Int) + 1 < (q : Int)) = false := decide_eq_false (by omega)
    have hgtn : decide (n + 1 < q) = false := decide_eq_false (by omega)
    go_wp2_with fail
    have BD := Lib.hid (show Below w3.heap.size w3 w3.drew from (Below.refl _ _).drew)
    have KS30 := Lib.hid (KS3.out.below BD.out)
    have RS30 := Lib.hid (RS3.out.below BD.out)
    have TS30 := Lib.hid (TS3.out.below BD.out)
    have HE30 := Lib.hid (HE3.out.below BD.out)
    have RP30 := Lib.hid (RP3.out.below BD.out)
    have RPP30 := Lib.hid (RPP3.out.below BD.out)
    have MC30 := Lib.hid (MC3.out.below BD.out)
    have B30 := Lib.hid (show Below w.heap.size w w3.drew from B3.out.drew)
    clear BD KS3 RS3 TS3 HE3 RP3 RPP3 MC3 B3
    refine GoG.start [(41, ⟨pb, pf + p * 5, none⟩, .int .i64 U.kind), (41, ⟨pb, pf + p * 5 + 1, none⟩, .string U.name), (41, ⟨pb, pf + p * 5 + 2, none⟩, .int .i64 U.n), (41, ⟨pb, pf + p * 5 + 3, none⟩, .slice mw U.words.length mwc), (41, ⟨pb, pf + p * 5 + 4, none⟩, .slice mk U.kids.length mkc), (41, ⟨w.heap.size, 0, none⟩, .int .i64 U.kind), (41, ⟨w.heap.size, 1, none⟩, .string U.name), (41, ⟨w.heap.size, 2, none⟩, .int .i64 U.n), (41, ⟨w.heap.size, 3, none⟩, .slice uw U.words.length uwc), (41, ⟨w.heap.size, 4, none⟩, .slice ko U.kids.length ukc)] (by kernel_rfl) ?_ ?_
    · exact (Keeps.cons MC30.out.2.1 (Keeps.cons MC30.out.2.2.1 (Keeps.cons MC30.out.2.2.2.1 (Keeps.cons MC30.out.2.2.2.2.1 (Keeps.cons MC30.out.2.2.2.2.2.1 (Keeps.cons (KS30.out.cell 0) (Keeps.cons (KS30.out.cell 1) (Keeps.cons (KS30.out.cell 2) (Keeps.cons (KS30.out.cell 3) (Keeps.cons (KS30.out.cell 4) Keeps.nil))))))))))
    refine GoG.take (i := 0) (v := ?_) [] rfl (by kernel_rfl) (by kernel_rfl) (by kernel_rfl) (by kernel_rfl) (by kernel_rfl) (by kernel_rfl) (fun _ _ _ h => h) (yields_free (by rfl) (fun w => ?_)) ?_
    rotate_left
    · go_simp; try (with_reducible rfl)
    try simp only [Act.put, List.getElem_toArray, List.getElem_cons_succ, List.getElem_cons_zero, List.setIfInBounds_toArray, List.set_cons_zero, List.set_cons_succ]
    refine GoG.take (i := 1) (v := ?_) [] rfl (by kernel_rfl) (by kernel_rfl) (by kernel_rfl) (by kernel_rfl) (by kernel_rfl) (by kernel_rfl) (fun _ _ _ h => h) (yields_free (by rfl) (fun w => ?_)) ?_
    rotate_left
    · go_simp; try (with_reducible rfl)
    try simp only [Act.put, List.getElem_toArray, List.getElem_cons_succ, List.getElem_cons_zero, List.setIfInBounds_toArray, List.set_cons_zero, List.set_cons_succ]
    refine GoG.take (i := 2) (v := ?_) [] rfl (by kernel_rfl) (by kernel_rfl) (by kernel_rfl) (by kernel_rfl) (by kernel_rfl) (by kernel_rfl) (fun _ _ _ h => h) (yields_free (by rfl) (fun w => ?_)) ?_
    rotate_left
    · go_simp; try (with_reducible rfl)
    try simp only [Act.put, List.getElem_toArray, List.getElem_cons_succ, List.getElem_cons_zero, List.setIfInBounds_toArray, List.set_cons_zero, List.set_cons_succ]
    refine GoG.take (i := 3) (v := ?_) [] rfl (by kernel_rfl) (by kernel_rfl) (by kernel_rfl) (by kernel_rfl) (by kernel_rfl) (by kernel_rfl) (fun _ _ _ h => h) (yields_free (by rfl) (fun w => ?_)) ?_
    rotate_left
    · go_simp; try (with_reducible rfl)
    try simp only [Act.put, List.getElem_toArray, List.getElem_cons_succ, List.getElem_cons_zero, List.setIfInBounds_toArray, List.set_cons_zero, List.set_cons_succ]
    refine GoG.take (i := 4) (v := ?_) [] rfl (by kernel_rfl) (by kernel_rfl) (by kernel_rfl) (by kernel_rfl) (by kernel_rfl) (by kernel_rfl) (fun _ _ _ h => h) (yields_free (by rfl) (fun w => ?_)) ?_
    rotate_left
    · go_simp; try (with_reducible rfl)
    try simp only [Act.put, List.getElem_toArray, List.getElem_cons_succ, List.getElem_cons_zero, List.setIfInBounds_toArray, List.set_cons_zero, List.set_cons_succ]
    refine GoG.take (i := 5) (v := ?_) [] rfl (by kernel_rfl) (by kernel_rfl) (by kernel_rfl) (by kernel_rfl) (by kernel_rfl) (by kernel_rfl) (fun _ _ _ h => h) (yields_free (by rfl) (fun w => ?_)) ?_
    rotate_left
    · go_simp; try (with_reducible rfl)
    try simp only [Act.put, List.getElem_toArray, List.getElem_cons_succ, List.getElem_cons_zero, List.setIfInBounds_toArray, List.set_cons_zero, List.set_cons_succ]
    refine GoG.take (i := 6) (v := ?_) [] rfl (by kernel_rfl) (by kernel_rfl) (by kernel_rfl) (by kernel_rfl) (by kernel_rfl) (by kernel_rfl) (fun _ _ _ h => h) (yields_free (by rfl) (fun w => ?_)) ?_
    rotate_left
    · go_simp; try (with_reducible rfl)
    try simp only [Act.put, List.getElem_toArray, List.getElem_cons_succ, List.getElem_cons_zero, List.setIfInBounds_toArray, List.set_cons_zero, List.set_cons_succ]
    refine GoG.take (i := 7) (v := ?_) [] rfl (by kernel_rfl) (by kernel_rfl) (by kernel_rfl) (by kernel_rfl) (by kernel_rfl) (by kernel_rfl) (fun _ _ _ h => h) (yields_free (by rfl) (fun w => ?_)) ?_
    rotate_left
    · go_simp; try (with_reducible rfl)
    try simp only [Act.put, List.getElem_toArray, List.getElem_cons_succ, List.getElem_cons_zero, List.setIfInBounds_toArray, List.set_cons_zero, List.set_cons_succ]
    refine GoG.take (i := 8) (v := ?_) [] rfl (by kernel_rfl) (by kernel_rfl) (by kernel_rfl) (by kernel_rfl) (by kernel_rfl) (by kernel_rfl) (fun _ _ _ h => h) (yields_free (by rfl) (fun w => ?_)) ?_
    rotate_left
    · go_simp; try (with_reducible rfl)
    try simp only [Act.put, List.getElem_toArray, List.getElem_cons_succ, List.getElem_cons_zero, List.setIfInBounds_toArray, List.set_cons_zero, List.set_cons_succ]
    refine GoG.take (i := 9) (v := ?_) [] rfl (by kernel_rfl) (by kernel_rfl) (by kernel_rfl) (by kernel_rfl) (by kernel_rfl) (by kernel_rfl) (fun _ _ _ h => h) (yields_free (by rfl) (fun w => ?_)) ?_
    rotate_left
    · go_simp; try (with_reducible rfl)
    try simp only [Act.put, List.getElem_toArray, List.getElem_cons_succ, List.getElem_cons_zero, List.setIfInBounds_toArray, List.set_cons_zero, List.set_cons_succ]
    have HC := arenas_any M M (some ⟨pb, pf, none⟩) po2 pc pc2 w3.drew RP30.out RPP30.out (by rw [HQ.out]; omega) (by rw [HQ.out]; omega)
    rw [HQ.out, decide_eq_true (rfl : M = M)] at HC
    have HCH := Lib.hid HC
    clear HC
    refine GoG.one (i := 10) rfl (by kernel_rfl) (fun K hK => ?_)
    go_simp
    refine HCH.out.mono ?_
    rintro e w31 ⟨rfl, bb⟩
    have B31 := Lib.hid (B30.out.trans (bb.mono B30.out.size))
    have KS31 := Lib.hid (KS30.out.below bb)
    have RS31 := Lib.hid (RS30.out.below bb)
    have TS31 := Lib.hid (TS30.out.below bb)
    have HE31 := Lib.hid (HE30.out.below bb)
    have RP31 := Lib.hid (RP30.out.below bb)
    have RPP31 := Lib.hid (RPP30.out.below bb)
    have MC31 := Lib.hid (MC30.out.below bb)
    clear bb HCH KS30 RS30 TS30 HE30 RP30 RPP30 MC30 B30
    refine hK.out _ _ (Keeps.cons MC31.out.2.1 (Keeps.cons MC31.out.2.2.1 (Keeps.cons MC31.out.2.2.2.1 (Keeps.cons MC31.out.2.2.2.2.1 (Keeps.cons MC31.out.2.2.2.2.2.1 (Keeps.cons (KS31.out.cell 0) (Keeps.cons (KS31.out.cell 1) (Keeps.cons (KS31.out.cell 2) (Keeps.cons (KS31.out.cell 3) (Keeps.cons (KS31.out.cell 4) Keeps.nil)))))))))) ?_
    clear hK K
    try simp only [Act.put, List.getElem_toArray, List.getElem_cons_succ, List.getElem_cons_zero, List.setIfInBounds_toArray, List.set_cons_zero, List.set_cons_succ]
    refine GoG.take (i := 11) (v := ?_) [] rfl (by kernel_rfl) (by kernel_rfl) (by kernel_rfl) (by kernel_rfl) (by kernel_rfl) (by kernel_rfl) (fun _ _ _ h => h) (yields_free (by rfl) (fun w => ?_)) ?_
    rotate_left
    · go_simp; try (with_reducible rfl)
    try simp only [Act.put, List.getElem_toArray, List.getElem_cons_succ, List.getElem_cons_zero, List.setIfInBounds_toArray, List.set_cons_zero, List.set_cons_succ]
    refine GoG.take (i := 12) (v := ?_) [] rfl (by kernel_rfl) (by kernel_rfl) (by kernel_rfl) (by kernel_rfl) (by kernel_rfl) (by kernel_rfl) (fun _ _ _ h => h) (yields_free (by rfl) (fun w => ?_)) ?_
    rotate_left
    · go_simp; try (with_reducible rfl)
    try simp only [Act.put, List.getElem_toArray, List.getElem_cons_succ, List.getElem_cons_zero, List.setIfInBounds_toArray, List.set_cons_zero, List.set_cons_succ]
    refine GoG.take (i := 13) (v := ?_) [] rfl (by kernel_rfl) (by kernel_rfl) (by kernel_rfl) (by kernel_rfl) (by kernel_rfl) (by kernel_rfl) (fun _ _ _ h => h) (yields_free (by rfl) (fun w => ?_)) ?_
    rotate_left
    · go_simp; try (with_reducible rfl)
    try simp only [Act.put, List.getElem_toArray, List.getElem_cons_succ, List.getElem_cons_zero, List.setIfInBounds_toArray, List.set_cons_zero, List.set_cons_succ]
    refine GoG.take (i := 14) (v := ?_) [] rfl (by kernel_rfl) (by kernel_rfl) (by kernel_rfl) (by kernel_rfl) (by kernel_rfl) (by kernel_rfl) (fun _ _ _ h => h) (yields_free (by rfl) (fun w => ?_)) ?_
    rotate_left
    · go_simp; try (with_reducible rfl)
    try simp only [Act.put, List.getElem_toArray, List.getElem_cons_succ, List.getElem_cons_zero, List.setIfInBounds_toArray, List.set_cons_zero, List.set_cons_succ]
    have HC := pright_any M (some ⟨pb, pf, none⟩) pc w31 RP31.out (by rw [HQ.out]; omega) (by rw [HQ.out]; exact HPCC.out) HE31.out
    rw [HQ.out, HRM.out] at HC
    have HCH := Lib.hid HC
    clear HC
    refine GoG.one (i := 15) rfl (by kernel_rfl) (fun K hK => ?_)
    go_simp
    refine HCH.out.mono ?_
    rintro e w32 ⟨rfl, bb⟩
    have B32 := Lib.hid (B31.out.trans (bb.mono B31.out.size))
    have KS32 := Lib.hid (KS31.out.below bb)
    have RS32 := Lib.hid (RS31.out.below bb)
    have TS32 := Lib.hid (TS31.out.below bb)
    have HE32 := Lib.hid (HE31.out.below bb)
    have RP32 := Lib.hid (RP31.out.below bb)
    have RPP32 := Lib.hid (RPP31.out.below bb)
    have MC32 := Lib.hid (MC31.out.below bb)
    clear bb HCH KS31 RS31 TS31 HE31 RP31 RPP31 MC31 B31
    refine hK.out _ _ (Keeps.cons MC32.out.2.1 (Keeps.cons MC32.out.2.2.1 (Keeps.cons MC32.out.2.2.2.1 (Keeps.cons MC32.out.2.2.2.2.1 (Keeps.cons MC32.out.2.2.2.2.2.1 (Keeps.cons (KS32.out.cell 0) (Keeps.cons (KS32.out.cell 1) (Keeps.cons (KS32.out.cell 2) (Keeps.cons (KS32.out.cell 3) (Keeps.cons (KS32.out.cell 4) Keeps.nil)))))))))) ?_
    clear hK K
    try simp only [Act.put, List.getElem_toArray, List.getElem_cons_succ, List.getElem_cons_zero, List.setIfInBounds_toArray, List.set_cons_zero, List.set_cons_succ]
    refine GoG.take (i := 16) (v := ?_) [] rfl (by kernel_rfl) (by kernel_rfl) (by kernel_rfl) (by kernel_rfl) (by kernel_rfl) (by kernel_rfl) (fun _ _ _ h => h) (yields_free (by rfl) (fun w => ?_)) ?_
    rotate_left
    · go_simp; try (with_reducible rfl)
    try simp only [Act.put, List.getElem_toArray, List.getElem_cons_succ, List.getElem_cons_zero, List.setIfInBounds_toArray, List.set_cons_zero, List.set_cons_succ]
    refine GoG.take (i := 17) (v := ?_) [] rfl (by kernel_rfl) (by kernel_rfl) (by kernel_rfl) (by kernel_rfl) (by kernel_rfl) (by kernel_rfl) (fun _ _ _ h => h) (yields_free (by rfl) (fun w => ?_)) ?_
    rotate_left
    · go_simp; try (with_reducible rfl)
    try simp only [Act.put, List.getElem_toArray, List.getElem_cons_succ, List.getElem_cons_zero, List.setIfInBounds_toArray, List.set_cons_zero, List.set_cons_succ]
    refine GoG.take (i := 18) (v := ?_) [] rfl (by kernel_rfl) (by kernel_rfl) (by kernel_rfl) (by kernel_rfl) (by kernel_rfl) (by kernel_rfl) (fun _ _ _ h => h) (yields_free (by rfl) (fun w => ?_)) ?_
    rotate_left
    · go_simp; try (with_reducible rfl)
    try simp only [Act.put, List.getElem_toArray, List.getElem_cons_succ, List.getElem_cons_zero, List.setIfInBounds_toArray, List.set_cons_zero, List.set_cons_succ]
    refine GoG.take (i := 19) (v := ?_) [] rfl (by kernel_rfl) (by kernel_rfl) (by kernel_rfl) (by kernel_rfl) (by kernel_rfl) (by kernel_rfl) (fun _ _ _ h => h) (yields_free (by rfl) (fun w => ?_)) ?_
    rotate_left
    · go_simp; try (with_reducible rfl)
    try simp only [Act.put, List.getElem_toArray, List.getElem_cons_succ, List.getElem_cons_zero, List.setIfInBounds_toArray, List.set_cons_zero, List.set_cons_succ]
    refine GoG.take (i := 20) (v := ?_) [] rfl (by kernel_rfl) (by kernel_rfl) (by kernel_rfl) (by kernel_rfl) (by kernel_rfl) (by kernel_rfl) (fun _ _ _ h => h) (yields_free (by rfl) (fun w => ?_)) ?_
    rotate_left
    · go_simp; try (with_reducible rfl)
    try simp only [Act.put, List.getElem_toArray, List.getElem_cons_succ, List.getElem_cons_zero, List.setIfInBounds_toArray, List.set_cons_zero, List.set_cons_succ]
    refine GoG.take (i := 21) (v := ?_) [] rfl (by kernel_rfl) (by kernel_rfl) (by kernel_rfl) (by kernel_rfl) (by kernel_rfl) (by kernel_rfl) (fun _ _ _ h => h) (yields_free (by rfl) (fun w => ?_)) ?_
    rotate_left
    · go_simp; try (with_reducible rfl)
    try simp only [Act.put, List.getElem_toArray, List.getElem_cons_succ, List.getElem_cons_zero, List.setIfInBounds_toArray, List.set_cons_zero, List.set_cons_succ]
    refine GoG.take (i := 22) (v := ?_) [] rfl (by kernel_rfl) (by kernel_rfl) (by kernel_rfl) (by kernel_rfl) (by kernel_rfl) (by kernel_rfl) (fun _ _ _ h => h) (yields_free (by rfl) (fun w => ?_)) ?_
    rotate_left
    · go_simp; try (with_reducible rfl)
    try simp only [Act.put, List.getElem_toArray, List.getElem_cons_succ, List.getElem_cons_zero, List.setIfInBounds_toArray, List.set_cons_zero, List.set_cons_succ]
    refine GoG.take (i := 23) (v := ?_) [] rfl (by kernel_rfl) (by kernel_rfl) (by kernel_rfl) (by kernel_rfl) (by kernel_rfl) (by kernel_rfl) (fun _ _ _ h => h) (yields_free (by rfl) (fun w => ?_)) ?_
    rotate_left
    · go_simp; try (with_reducible rfl)
    try simp only [Act.put, List.getElem_toArray, List.getElem_cons_succ, List.getElem_cons_zero, List.setIfInBounds_toArray, List.set_cons_zero, List.set_cons_succ]
    refine GoG.take (i := 24) (v := ?_) [] rfl (by kernel_rfl) (by kernel_rfl) (by kernel_rfl) (by kernel_rfl) (by kernel_rfl) (by kernel_rfl) (fun _ _ _ h => h) (yields_free (by rfl) (fun w => ?_)) ?_
    rotate_left
    · go_simp; try (with_reducible rfl)
    try simp only [Act.put, List.getElem_toArray, List.getElem_cons_succ, List.getElem_cons_zero, List.setIfInBounds_toArray, List.set_cons_zero, List.set_cons_succ]
    refine GoG.take (i := 25) (v := ?_) [] rfl (by kernel_rfl) (by kernel_rfl) (by kernel_rfl) (by kernel_rfl) (by kernel_rfl) (by kernel_rfl) (fun _ _ _ h => h) (yields_free (by rfl) (fun w => ?_)) ?_
    rotate_left
    · go_simp; try (with_reducible rfl)
    try simp only [Act.put, List.getElem_toArray, List.getElem_cons_succ, List.getElem_cons_zero, List.setIfInBounds_toArray, List.set_cons_zero, List.set_cons_succ]
    refine GoG.take (i := 26) (v := ?_) [] rfl (by kernel_rfl) (by kernel_rfl) (by kernel_rfl) (by kernel_rfl) (by kernel_rfl) (by kernel_rfl) (fun _ _ _ h => h) (yields_free (by rfl) (fun w => ?_)) ?_
    rotate_left
    · go_simp; try (with_reducible rfl)
    try simp only [Act.put, List.getElem_toArray, List.getElem_cons_succ, List.getElem_cons_zero, List.setIfInBounds_toArray, List.set_cons_zero, List.set_cons_succ]
    refine GoG.take (i := 27) (v := ?_) [] rfl (by kernel_rfl) (by kernel_rfl) (by kernel_rfl) (by kernel_rfl) (by kernel_rfl) (by kernel_rfl) (fun _ _ _ h => h) (yields_free (by rfl) (fun w => ?_)) ?_
    rotate_left
    · go_simp; try (with_reducible rfl)
    try simp only [Act.put, List.getElem_toArray, List.getElem_cons_succ, List.getElem_cons_zero, List.setIfInBounds_toArray, List.set_cons_zero, List.set_cons_succ]
    refine GoG.take (i := 28) (v := ?_) [] rfl (by kernel_rfl) (by kernel_rfl) (by kernel_rfl) (by kernel_rfl) (by kernel_rfl) (by kernel_rfl) (fun _ _ _ h => h) (yields_free (by rfl) (fun w => ?_)) ?_
    rotate_left
    · go_simp; try (with_reducible rfl)
    try simp only [Act.put, List.getElem_toArray, List.getElem_cons_succ, List.getElem_cons_zero, List.setIfInBounds_toArray, List.set_cons_zero, List.set_cons_succ]
    refine GoG.take (i := 29) (v := ?_) [] rfl (by kernel_rfl) (by kernel_rfl) (by kernel_rfl) (by kernel_rfl) (by kernel_rfl) (by kernel_rfl) (fun _ _ _ h => h) (yields_free (by rfl) (fun w => ?_)) ?_
    rotate_left
    · go_simp; try (with_reducible rfl)
    try simp only [Act.put, List.getElem_toArray, List.getElem_cons_succ, List.getElem_cons_zero, List.setIfInBounds_toArray, List.set_cons_zero, List.set_cons_succ]
    refine GoG.take (i := 30) (v := ?_) [] rfl (by kernel_rfl) (by kernel_rfl) (by kernel_rfl) (by kernel_rfl) (by kernel_rfl) (by kernel_rfl) (fun _ _ _ h => h) (yields_free (by rfl) (fun w => ?_)) ?_
    rotate_left
    · go_simp; try (with_reducible rfl)
    try simp only [Act.put, List.getElem_toArray, List.getElem_cons_succ, List.getElem_cons_zero, List.setIfInBounds_toArray, List.set_cons_zero, List.set_cons_succ]
    refine GoG.take (i := 31) (v := ?_) [] rfl (by kernel_rfl) (by kernel_rfl) (by kernel_rfl) (by kernel_rfl) (by kernel_rfl) (by kernel_rfl) (fun _ _ _ h => h) (yields_free (by rfl) (fun w => ?_)) ?_
    rotate_left
    · go_simp; try (with_reducible rfl)
    try simp only [Act.put, List.getElem_toArray, List.getElem_cons_succ, List.getElem_cons_zero, List.setIfInBounds_toArray, List.set_cons_zero, List.set_cons_succ]
    have HC := arenas_any (M.take n) us (some ⟨pb, pf, none⟩) yo pc yc w32 (RP32.out.take n) RS32.out (by rw [List.length_take, HQ.out]; omega) (by rw [HN.out]; omega)
    rw [List.length_take, HQ.out, HN.out, Nat.min_eq_left (by omega), show decide (M.take n = us) = true from decide_eq_true (by rw [← HN.out]; exact HTK.out)] at HC
    have HCH := Lib.hid HC
    clear HC
    refine GoG.one (i := 32) rfl (by kernel_rfl) (fun K hK => ?_)
    go_simp
    refine HCH.out.mono ?_
    rintro e w33 ⟨rfl, bb⟩
    have B33 := Lib.hid (B32.out.trans (bb.mono B32.out.size))
    have KS33 := Lib.hid (KS32.out.below bb)
    have RS33 := Lib.hid (RS32.out.below bb)
    have TS33 := Lib.hid (TS32.out.below bb)
    have HE33 := Lib.hid (HE32.out.below bb)
    have RP33 := Lib.hid (RP32.out.below bb)
    have RPP33 := Lib.hid (RPP32.out.below bb)
    have MC33 := Lib.hid (MC32.out.below bb)
    clear bb HCH KS32 RS32 TS32 HE32 RP32 RPP32 MC32 B32
    refine hK.out _ _ (Keeps.cons MC33.out.2.1 (Keeps.cons MC33.out.2.2.1 (Keeps.cons MC33.out.2.2.2.1 (Keeps.cons MC33.out.2.2.2.2.1 (Keeps.cons MC33.out.2.2.2.2.2.1 (Keeps.cons (KS33.out.cell 0) (Keeps.cons (KS33.out.cell 1) (Keeps.cons (KS33.out.cell 2) (Keeps.cons (KS33.out.cell 3) (Keeps.cons (KS33.out.cell 4) Keeps.nil)))))))))) ?_
    clear hK K
    try simp only [Act.put, List.getElem_toArray, List.getElem_cons_succ, List.getElem_cons_zero, List.setIfInBounds_toArray, List.set_cons_zero, List.set_cons_succ]
    refine GoG.take (i := 33) (v := ?_) [] rfl (by kernel_rfl) (by kernel_rfl) (by kernel_rfl) (by kernel_rfl) (by kernel_rfl) (by kernel_rfl) (fun _ _ _ h => h) (yields_free (by rfl) (fun w => ?_)) ?_
    rotate_left
    · go_simp; try (with_reducible rfl)
    try simp only [Act.put, List.getElem_toArray, List.getElem_cons_succ, List.getElem_cons_zero, List.setIfInBounds_toArray, List.set_cons_zero, List.set_cons_succ]
    refine GoG.take (i := 34) (v := ?_) [] rfl (by kernel_rfl) (by kernel_rfl) (by kernel_rfl) (by kernel_rfl) (by kernel_rfl) (by kernel_rfl) (fun _ _ _ h => h) (yields_free (by rfl) (fun w => ?_)) ?_
    rotate_left
    · go_simp; try (with_reducible rfl)
    try simp only [Act.put, List.getElem_toArray, List.getElem_cons_succ, List.getElem_cons_zero, List.setIfInBounds_toArray, List.set_cons_zero, List.set_cons_succ]
    refine GoG.take (i := 35) (v := ?_) [] rfl (by kernel_rfl) (by kernel_rfl) (by kernel_rfl) (by kernel_rfl) (by kernel_rfl) (by kernel_rfl) (fun _ _ _ h => h) (yields_free (by rfl) (fun w => ?_)) ?_
    rotate_left
    · go_simp; try (with_reducible rfl)
    try simp only [Act.put, List.getElem_toArray, List.getElem_cons_succ, List.getElem_cons_zero, List.setIfInBounds_toArray, List.set_cons_zero, List.set_cons_succ]
    refine GoG.take (i := 36) (v := ?_) [] rfl (by kernel_rfl) (by kernel_rfl) (by kernel_rfl) (by kernel_rfl) (by kernel_rfl) (by kernel_rfl) (fun _ _ _ h => h) (yields_free (by rfl) (fun w => ?_)) ?_
    rotate_left
    · go_simp; try (with_reducible rfl)
    try simp only [Act.put, List.getElem_toArray, List.getElem_cons_succ, List.getElem_cons_zero, List.setIfInBounds_toArray, List.set_cons_zero, List.set_cons_succ]
    refine GoG.take (i := 37) (v := ?_) [] rfl (by kernel_rfl) (by kernel_rfl) (by kernel_rfl) (by kernel_rfl) (by kernel_rfl) (by kernel_rfl) (fun _ _ _ h => h) (yields_free (by rfl) (fun w => ?_)) ?_
    rotate_left
    · go_simp; try (with_reducible rfl)
    try simp only [Act.put, List.getElem_toArray, List.getElem_cons_succ, List.getElem_cons_zero, List.setIfInBounds_toArray, List.set_cons_zero, List.set_cons_succ]
    refine GoG.take (i := 38) (v := ?_) [] rfl (by kernel_rfl) (by kernel_rfl) (by kernel_rfl) (by kernel_rfl) (by kernel_rfl) (by kernel_rfl) (fun _ _ _ h => h) (yields_free (by rfl) (fun w => ?_)) ?_
    rotate_left
    · go_simp; try (with_reducible rfl)
    try simp only [Act.put, List.getElem_toArray, List.getElem_cons_succ, List.getElem_cons_zero, List.setIfInBounds_toArray, List.set_cons_zero, List.set_cons_succ]
    refine GoG.take (i := 39) (v := ?_) [41] rfl (by kernel_rfl) (by kernel_rfl) (by kernel_rfl) (by kernel_rfl) (by kernel_rfl) (by kernel_rfl) (fun _ _ _ h => h) (.inl ⟨by rfl, fun wz hS => ?_⟩) ?_
    rotate_left
    · have g0 : wz.cell? ⟨pb, pf + p * 5, none⟩ = some (.int .i64 U.kind) := hS (41, ⟨pb, pf + p * 5, none⟩, .int .i64 U.kind) (by simp) (by simp)
      have g1 : wz.cell? ⟨pb, pf + p * 5 + 1, none⟩ = some (.string U.name) := hS (41, ⟨pb, pf + p * 5 + 1, none⟩, .string U.name) (by simp) (by simp)
      have g2 : wz.cell? ⟨pb, pf + p * 5 + 2, none⟩ = some (.int .i64 U.n) := hS (41, ⟨pb, pf + p * 5 + 2, none⟩, .int .i64 U.n) (by simp) (by simp)
      have g3 : wz.cell? ⟨pb, pf + p * 5 + 3, none⟩ = some (.slice mw U.words.length mwc) := hS (41, ⟨pb, pf + p * 5 + 3, none⟩, .slice mw U.words.length mwc) (by simp) (by simp)
      have g4 : wz.cell? ⟨pb, pf + p * 5 + 4, none⟩ = some (.slice mk U.kids.length mkc) := hS (41, ⟨pb, pf + p * 5 + 4, none⟩, .slice mk U.kids.length mkc) (by simp) (by simp)
      clear hS
      go_simp; try (with_reducible rfl)
    try simp only [Act.put, List.getElem_toArray, List.getElem_cons_succ, List.getElem_cons_zero, List.setIfInBounds_toArray, List.set_cons_zero, List.set_cons_succ]
    refine GoG.take (i := 40) (v := ?_) [41] rfl (by kernel_rfl) (by kernel_rfl) (by kernel_rfl) (by kernel_rfl) (by kernel_rfl) (by kernel_rfl) (fun _ _ _ h => h) (.inl ⟨by rfl, fun wz hS => ?_⟩) ?_
    rotate_left
    · have g0 : wz.cell? ⟨w.heap.size, 0, none⟩ = some (.int .i64 U.kind) := hS (41, ⟨w.heap.size, 0, none⟩, .int .i64 U.kind) (by simp) (by simp)
      have g1 : wz.cell? ⟨w.heap.size, 1, none⟩ = some (.string U.name) := hS (41, ⟨w.heap.size, 1, none⟩, .string U.name) (by simp) (by simp)
      have g2 : wz.cell? ⟨w.heap.size, 2, none⟩ = some (.int .i64 U.n) := hS (41, ⟨w.heap.size, 2, none⟩, .int .i64 U.n) (by simp) (by simp)
      have g3 : wz.cell? ⟨w.heap.size, 3, none⟩ = some (.slice uw U.words.length uwc) := hS (41, ⟨w.heap.size, 3, none⟩, .slice uw U.words.length uwc) (by simp) (by simp)
      have g4 : wz.cell? ⟨w.heap.size, 4, none⟩ = some (.slice ko U.kids.length ukc) := hS (41, ⟨w.heap.size, 4, none⟩, .slice ko U.kids.length ukc) (by simp) (by simp)
      clear hS
      go_simp; try (with_reducible rfl)
    try simp only [Act.put, List.getElem_toArray, List.getElem_cons_succ, List.getElem_cons_zero, List.setIfInBounds_toArray, List.set_cons_zero, List.set_cons_succ]
    have HC := like_any U U mw mk uw ko mwc mkc uwc ukc w33 MC33.out.2.2.2.2.2.2 TS33.out
    unfold tyV at HC
    rw [decide_eq_true (rfl : U = U)] at HC
    have HCH := Lib.hid HC
    clear HC
    refine GoG.one (i := 41) rfl (by kernel_rfl) (fun K hK => ?_)
    go_simp
    refine HCH.out.mono ?_
    rintro e w34 ⟨rfl, bb⟩
    have B34 := Lib.hid (B33.out.trans (bb.mono B33.out.size))
    have KS34 := Lib.hid (KS33.out.below bb)
    have RS34 := Lib.hid (RS33.out.below bb)
    have TS34 := Lib.hid (TS33.out.below bb)
    have HE34 := Lib.hid (HE33.out.below bb)
    have RP34 := Lib.hid (RP33.out.below bb)
    have RPP34 := Lib.hid (RPP33.out.below bb)
    have MC34 := Lib.hid (MC33.out.below bb)
    clear bb HCH KS33 RS33 TS33 HE33 RP33 RPP33 MC33 B33
    refine hK.out _ _ (Keeps.up (by rfl) (Keeps.up (by rfl) (Keeps.up (by rfl) (Keeps.up (by rfl) (Keeps.up (by rfl) (Keeps.up (by rfl) (Keeps.up (by rfl) (Keeps.up (by rfl) (Keeps.up (by rfl) (Keeps.up (by rfl) (Keeps.nil))))))))))) ?_
    clear hK K
    try simp only [Act.put, List.getElem_toArray, List.getElem_cons_succ, List.getElem_cons_zero, List.setIfInBounds_toArray, List.set_cons_zero, List.set_cons_succ]
    refine GoG.take (i := 42) (v := ?_) [] rfl (by kernel_rfl) (by kernel_rfl) (by kernel_rfl) (by kernel_rfl) (by kernel_rfl) (by kernel_rfl) (fun _ _ _ h => h) (yields_free (by rfl) (fun w => ?_)) ?_
    rotate_left
    · go_simp; try (with_reducible rfl)
    try simp only [Act.put, List.getElem_toArray, List.getElem_cons_succ, List.getElem_cons_zero, List.setIfInBounds_toArray, List.set_cons_zero, List.set_cons_succ]
    refine GoG.take (i := 43) (v := ?_) [] rfl (by kernel_rfl) (by kernel_rfl) (by kernel_rfl) (by kernel_rfl) (by kernel_rfl) (by kernel_rfl) (fun _ _ _ h => h) (yields_free (by rfl) (fun w => ?_)) ?_
    rotate_left
    · go_simp; try (with_reducible rfl)
    try simp only [Act.put, List.getElem_toArray, List.getElem_cons_succ, List.getElem_cons_zero, List.setIfInBounds_toArray, List.set_cons_zero, List.set_cons_succ]
    refine GoG.take (i := 44) (v := ?_) [] rfl (by kernel_rfl) (by kernel_rfl) (by kernel_rfl) (by kernel_rfl) (by kernel_rfl) (by kernel_rfl) (fun _ _ _ h => h) (yields_free (by rfl) (fun w => ?_)) ?_
    rotate_left
    · go_simp; try (with_reducible rfl)
    try simp only [Act.put, List.getElem_toArray, List.getElem_cons_succ, List.getElem_cons_zero, List.setIfInBounds_toArray, List.set_cons_zero, List.set_cons_succ]
    have HC := alive_any w34 HE34.out
    have HCH := Lib.hid HC
    clear HC
    refine GoG.one (i := 45) rfl (by kernel_rfl) (fun K hK => ?_)
    go_simp
    refine HCH.out.mono ?_
    rintro e w35 ⟨rfl, bb⟩
    have B35 := Lib.hid (B34.out.trans (bb.mono B34.out.size))
    have KS35 := Lib.hid (KS34.out.below bb)
    have RS35 := Lib.hid (RS34.out.below bb)
    have TS35 := Lib.hid (TS34.out.below bb)
    have HE35 := Lib.hid (HE34.out.below bb)
    have RP35 := Lib.hid (RP34.out.below bb)
    have RPP35 := Lib.hid (RPP34.out.below bb)
    have MC35 := Lib.hid (MC34.out.below bb)
    clear bb HCH KS34 RS34 TS34 HE34 RP34 RPP34 MC34 B34
    refine hK.out _ _ (Keeps.up (by rfl) (Keeps.up (by rfl) (Keeps.up (by rfl) (Keeps.up (by rfl) (Keeps.up (by rfl) (Keeps.up (by rfl) (Keeps.up (by rfl) (Keeps.up (by rfl) (Keeps.up (by rfl) (Keeps.up (by rfl) (Keeps.nil))))))))))) ?_
    clear hK K
    try simp only [Act.put, List.getElem_toArray, List.getElem_cons_succ, List.getElem_cons_zero, List.setIfInBounds_toArray, List.set_cons_zero, List.set_cons_succ]
    refine GoG.take (i := 46) (v := ?_) [] rfl (by kernel_rfl) (by kernel_rfl) (by kernel_rfl) (by kernel_rfl) (by kernel_rfl) (by kernel_rfl) (fun _ _ _ h => h) (yields_free (by rfl) (fun w => ?_)) ?_
    rotate_left
    · go_simp; try (with_reducible rfl)
    try simp only [Act.put, List.getElem_toArray, List.getElem_cons_succ, List.getElem_cons_zero, List.setIfInBounds_toArray, List.set_cons_zero, List.set_cons_succ]
    refine GoG.take (i := 47) (v := ?_) [] rfl (by kernel_rfl) (by kernel_rfl) (by kernel_rfl) (by kernel_rfl) (by kernel_rfl) (by kernel_rfl) (fun _ _ _ h => h) (yields_free (by rfl) (fun w => ?_)) ?_
    rotate_left
    · go_simp; try (with_reducible rfl)
    try simp only [Act.put, List.getElem_toArray, List.getElem_cons_succ, List.getElem_cons_zero, List.setIfInBounds_toArray, List.set_cons_zero, List.set_cons_succ]
    refine GoG.done (by kernel_rfl) ?_ _
    clear hwn hgt hgtn MC35 TS35 RPP35 KS35
    obtain ⟨T, I, hT, hT1, hT2, hTI, hIq⟩ := norm_place ia (q := q) (by omega)
    obtain ⟨V, J, hV, hV1, hV2, hVJ, hJq⟩ := norm_place ja (q := q) (by omega)
    have hq0 : ((q : Int) == 0) = false := by rw [beq_eq_false_iff_ne]; omega
    have hqe : ¬ ((q : Int) = 0) := by omega
    have hqm : ¬ ((q : Int) = -1) := by omega
    have hqm1 : ((q : Int) == -1) = false := by rw [beq_eq_false_iff_ne]; omega
    have hwT : IntKind.i64.wrap T = T := IntWalk.i64_in _ (by omega)
    have hwT2 : IntKind.i64.wrap (T + (q : Int)) = T + (q : Int) := IntWalk.i64_in _ (by omega)
    have hwI : IntKind.i64.wrap (I : Int) = (I : Int) := IntWalk.i64_in _ (by omega)
    have hwV : IntKind.i64.wrap V = V := IntWalk.i64_in _ (by omega)
    have hwV2 : IntKind.i64.wrap (V + (q : Int)) = V + (q : Int) := IntWalk.i64_in _ (by omega)
    have hwJ : IntKind.i64.wrap (J : Int) = (J : Int) := IntWalk.i64_in _ (by omega)
    go_wp2_with fail
    go_quiet (fail)
    rename_i nq
    have BN := Lib.hid (show Below w35.heap.size w35 (w35.drewN nq) from below_drewN (Below.refl _ _) nq)
    obtain ⟨w4, hw4⟩ : ∃ w4, w35.drewN nq = w4 := ⟨_, rfl⟩
    rw [hw4] at BN ⊢
    have RS4 := Lib.hid (RS35.out.below BN.out)
    have HE4 := Lib.hid (HE35.out.below BN.out)
    have RP4 := Lib.hid (RP35.out.below BN.out)
    have B4 := Lib.hid (B35.out.trans (BN.out.mono B35.out.size))
    clear hw4 BN RS35 HE35 RP35 B35 hT hV hTI hVJ hT1 hT2 hV1 hV2 hwT hwT2 hwV hwV2 hwI hwJ
    have HSM0 := same_any M (some ⟨pb, pf, none⟩) pc I J w4 RP4.out HRM.out (by rw [HQ.out]; exact HPCC.out) HE4.out (by rw [HQ.out]; exact hIq) (by rw [HQ.out]; exact hJq)
    obtain ⟨eb, heb⟩ : ∃ eb, decide ((I : Int) = (J : Int)) = eb := ⟨_, rfl⟩
    rw [HQ.out, heb] at HSM0
    have HSM := Lib.hid HSM0
    have HEB := Lib.hid heb
    clear HSM0 heb
    go_wp2_with fail
    refine HSM.out.mono ?_
    rintro e w5 ⟨rfl, b5⟩
    have RS5 := Lib.hid (RS4.out.below b5)
    have HE5 := Lib.hid (HE4.out.below b5)
    have RP5 := Lib.hid (RP4.out.below b5)
    have B5 := Lib.hid (B4.out.trans (b5.mono B4.out.size))
    have hIM : I < M.length := by rw [HQ.out]; exact hIq
    have HX0 := text_any M (some ⟨pb, pf, none⟩) pc I w5 RP5.out HRM.out (by rw [HQ.out]; exact HPCC.out) HE5.out hIM
    obtain ⟨o, hO⟩ : ∃ o, outF (fun j => M.getD j noT) I = o := ⟨_, rfl⟩
    have hte := out_err (fun j => M.getD j noT) I
    have hpo := out_pos HRM.out hIM
    obtain ⟨tx, te⟩ := o
    rw [hO] at hte hpo
    unfold TextR at HX0
    rw [hO, HQ.out] at HX0
    have HX := Lib.hid HX0
    have HTE := Lib.hid (show te = 0 ∨ te = 7 from hte)
    have HPO := Lib.hid (show te = 0 → 0 < tx.size from hpo)
    clear b5 HSM RS4 HE4 RP4 B4 HX0 hte hpo hO
    go_wp2_with fail
    refine HX.out.mono ?_
    rintro e w6 ⟨rfl, b6⟩
    have RS6 := Lib.hid (RS5.out.below b6)
    have HE6 := Lib.hid (HE5.out.below b6)
    have RP6 := Lib.hid (RP5.out.below b6)
    have B6 := Lib.hid (B5.out.trans (b6.mono B5.out.size))
    obtain ⟨r, hr⟩ : ∃ r, I % n = r := ⟨_, rfl⟩
    have hrn : r < n := by rw [← hr]; exact Nat.mod_lt _ (by omega)
    have hrm : ((I : Int)).tmod (n : Int) = (r : Int) := by rw [tmod_nat, hr]
    have hn0 : ((n : Int) == 0) = false := by rw [beq_eq_false_iff_ne]; omega
    have hne0 : ¬ ((n : Int) = 0) := by omega
    have hnm : ¬ ((n : Int) = -1) := by omega
    have hnm1 : ((n : Int) == -1) = false := by rw [beq_eq_false_iff_ne]; omega
    have hwr : IntKind.i64.wrap (r : Int) = (r : Int) := IntWalk.i64_in _ (by omega)
    have HCG := Lib.hid (show outF (fun j => us.getD j noT) r = outF (fun j => M.getD j noT) r from out_congr (fun j hj => take_get HTK.out (by rw [HN.out, HQ.out]; omega) (by rw [HN.out]; omega)))
    obtain ⟨o2, hO2⟩ : ∃ o, outF (fun j => M.getD j noT) r = o := ⟨_, rfl⟩
    obtain ⟨ty, tz⟩ := o2
    have HO2 := Lib.hid hO2
    have HY0 := text_any us yo yc r w6 RS6.out HRU.out HY.out.1 HE6.out (by rw [HN.out]; exact hrn)
    unfold TextR at HY0
    rw [HCG.out, hO2, HN.out] at HY0
    have HYC := Lib.hid HY0
    clear b6 HX RS5 HE5 RP5 B5 HY0 hr hO2
    go_wp2_with fail
    refine HYC.out.mono ?_
    rintro e w7 ⟨rfl, b7⟩
    have HE7 := Lib.hid (HE6.out.below b7)
    have RP7 := Lib.hid (RP6.out.below b7)
    have B7 := Lib.hid (B6.out.trans (b7.mono B6.out.size))
    have HZ0 := text_any M (some ⟨pb, pf, none⟩) pc r w7 RP7.out HRM.out (by rw [HQ.out]; exact HPCC.out) HE7.out (by rw [HQ.out]; omega)
    unfold TextR at HZ0
    rw [HO2.out, HQ.out] at HZ0
    have HZC := Lib.hid HZ0
    clear b7 HYC RS6 HE6 RP6 B6 HZ0
    go_wp2_with fail
    refine HZC.out.mono ?_
    rintro e w8 ⟨rfl, b8⟩
    have B8 := Lib.hid (B7.out.trans (b8.mono B7.out.size))
    clear b8 HZC HE7 RP7 B7
    have heb := HEB.out
    have hebb : ((I : Int) == (J : Int)) = eb := heb
    have hebn : decide (I = J) = eb := by rw [← heb]; exact decide_eq_decide.2 (by omega)
    rcases HTE.out with rfl | rfl
    · have hp0 := HPO.out rfl
      have hxe : ¬ tx = (⟨#[]⟩ : ByteArray) := fun h => by rw [h] at hp0; exact absurd hp0 (by decide)
      have hx2 := ty_str_eq tx ⟨#[]⟩
      rw [decide_eq_false hxe, show (⟨#[]⟩ : ByteArray).toList = [] from by first | rfl | decide | simp] at hx2
      go_wp2_with fail
      go_ret
      exact ⟨by first | rfl | (simp; done), B8.out⟩
    · go_wp2_with fail
      go_ret
      exact ⟨by first | rfl | (simp; done), B8.out⟩
  · obtain ⟨R, hR⟩ : ∃ R, paddT us U = R := ⟨_, rfl⟩
    have hb := padd_bad0 he
    rw [hR] at HP0 he hb
    obtain ⟨RL, RP, RE⟩ := R
    obtain rfl : RL = [] := hb
    have hne : (RE == 0) = false := by rw [beq_eq_false_iff_ne]; exact he
    have HP := Lib.hid HP0
    clear HP0 hR he
    go_wp2_with fail
    refine HP.out.mono ?_
    rintro e w2 ⟨po, pc, rfl, rp, hpc, b2⟩
    have B2 := Lib.hid (BS.out.trans (b2.mono BS.out.size))
    have HA := Lib.hid (alive_any w2 (HE1.out.below b2))
    clear rp hpc b2 c0 c1 c2 c3 c4 HP BS KS RS TS HE1
    go_wp2_with fail
    refine HA.out.mono ?_
    rintro e w4 ⟨rfl, b4⟩
    have B4 := Lib.hid (B2.out.trans (b4.mono B2.out.size))
    clear b4
    go_wp2_with fail
    go_ret
    exact ⟨by first | rfl | (simp; done), B4.out⟩
end Go.Proofs.YthgdceikmipppaaDoor
