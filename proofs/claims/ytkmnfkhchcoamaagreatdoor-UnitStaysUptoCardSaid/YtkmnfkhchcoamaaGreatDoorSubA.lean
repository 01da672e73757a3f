import Derived.Test.YtkmnfkhchcoamaaGreatDoorTyA
import Derived.Test.YtkmnfkhchcoamaaGreatDoorSubShelf
import Derived.Test.YtkmnfkhchcoamaaGreatDoorRegG
import Derived.Test.YtkmnfkhchcoamaaGreatDoorBlock
import Derived.WalkLawsBesides
import Derived.Laws.AppendOwn
import Derived.Laws.OwnMore
import Derived.Test.YtkmnfkhchcoamaaGreatDoorTyC
import Derived.Test.YtkmnfkhchcoamaaGreatDoorTyB
/- An interface's terms: sorted, and of each kid the last one alone, they are those of the places in order. -/
namespace Go.Proofs.YtkmnfkhchcoamaaGreatDoor
open Go.RowKit
set_option linter.unusedSimpArgs false
set_option linter.unusedVariables false

def eqW : ByteArray := ⟨#[61]⟩
def tiW : ByteArray := ⟨#[126]⟩
instance memDec (x : ByteArray × Int) (ps : List (ByteArray × Int)) : Decidable (x ∈ ps) := decidable_of_iff (ps.any (fun q => decide (q = x)) = true) (by simp)
def markP (ps : List (ByteArray × Int)) (p : Nat) : List (ByteArray × Int) :=
  if (tiW, (p : Int)) ∈ ps then [(tiW, (p : Int))] else if (eqW, (p : Int)) ∈ ps then [(eqW, (p : Int))] else []
def termP (L : Nat) (ps : List (ByteArray × Int)) : List (ByteArray × Int) := (List.range L).flatMap (markP ps)
/-- A term: is it one of all types under, and its kid. -/
abbrev Tm := Bool × Int
def wordOf (b : Bool) : ByteArray := if b = true then tiW else eqW
def decP (x : Tm) : ByteArray × Int := (wordOf x.1, x.2)
def cfT (x y : Tm) : Int := if x.2 < y.2 then -1 else if y.2 < x.2 then 1 else if x.1 = y.1 then 0 else if x.1 = true then 1 else -1
def ltT (x y : Tm) : Bool := decide (x.2 < y.2) || (decide (x.2 = y.2) && (!x.1 && y.1))
theorem cf_lt (x y : Tm) : decide (cfT x y < 0) = ltT x y := by
  obtain ⟨a, i⟩ := x
  obtain ⟨b, j⟩ := y
  unfold cfT ltT
  by_cases h1 : i < j
  · simp [h1]
  · by_cases h2 : j < i
    · have h3 : ¬ i = j := by omega
      simp [h1, h2, h3]
    · have h3 : i = j := by omega
      subst h3
      cases a <;> cases b <;> simp
theorem lt_irrefl (x : Tm) : ltT x x = false := by
  obtain ⟨a, i⟩ := x
  unfold ltT
  cases a <;> simp
theorem lt_iff {x y : Tm} : ltT x y = true ↔ x.2 < y.2 ∨ (x.2 = y.2 ∧ x.1 = false ∧ y.1 = true) := by
  unfold ltT
  simp
theorem lt_no {x y : Tm} : ltT x y = false ↔ ¬ (x.2 < y.2 ∨ (x.2 = y.2 ∧ x.1 = false ∧ y.1 = true)) := by
  rw [← lt_iff]
  simp
theorem lt_trans {x y z : Tm} (h1 : ltT x y = true) (h2 : ltT y z = true) : ltT x z = true := by
  rw [lt_iff] at *
  rcases h1 with h1 | ⟨h1, h3, h4⟩ <;> rcases h2 with h2 | ⟨h2, h5, h6⟩
  · exact .inl (by omega)
  · exact .inl (by omega)
  · exact .inl (by omega)
  · rw [h4] at h5; cases h5
theorem lt_ntrans {x y z : Tm} (h1 : ltT x y = false) (h2 : ltT y z = false) : ltT x z = false := by
  rw [lt_no] at *
  intro h
  rcases h with h | ⟨h, h3, h4⟩
  · exact h1 (.inl (by
      rcases Int.lt_or_le x.2 y.2 with g | g
      · exact g
      · exact absurd (.inl (by omega)) h2))
  · by_cases g : x.2 = y.2
    · cases hy : y.1
      · exact h2 (.inr ⟨by omega, hy, h4⟩)
      · exact h1 (.inr ⟨g, h3, hy⟩)
    · rcases Int.lt_or_le x.2 y.2 with g2 | g2
      · exact h1 (.inl g2)
      · exact h2 (.inl (by omega))
theorem lt_total {x y : Tm} (h1 : ltT x y = false) (h2 : ltT y x = false) : x = y := by
  obtain ⟨a, i⟩ := x
  obtain ⟨b, j⟩ := y
  rw [lt_no] at *
  have h1 : ¬ (i < j ∨ (i = j ∧ a = false ∧ b = true)) := h1
  have h2 : ¬ (j < i ∨ (j = i ∧ b = false ∧ a = true)) := h2
  have e : i = j := by omega
  subst e
  cases a <;> cases b <;> simp_all
/-- Of each kid the last one alone. -/
def lasts : List Tm → List Tm
  | [] => []
  | [x] => [x]
  | x :: y :: r => if y.2 = x.2 then lasts (y :: r) else x :: lasts (y :: r)
theorem lasts_mem : ∀ {S : List Tm} {x : Tm}, x ∈ lasts S → x ∈ S
  | [], x, h => h
  | [y], x, h => h
  | a :: b :: r, x, h => by
    unfold lasts at h
    split at h
    · exact List.mem_cons_of_mem _ (lasts_mem h)
    · rcases List.mem_cons.1 h with rfl | h
      · exact List.mem_cons_self
      · exact List.mem_cons_of_mem _ (lasts_mem h)
/-- A sorted row. -/
def SortedT (S : List Tm) : Prop := S.Pairwise fun x y => ltT y x = false
theorem kid_le {x y : Tm} (h : ltT y x = false) : x.2 ≤ y.2 := by
  rw [lt_no] at h
  omega
theorem lasts_strict : ∀ {S : List Tm}, SortedT S → (lasts S).Pairwise fun x y => x.2 < y.2
  | [], _ => List.Pairwise.nil
  | [y], _ => by unfold lasts; simp
  | a :: b :: r, h => by
    have h' := h
    unfold SortedT at h'
    rw [List.pairwise_cons] at h'
    have ih := lasts_strict (S := b :: r) h'.2
    unfold lasts
    split
    · exact ih
    · rename_i hne
      rw [List.pairwise_cons]
      refine ⟨fun z hz => ?_, ih⟩
      have hz := lasts_mem hz
      have h1 := kid_le (h'.1 b List.mem_cons_self)
      have hz2 : b.2 ≤ z.2 := by
        rcases List.mem_cons.1 hz with rfl | hz
        · exact Int.le_refl _
        · exact kid_le ((List.pairwise_cons.1 h'.2).1 z hz)
      omega
theorem lasts_iff : ∀ {S : List Tm}, SortedT S → ∀ x, x ∈ lasts S ↔ x ∈ S ∧ (x.1 = true ∨ (true, x.2) ∉ S)
  | [], _, x => by unfold lasts; simp
  | [y], _, x => by
    unfold lasts
    rw [List.mem_singleton, List.mem_singleton]
    constructor
    · rintro rfl
      refine ⟨rfl, ?_⟩
      cases hx : x.1
      · right
        intro h
        rw [← h] at hx
        cases hx
      · exact .inl rfl
    · exact fun h => h.1
  | a :: b :: r, h, x => by
    have h' := h
    unfold SortedT at h'
    rw [List.pairwise_cons] at h'
    have ih := lasts_iff (S := b :: r) h'.2
    have hab := h'.1 b List.mem_cons_self
    have tail : ∀ z ∈ b :: r, b.2 ≤ z.2 := fun z hz => by
      rcases List.mem_cons.1 hz with rfl | hz
      · exact Int.le_refl _
      · exact kid_le ((List.pairwise_cons.1 h'.2).1 z hz)
    unfold lasts
    split
    · rename_i he
      rw [ih x]
      constructor
      · rintro ⟨h1, h2⟩
        refine ⟨List.mem_cons_of_mem _ h1, ?_⟩
        rcases h2 with h2 | h2
        · exact .inl h2
        · cases hx : x.1
          · right
            intro hm
            rcases List.mem_cons.1 hm with hm | hm
            · have := h'.1 x h1
              rw [lt_no, ← hm] at this
              exact this (.inr ⟨rfl, hx, rfl⟩)
            · exact h2 hm
          · exact .inl rfl
      · rintro ⟨h1, h2⟩
        rcases List.mem_cons.1 h1 with rfl | h1
        · rcases h2 with h2 | h2
          · have : x = b := lt_total (by
              rw [lt_no, h2]
              intro g
              rcases g with g | ⟨_, g, _⟩
              · omega
              · cases g) hab
            exact ⟨by rw [this]; exact List.mem_cons_self, .inl h2⟩
          · cases hx : x.1
            · have hb : b.1 = false := by
                cases hb : b.1
                · rfl
                · refine absurd (List.mem_cons_of_mem _ ?_) h2
                  rw [← he, ← hb]
                  exact List.mem_cons_self
              have : x = b := Prod.ext (hx.trans hb.symm) he.symm
              exact ⟨by rw [this]; exact List.mem_cons_self, .inr (fun g => h2 (List.mem_cons_of_mem _ g))⟩
            · have : x = b := lt_total (by
                rw [lt_no, hx]
                intro g
                rcases g with g | ⟨_, g, _⟩
                · omega
                · cases g) hab
              exact ⟨by rw [this]; exact List.mem_cons_self, .inl rfl⟩
        · refine ⟨h1, ?_⟩
          rcases h2 with h2 | h2
          · exact .inl h2
          · exact .inr (fun g => h2 (List.mem_cons_of_mem _ g))
    · rename_i hne
      have hle := kid_le hab
      have e1 : x ∈ a :: lasts (b :: r) ↔ x = a ∨ x ∈ lasts (b :: r) := List.mem_cons
      have e2 : x ∈ a :: b :: r ↔ x = a ∨ x ∈ b :: r := List.mem_cons
      rw [e1, ih x, e2]
      have far : ∀ z ∈ b :: r, z.2 ≠ a.2 := fun z hz => by have := tail z hz; omega
      constructor
      · rintro (rfl | ⟨h1, h2⟩)
        · refine ⟨.inl rfl, ?_⟩
          cases hx : x.1
          · right
            intro hm
            rcases List.mem_cons.1 hm with hm | hm
            · rw [← hm] at hx; cases hx
            · exact far _ hm rfl
          · exact .inl rfl
        · refine ⟨.inr h1, ?_⟩
          rcases h2 with h2 | h2
          · exact .inl h2
          · right
            intro hm
            rcases List.mem_cons.1 hm with hm | hm
            · have := far x h1
              rw [← hm] at this
              exact this rfl
            · exact h2 hm
      · rintro ⟨rfl | h1, h2⟩
        · exact .inl rfl
        · refine .inr ⟨h1, ?_⟩
          rcases h2 with h2 | h2
          · exact .inl h2
          · exact .inr (fun g => h2 (List.mem_cons_of_mem _ g))
theorem strict_eq : ∀ {xs ys : List Tm}, (xs.Pairwise fun x y => x.2 < y.2) → (ys.Pairwise fun x y => x.2 < y.2) → (∀ z, z ∈ xs ↔ z ∈ ys) → xs = ys
  | [], [], _, _, _ => rfl
  | [], y :: ys, _, _, h => absurd ((h y).2 List.mem_cons_self) (by simp)
  | x :: xs, [], _, _, h => absurd ((h x).1 List.mem_cons_self) (by simp)
  | x :: xs, y :: ys, hx, hy, h => by
    rw [List.pairwise_cons] at hx hy
    have e : x = y := by
      rcases List.mem_cons.1 ((h x).1 List.mem_cons_self) with e | e
      · exact e
      · rcases List.mem_cons.1 ((h y).2 List.mem_cons_self) with g | g
        · exact g.symm
        · have := hy.1 x e
          have := hx.1 y g
          omega
    subst e
    rw [strict_eq hx.2 hy.2 (fun z => ?_)]
    constructor
    · intro hz
      rcases List.mem_cons.1 ((h z).1 (List.mem_cons_of_mem _ hz)) with e | e
      · subst e; have := hx.1 z hz; omega
      · exact e
    · intro hz
      rcases List.mem_cons.1 ((h z).2 (List.mem_cons_of_mem _ hz)) with e | e
      · subst e; have := hy.1 z hz; omega
      · exact e
/-- The terms of the places in order. -/
def markQ (ms : List Tm) (p : Nat) : List Tm := if (true, (p : Int)) ∈ ms then [(true, (p : Int))] else if (false, (p : Int)) ∈ ms then [(false, (p : Int))] else []
def termQ (L : Nat) (ms : List Tm) : List Tm := (List.range L).flatMap (markQ ms)
theorem markQ_kid {ms : List Tm} {p : Nat} {x : Tm} (h : x ∈ markQ ms p) : x.2 = (p : Int) := by
  unfold markQ at h
  split at h
  · rw [List.mem_singleton.1 h]
  · split at h
    · rw [List.mem_singleton.1 h]
    · cases h
theorem termQ_succ (L : Nat) (ms : List Tm) : termQ (L + 1) ms = termQ L ms ++ markQ ms L := by
  unfold termQ
  rw [List.range_succ, List.flatMap_append]
  simp
theorem termQ_kid {L : Nat} {ms : List Tm} {x : Tm} (h : x ∈ termQ L ms) : 0 ≤ x.2 ∧ x.2 < (L : Int) := by
  unfold termQ at h
  rw [List.mem_flatMap] at h
  obtain ⟨p, hp, hx⟩ := h
  rw [List.mem_range] at hp
  rw [markQ_kid hx]
  omega
theorem termQ_strict (ms : List Tm) : ∀ L, (termQ L ms).Pairwise fun x y => x.2 < y.2
  | 0 => List.Pairwise.nil
  | L + 1 => by
    rw [termQ_succ, List.pairwise_append]
    refine ⟨termQ_strict ms L, ?_, fun x hx y hy => ?_⟩
    · unfold markQ
      split
      · simp
      · split <;> simp
    · rw [markQ_kid hy]
      exact (termQ_kid hx).2
theorem termQ_iff {L : Nat} {ms : List Tm} (hk : ∀ z ∈ ms, 0 ≤ z.2 ∧ z.2 < (L : Int)) (x : Tm) : x ∈ termQ L ms ↔ x ∈ ms ∧ (x.1 = true ∨ (true, x.2) ∉ ms) := by
  obtain ⟨b, k⟩ := x
  unfold termQ
  rw [List.mem_flatMap]
  constructor
  · rintro ⟨p, hp, hx⟩
    have hkp : k = (p : Int) := markQ_kid hx
    subst hkp
    unfold markQ at hx
    split at hx
    · rename_i h1
      rw [List.mem_singleton] at hx
      rw [hx]
      exact ⟨h1, .inl rfl⟩
    · rename_i h1
      split at hx
      · rename_i h2
        rw [List.mem_singleton] at hx
        rw [hx]
        exact ⟨h2, .inr h1⟩
      · cases hx
  · rintro ⟨h1, h2⟩
    have h3 := hk _ h1
    have h3 : 0 ≤ k ∧ k < (L : Int) := h3
    obtain ⟨p, rfl⟩ : ∃ p : Nat, k = (p : Int) := ⟨k.toNat, by omega⟩
    refine ⟨p, List.mem_range.2 (by omega), ?_⟩
    unfold markQ
    cases b
    · have h2 : (true, (p : Int)) ∉ ms := by
        rcases h2 with h2 | h2
        · cases h2
        · exact h2
      rw [if_neg h2, if_pos h1]
      exact List.mem_singleton.2 rfl
    · rw [if_pos h1]
      exact List.mem_singleton.2 rfl
/-- Sorted, and of each kid the last one alone: the terms of the places in order. -/
theorem lasts_terms {L : Nat} {ms : List Tm} (hk : ∀ z ∈ ms, 0 ≤ z.2 ∧ z.2 < (L : Int)) : lasts (ms.mergeSort fun x y => !ltT y x) = termQ L ms := by
  have hs : SortedT (ms.mergeSort fun x y => !ltT y x) := by
    have := List.pairwise_mergeSort (le := fun x y => !ltT y x) (fun a b c h1 h2 => by
      rw [Bool.not_eq_true'] at *
      exact lt_ntrans h2 h1) (fun a b => by
      rw [Bool.or_eq_true, Bool.not_eq_true', Bool.not_eq_true']
      cases h : ltT b a
      · exact .inl rfl
      · right
        rw [lt_no]
        rw [lt_iff] at h
        intro g
        rcases h with h | ⟨h, h3, h4⟩ <;> rcases g with g | ⟨g, g3, g4⟩
        · omega
        · omega
        · omega
        · rw [h4] at g3; cases g3) ms
    unfold SortedT
    exact this.imp (fun h => by rw [Bool.not_eq_true'] at h; exact h)
  refine strict_eq (lasts_strict hs) (termQ_strict ms L) (fun z => ?_)
  rw [lasts_iff hs, termQ_iff hk, List.mem_mergeSort, List.mem_mergeSort]
/-- The terms of a row of words and kids. -/
def marksB (ps : List (ByteArray × Int)) : List Tm := (ps.filter fun p => markB p.1).map fun p => (decide (p.1 = tiW), p.2)
theorem mark_word {w : ByteArray} (h : markB w = true) : w = wordOf (decide (w = tiW)) := by
  by_cases ht : w = tiW
  · rw [decide_eq_true ht]; exact ht
  · rw [decide_eq_false ht]
    unfold markB at h
    rw [Bool.or_eq_true, beq_iff_eq, beq_iff_eq, ByteArray.toList_eq] at h
    rcases h with h | h
    · exact ByteArray.ext (Array.toList_inj.1 h)
    · exact absurd (ByteArray.ext (Array.toList_inj.1 h)) ht
theorem mem_marks {ps : List (ByteArray × Int)} {b : Bool} {k : Int} : (b, k) ∈ marksB ps ↔ (wordOf b, k) ∈ ps := by
  unfold marksB
  rw [List.mem_map]
  constructor
  · rintro ⟨⟨w, j⟩, hm, he⟩
    rw [List.mem_filter] at hm
    injection he with h1 h2
    have h1 : decide (w = tiW) = b := h1
    have h2 : j = k := h2
    rw [← h1, ← h2, ← mark_word hm.2]
    exact hm.1
  · intro h
    refine ⟨(wordOf b, k), List.mem_filter.2 ⟨h, ?_⟩, ?_⟩
    · cases b
      · show markB (wordOf false) = true
        unfold markB
        rw [ByteArray.toList_eq]
        decide
      · show markB (wordOf true) = true
        unfold markB
        rw [ByteArray.toList_eq]
        decide
    · cases b
      · rfl
      · rfl
theorem termP_marks (L : Nat) (ps : List (ByteArray × Int)) : termP L ps = (termQ L (marksB ps)).map decP := by
  unfold termP termQ
  rw [List.map_flatMap]
  congr 1
  funext p
  unfold markP markQ
  have e1 : ((tiW, (p : Int)) ∈ ps) ↔ (true, (p : Int)) ∈ marksB ps := (mem_marks (b := true)).symm
  have e2 : ((eqW, (p : Int)) ∈ ps) ↔ (false, (p : Int)) ∈ marksB ps := (mem_marks (b := false)).symm
  by_cases h1 : (true, (p : Int)) ∈ marksB ps
  · rw [if_pos h1, if_pos (e1.2 h1)]; rfl
  · rw [if_neg h1, if_neg (fun g => h1 (e1.1 g))]
    by_cases h2 : (false, (p : Int)) ∈ marksB ps
    · rw [if_pos h2, if_pos (e2.2 h2)]; rfl
    · rw [if_neg h2, if_neg (fun g => h2 (e2.1 g))]; rfl
end Go.Proofs.YtkmnfkhchcoamaaGreatDoor
/- The comparison of two terms, and what slices.SortFunc makes of a row of them. -/
namespace Go.Proofs.YtkmnfkhchcoamaaGreatDoor
open Go.RowKit Go.Sort
set_option linter.unusedSimpArgs false
set_option linter.unusedVariables false

def orI (a b : Int) : Int := if a = 0 then b else a
theorem or_any (a b : Int) (p : Nat) (w : World) (h : BlockAt w p #[.int .i64 a, .int .i64 b] 3) :
    Calls Tryz.prog 111 #[.slice (some ⟨p, 0, none⟩) 2 2] w fun e w' => e = .returned (.int .i64 (orI a b)) ∧ w = w' := by
  unfold orI
  have c0 := h.cell 0
  have c1 := h.cell 1
  simp only [List.getElem?_toArray, List.getElem?_cons_zero, List.getElem?_cons_succ] at c0 c1
  clear h
  obtain ⟨r, hr⟩ : ∃ r, (if a = 0 then b else a) = r := ⟨_, rfl⟩
  rw [hr]
  have HR := Lib.hid hr
  clear hr
  go_enter Tryz.func111, Tryz.ntmps111
  go_wp2_with fail
  go_loop [8] (fun v => v = .int .i64 0 ∨ (v = .int .i64 1 ∧ Hid (a = 0)) ∨ (v = .int .i64 2 ∧ Hid (a = 0 ∧ b = 0))) (fun v => (2 - intOf v).toNat)
  case atStart => exact .inl rfl
  case round =>
    rcases hrel with rfl | ⟨rfl, H0⟩ | ⟨rfl, H0⟩
    · by_cases ha : a = 0
      · have ha1 : (a != 0) = false := by simp [ha]
        have HA := Lib.hid ha
        clear ha
        go_wp2_with fail
        go_round
        case rel => exact .inr (.inl ⟨by go_num, HA⟩)
        case measure => simp [intOf]
      · have ha1 : (a != 0) = true := by simp [ha]
        have HA := Lib.hid ha
        clear ha
        go_wp2_with fail
        go_ret
        exact ⟨by first | (rw [← HR.out, if_neg HA.out]; done) | (rw [← HR.out, if_neg HA.out]; rfl), rfl⟩
    · by_cases hb : b = 0
      · have hb1 : (b != 0) = false := by simp [hb]
        have HB := Lib.hid (And.intro H0.out hb)
        clear hb
        go_wp2_with fail
        go_round
        case rel => exact .inr (.inr ⟨by go_num, HB⟩)
        case measure => simp [intOf]
      · have hb1 : (b != 0) = true := by simp [hb]
        clear hb
        go_wp2_with fail
        go_ret
        exact ⟨by first | (rw [← HR.out, if_pos H0.out]; done) | (rw [← HR.out, if_pos H0.out]; rfl), rfl⟩
    · go_wp2_with fail
      go_ret
      exact ⟨by first | (rw [← HR.out, if_pos H0.out.1, H0.out.2]; done) | (rw [← HR.out, if_pos H0.out.1, H0.out.2]; rfl), rfl⟩
def cmpB (a b : Bool) : Int := if a = b then 0 else if a = true then 1 else -1
theorem nan_any (s : ByteArray) (w : World) : Calls Tryz.prog 126 #[.string s] w fun e w' => e = .returned (.bool false) ∧ w = w' := by
  go_enter Tryz.func126, Tryz.ntmps126
  go_wp2_with fail
  go_ret
  exact ⟨by simp, rfl⟩
theorem cmpstr_any (a b : Bool) (w : World) : Calls Tryz.prog 113 #[.string (wordOf a), .string (wordOf b)] w fun e w' => e = .returned (.int .i64 (cmpB a b)) ∧ w = w' := by
  have HA := Lib.hid (fun W => nan_any (wordOf a) W)
  have HB := Lib.hid (fun W => nan_any (wordOf b) W)
  cases a <;> cases b <;> simp only [wordOf, tiW, eqW, Bool.false_eq_true, if_false, if_true] at HA HB ⊢
  all_goals
    go_enter Tryz.func113, Tryz.ntmps113
    go_wp2_with fail
    refine (HA.out _).mono ?_
    rintro e w' ⟨rfl, rfl⟩
    go_wp2_with fail
    refine (HB.out _).mono ?_
    rintro e w' ⟨rfl, rfl⟩
    go_wp2_with fail
    go_ret
    exact ⟨rfl, rfl⟩
theorem compareInt_def (x y : Int) : Lib.compareInt x y = if x < y then -1 else if y < x then 1 else 0 := by
  unfold Lib.compareInt
  by_cases h1 : x < y
  · simp [h1]
  · by_cases h2 : y < x <;> simp [h1, h2]
theorem cf_of (x y : Tm) : orI (Lib.compareInt x.2 y.2) (cmpB x.1 y.1) = cfT x y := by
  unfold orI
  rw [compareInt_def]
  unfold cfT cmpB
  by_cases h1 : x.2 < y.2
  · simp [h1]
  · by_cases h2 : y.2 < x.2
    · simp [h1, h2]
    · simp [h1, h2]
def encT (x : Tm) : List Value := [.string (wordOf x.1), .int .i64 x.2]
set_option maxHeartbeats 4000000 in
set_option maxRecDepth 100000 in
theorem closure_any (x y : Tm) (W : World) : Calls Tryz.prog 110 #[.agg (encT x).toArray, .agg (encT y).toArray] W fun e w' => e = .returned (.int .i64 (cfT x y)) ∧ ∃ q os', w' = grow (W.drewN q) os' := by
  have HCI := Lib.hid (fun w => Tryz.cmp_Compare_int x.2 y.2 w)
  have HCS := Lib.hid (fun w => cmpstr_any x.1 y.1 w)
  have HCF := Lib.hid (cf_of x y)
  unfold encT
  obtain ⟨ci, hci⟩ : ∃ c, Lib.compareInt x.2 y.2 = c := ⟨_, rfl⟩
  obtain ⟨cs, hcs⟩ : ∃ c, cmpB x.1 y.1 = c := ⟨_, rfl⟩
  obtain ⟨i, hi⟩ : ∃ c, x.2 = c := ⟨_, rfl⟩
  obtain ⟨j, hj⟩ : ∃ c, y.2 = c := ⟨_, rfl⟩
  obtain ⟨a, ha⟩ : ∃ c, wordOf x.1 = c := ⟨_, rfl⟩
  obtain ⟨b, hb⟩ : ∃ c, wordOf y.1 = c := ⟨_, rfl⟩
  rw [hci] at HCI HCF
  rw [hcs] at HCS HCF
  rw [hi, hj] at HCI
  rw [ha, hb] at HCS
  rw [hi, hj, ha, hb]
  obtain ⟨r, hr⟩ : ∃ r, cfT x y = r := ⟨_, rfl⟩
  rw [hr] at HCF ⊢
  have HOR0 := fun p w h => or_any ci cs p w h
  rw [HCF.out] at HOR0
  have HOR := Lib.hid HOR0
  clear hci hcs hi hj ha hb hr HOR0
  show Calls Tryz.prog 110 #[.agg #[.string a, .int .i64 i], .agg #[.string b, .int .i64 j]] W _
  obtain ⟨w1, h1⟩ : ∃ w1, W.alloc (.cells #[.string a, .int .i64 i] 135) = w1 := ⟨_, rfl⟩
  obtain ⟨w2, h2⟩ : ∃ w2, w1.alloc (.cells #[.string b, .int .i64 j] 135) = w2 := ⟨_, rfl⟩
  obtain ⟨nb, hnb⟩ : ∃ b, W.heap.size = b := ⟨_, rfl⟩
  obtain ⟨mb, hmb⟩ : ∃ b, w1.heap.size = b := ⟨_, rfl⟩
  have k1 : BlockAt w1 nb #[.string a, .int .i64 i] 135 := by rw [← h1, ← hnb]; exact BlockAt.new _ _ _
  have k2 : BlockAt w2 mb #[.string b, .int .i64 j] 135 := by rw [← h2, ← hmb]; exact BlockAt.new _ _ _
  have k1' : BlockAt w2 nb #[.string a, .int .i64 i] 135 := k1.below (by rw [← h2]; exact (Below.refl _ _).alloc (Nat.le_refl _) _)
  have HG := Lib.hid (show w2 = grow W #[.cells #[.string a, .int .i64 i] 135, .cells #[.string b, .int .i64 j] 135] from by
    rw [← h2, ← h1, alloc_eq_grow, alloc_eq_grow, grow_grow]; rfl)
  have c0 := k1'.cell 0
  have c1 := k1'.cell 1
  have d0 := k2.cell 0
  have d1 := k2.cell 1
  simp only [List.getElem?_toArray, List.getElem?_cons_zero, List.getElem?_cons_succ] at c0 c1 d0 d1
  clear k1 k2 k1'
  go_enter Tryz.func110, Tryz.ntmps110
  go_wp2_with fail
  refine GoG.start [(4, ⟨nb, 1, none⟩, .int .i64 i), (4, ⟨mb, 1, none⟩, .int .i64 j), (9, ⟨nb, 0, none⟩, .string a), (9, ⟨mb, 0, none⟩, .string b)] (by kernel_rfl) ?_ ?_
  · exact (Keeps.cons (by first | assumption | simp [*]) (Keeps.cons (by first | assumption | simp [*]) (Keeps.cons (by first | assumption | simp [*]) (Keeps.cons (by first | assumption | simp [*]) Keeps.nil))))
  refine GoG.take (i := 0) (v := ?_) [] rfl (by kernel_rfl) (by kernel_rfl) (by kernel_rfl) (by kernel_rfl) (by kernel_rfl) (by kernel_rfl) (fun _ _ _ h => h) (yields_free (by rfl) (fun w => ?_)) ?_
  rotate_left
  · go_simp; try (with_reducible rfl)
  try simp only [Act.put, List.getElem_toArray, List.getElem_cons_succ, List.getElem_cons_zero, List.setIfInBounds_toArray, List.set_cons_zero, List.set_cons_succ]
  refine GoG.take (i := 1) (v := ?_) [4] rfl (by kernel_rfl) (by kernel_rfl) (by kernel_rfl) (by kernel_rfl) (by kernel_rfl) (by kernel_rfl) (fun _ _ _ h => h) (yields_load 4 ⟨nb, 1, none⟩ (.int .i64 i) (by simp) (by decide) (by rfl) (fun w hw => ?_)) ?_
  rotate_left
  · go_simp; try (with_reducible rfl)
  try simp only [Act.put, List.getElem_toArray, List.getElem_cons_succ, List.getElem_cons_zero, List.setIfInBounds_toArray, List.set_cons_zero, List.set_cons_succ]
  refine GoG.take (i := 2) (v := ?_) [] rfl (by kernel_rfl) (by kernel_rfl) (by kernel_rfl) (by kernel_rfl) (by kernel_rfl) (by kernel_rfl) (fun _ _ _ h => h) (yields_free (by rfl) (fun w => ?_)) ?_
  rotate_left
  · go_simp; try (with_reducible rfl)
  try simp only [Act.put, List.getElem_toArray, List.getElem_cons_succ, List.getElem_cons_zero, List.setIfInBounds_toArray, List.set_cons_zero, List.set_cons_succ]
  refine GoG.take (i := 3) (v := ?_) [4] rfl (by kernel_rfl) (by kernel_rfl) (by kernel_rfl) (by kernel_rfl) (by kernel_rfl) (by kernel_rfl) (fun _ _ _ h => h) (yields_load 4 ⟨mb, 1, none⟩ (.int .i64 j) (by simp) (by decide) (by rfl) (fun w hw => ?_)) ?_
  rotate_left
  · go_simp; try (with_reducible rfl)
  try simp only [Act.put, List.getElem_toArray, List.getElem_cons_succ, List.getElem_cons_zero, List.setIfInBounds_toArray, List.set_cons_zero, List.set_cons_succ]
  refine GoG.take (i := 5) (v := ?_) [] rfl (by kernel_rfl) (by kernel_rfl) (by kernel_rfl) (by kernel_rfl) (by kernel_rfl) (by kernel_rfl) (fun _ _ _ h => h) (yields_free (by rfl) (fun w => ?_)) ?_
  rotate_left
  · go_simp; try (with_reducible rfl)
  try simp only [Act.put, List.getElem_toArray, List.getElem_cons_succ, List.getElem_cons_zero, List.setIfInBounds_toArray, List.set_cons_zero, List.set_cons_succ]
  refine GoG.take (i := 6) (v := ?_) [9] rfl (by kernel_rfl) (by kernel_rfl) (by kernel_rfl) (by kernel_rfl) (by kernel_rfl) (by kernel_rfl) (fun _ _ _ h => h) (yields_load 9 ⟨nb, 0, none⟩ (.string a) (by simp) (by decide) (by rfl) (fun w hw => ?_)) ?_
  rotate_left
  · go_simp; try (with_reducible rfl)
  try simp only [Act.put, List.getElem_toArray, List.getElem_cons_succ, List.getElem_cons_zero, List.setIfInBounds_toArray, List.set_cons_zero, List.set_cons_succ]
  refine GoG.take (i := 7) (v := ?_) [] rfl (by kernel_rfl) (by kernel_rfl) (by kernel_rfl) (by kernel_rfl) (by kernel_rfl) (by kernel_rfl) (fun _ _ _ h => h) (yields_free (by rfl) (fun w => ?_)) ?_
  rotate_left
  · go_simp; try (with_reducible rfl)
  try simp only [Act.put, List.getElem_toArray, List.getElem_cons_succ, List.getElem_cons_zero, List.setIfInBounds_toArray, List.set_cons_zero, List.set_cons_succ]
  refine GoG.take (i := 8) (v := ?_) [9] rfl (by kernel_rfl) (by kernel_rfl) (by kernel_rfl) (by kernel_rfl) (by kernel_rfl) (by kernel_rfl) (fun _ _ _ h => h) (yields_load 9 ⟨mb, 0, none⟩ (.string b) (by simp) (by decide) (by rfl) (fun w hw => ?_)) ?_
  rotate_left
  · go_simp; try (with_reducible rfl)
  try simp only [Act.put, List.getElem_toArray, List.getElem_cons_succ, List.getElem_cons_zero, List.setIfInBounds_toArray, List.set_cons_zero, List.set_cons_succ]
  refine GoG.one (i := 4) rfl (by kernel_rfl) (fun K hK => ?_)
  go_simp
  refine (HCI.out _).mono ?_
  rintro e w5 ⟨rfl, rfl⟩
  refine hK.out _ _ (Keeps.up (by rfl) (Keeps.up (by rfl) (Keeps.cons (by first | assumption | simp [*]) (Keeps.cons (by first | assumption | simp [*]) Keeps.nil)))) ?_
  clear hK K
  try simp only [Act.put, List.getElem_toArray, List.getElem_cons_succ, List.getElem_cons_zero, List.setIfInBounds_toArray, List.set_cons_zero, List.set_cons_succ]
  refine GoG.one (i := 9) rfl (by kernel_rfl) (fun K hK => ?_)
  go_simp
  refine (HCS.out _).mono ?_
  rintro e w6 ⟨rfl, rfl⟩
  refine hK.out _ _ (Keeps.up (by rfl) (Keeps.up (by rfl) (Keeps.up (by rfl) (Keeps.up (by rfl) Keeps.nil)))) ?_
  clear hK K
  try simp only [Act.put, List.getElem_toArray, List.getElem_cons_succ, List.getElem_cons_zero, List.setIfInBounds_toArray, List.set_cons_zero, List.set_cons_succ]
  refine GoG.one (i := 10) rfl (by kernel_rfl) (fun K hK => ?_)
  go_simp
  refine hK.out _ _ (Keeps.up (by rfl) (Keeps.up (by rfl) (Keeps.up (by rfl) (Keeps.up (by rfl) Keeps.nil)))) ?_
  clear hK K
  try simp only [Act.put, List.getElem_toArray, List.getElem_cons_succ, List.getElem_cons_zero, List.setIfInBounds_toArray, List.set_cons_zero, List.set_cons_succ]
  refine GoG.one (i := 11) rfl (by kernel_rfl) (fun K hK => ?_)
  go_simp
  refine (HOR.out w2.heap.size _ (show BlockAt (w2.alloc (.cells #[.int .i64 ci, .int .i64 cs] 3)).drew w2.heap.size #[.int .i64 ci, .int .i64 cs] 3 from BlockAt.new w2 _ _)).mono ?_
  rintro e w7 ⟨rfl, rfl⟩
  refine hK.out _ _ (Keeps.up (by rfl) (Keeps.up (by rfl) (Keeps.up (by rfl) (Keeps.up (by rfl) Keeps.nil)))) ?_
  clear hK K
  try simp only [Act.put, List.getElem_toArray, List.getElem_cons_succ, List.getElem_cons_zero, List.setIfInBounds_toArray, List.set_cons_zero, List.set_cons_succ]
  refine GoG.one (i := 12) rfl (by kernel_rfl) (fun K hK => ?_)
  go_simp
  refine hK.out _ _ (Keeps.up (by rfl) (Keeps.up (by rfl) (Keeps.up (by rfl) (Keeps.up (by rfl) Keeps.nil)))) ?_
  clear hK K
  try simp only [Act.put, List.getElem_toArray, List.getElem_cons_succ, List.getElem_cons_zero, List.setIfInBounds_toArray, List.set_cons_zero, List.set_cons_succ]
  refine GoG.done (by kernel_rfl) ?_ _
  clear c0 c1 d0 d1 h1 h2 hnb hmb
  go_wp2_with fail
  go_ret
  refine ⟨rfl, ?_⟩
  rw [HG.out]
  exact ⟨1, #[.cells #[.string a, .int .i64 i] 135, .cells #[.string b, .int .i64 j] 135] ++ #[.cells #[.int .i64 ci, .int .i64 cs] 3], by rw [alloc_eq_grow, grow_grow]; rfl⟩
end Go.Proofs.YtkmnfkhchcoamaaGreatDoor
/- slices.SortFunc on a row of terms of the call's own. -/
namespace Go.Proofs.YtkmnfkhchcoamaaGreatDoor
open Go.RowKit Go.Sort
set_option linter.unusedSimpArgs false
set_option linter.unusedVariables false

/-- The cells of a row of terms. -/
def tmC (S : List Tm) : List Value := S.flatMap encT
theorem tmC_len : ∀ S : List Tm, (tmC S).length = S.length * 2
  | [] => rfl
  | x :: r => by
    have ih := tmC_len r
    unfold tmC at *
    rw [List.flatMap_cons, List.length_append, ih, List.length_cons]
    show 2 + _ = _
    omega
theorem tmC_snoc (S : List Tm) (x : Tm) : tmC (S ++ [x]) = tmC S ++ encT x := by unfold tmC; simp
theorem tmC_at : ∀ (S : List Tm) (k : Nat) (h : k < S.length), (tmC S)[k * 2]? = some (.string (wordOf S[k].1)) ∧ (tmC S)[k * 2 + 1]? = some (.int .i64 S[k].2)
  | [], k, h => absurd h (Nat.not_lt_zero _)
  | x :: r, 0, h => ⟨rfl, rfl⟩
  | x :: r, k + 1, h => by
    have ih := tmC_at r k (Nat.lt_of_succ_lt_succ h)
    have e : ∀ j, (tmC (x :: r))[(k + 1) * 2 + j]? = (tmC r)[k * 2 + j]? := fun j => by
      unfold tmC
      rw [List.flatMap_cons, List.getElem?_append_right (by show 2 ≤ _; omega)]
      exact congrArg (fun n => (r.flatMap encT)[n]?) (show (k + 1) * 2 + j - 2 = k * 2 + j by omega)
    exact ⟨(e 0).trans ih.1, (e 1).trans ih.2⟩
/-- A row of the call's own that holds these terms. -/
def OwnTm (w : World) (base : Nat) (v : Value) (S : List Tm) : Prop := w.ownsRow base 135 2 v S.length (tmC S)
theorem ownTm_nil (w : World) (base : Nat) : OwnTm w base (.slice none 0 0) [] := World.ownsRow_nil _ _ _ _
theorem flat_at (S : List Tm) (j : Nat) (h : j < S.length * 2) : (tmC S)[j]? = some ((flatK encT 2 S.toArray)[j]!) := by
  rw [get_flatK encT 2 S.toArray j (by simpa using h)]
  have hk : j / 2 < S.length := by omega
  have e : S.toArray[j / 2]! = S[j / 2] := by
    rw [getElem!_pos _ _ (by simpa using hk)]
    simp
  rw [e]
  obtain ⟨h0, h1⟩ := tmC_at S (j / 2) hk
  rcases Nat.mod_two_eq_zero_or_one j with g | g
  · have ej : j / 2 * 2 = j := by omega
    rw [g]
    rw [ej] at h0
    exact h0
  · have ej : j / 2 * 2 + 1 = j := by omega
    rw [g]
    rw [ej] at h1
    exact h1
theorem holds_tm {w : World} {base g cap : Nat} {S : List Tm} (h : OwnTm w base (.slice (some ⟨g, 0, none⟩) S.length cap) S) : HoldsK encT 2 w g 0 S.toArray := by
  intro j hj
  rw [size_flatK] at hj
  have hj : j < S.length * 2 := by simpa using hj
  have h : w.ownsRow base 135 2 (.slice (some ⟨g, 0, none⟩) S.length cap) S.length (tmC S) := h
  rw [Nat.zero_add]
  exact ⟨(h.cellAt j hj).trans (flat_at S j hj), h.frozenAt j⟩
theorem swo_cf : SWO (Go.Proofs.ltOf cfT) where
  irrefl x := by show decide (cfT x x < 0) = false; rw [cf_lt]; exact lt_irrefl x
  trans x y z h1 h2 := by
    have h1 : decide (cfT x y < 0) = true := h1
    have h2 : decide (cfT y z < 0) = true := h2
    show decide (cfT x z < 0) = true
    rw [cf_lt] at *
    exact lt_trans h1 h2
  ntrans x y z h1 h2 := by
    have h1 : decide (cfT x y < 0) = false := h1
    have h2 : decide (cfT y z < 0) = false := h2
    show decide (cfT x z < 0) = false
    rw [cf_lt] at *
    exact lt_ntrans h1 h2
/-- The row sorted. -/
def sortT (S : List Tm) : List Tm := S.mergeSort fun x y => !ltT y x
theorem sortT_len (S : List Tm) : (sortT S).length = S.length := List.length_mergeSort S
theorem sort_fun (S : List Tm) : (S.toArray.toList.mergeSort fun x y => !(Go.Proofs.ltOf cfT) y x) = sortT S := by
  unfold sortT
  congr 1
  funext x y
  show (!decide (cfT y x < 0)) = _
  rw [cf_lt]
/-- What the sort leaves. -/
def SortP (w : World) (base g cap : Nat) (S : List Tm) (e : Ending) (w' : World) : Prop :=
  e = .returned (.tuple #[]) ∧ w.grownBy w' (some g) ∧ OwnTm w' base (.slice (some ⟨g, 0, none⟩) S.length cap) (sortT S)
theorem sort_own {w w' : World} {base g cap : Nat} {S : List Tm} {cur' : Array Value} (h : OwnTm w base (.slice (some ⟨g, 0, none⟩) S.length cap) S) (hs : ∀ cur, w.heap[g]? = some (.cells cur 135 (0, 0)) → w'.heap[g]? = some (.cells cur' 135 (0, 0)) ∧ cur'.size = cur.size)
    (hh : ∀ j, j < (sortT S).length * 2 → w'.cell? ⟨g, j, none⟩ = (tmC (sortT S))[j]?) : OwnTm w' base (.slice (some ⟨g, 0, none⟩) S.length cap) (sortT S) := by
  obtain ⟨h1, h2⟩ := h
  unfold OwnTm
  rw [sortT_len]
  refine ⟨by rw [tmC_len, sortT_len], ?_⟩
  rcases h2 with ⟨h2, h3⟩ | ⟨g', cap', cur, hv, hg, hcur, hcap1, hcap2, hcs, htk⟩
  · cases h2
  · injection hv with e1 e2 e3
    injection e1 with e1
    injection e1 with e1
    subst e1
    subst e3
    obtain ⟨q1, q2⟩ := hs cur hcur
    refine .inr ⟨g, cap, cur', rfl, hg, q1, hcap1, hcap2, by rw [q2]; exact hcs, ?_⟩
    apply List.ext_getElem?
    intro j
    by_cases hj : j < S.length * 2
    · rw [List.getElem?_take_of_lt hj, ← hh j (by rw [sortT_len]; exact hj)]
      simp [World.cell?, q1]
    · rw [List.getElem?_eq_none (by rw [List.length_take]; omega), List.getElem?_eq_none (by rw [tmC_len, sortT_len]; omega)]
theorem sortWorld_block (w : World) (g n : Nat) (d : Array Tm) (os : Array Obj) {cur : Array Value} {E : TypeId} {fr : Nat × Nat} (h : w.heap[g]? = some (.cells cur E fr)) : (sortWorldK encT 2 w g 0 n d os).heap[g]? = some (.cells (putCells id 0 (flatK encT 2 d) cur) E fr) := by
  have hlt := (Array.getElem?_eq_some_iff.1 h).1
  unfold sortWorldK grow putRowK putRow mapBlock
  show ((Array.modify w.heap g _) ++ os)[g]? = _
  rw [Array.getElem?_append_left (by simpa using hlt), Array.getElem?_modify, if_pos rfl, h]
  rfl
theorem sortWorld_grown (w : World) (g n : Nat) (d : Array Tm) (os : Array Obj) : w.grownBy (sortWorldK encT 2 w g 0 n d os) (some g) := by
  refine ⟨rfl, rfl, rfl, size_sortWorldK_c encT 2 w g 0 n d os, fun k hk hne => ?_⟩
  have hk' : k ≠ g := fun e => hne (by rw [e])
  unfold sortWorldK grow putRowK putRow mapBlock
  show ((Array.modify w.heap g _) ++ os)[k]? = _
  rw [Array.getElem?_append_left (by simpa using hk), Array.getElem?_modify, if_neg (fun e => hk' e.symm)]
theorem sort_some (S : List Tm) (g cap base : Nat) (w : World) (h : OwnTm w base (.slice (some ⟨g, 0, none⟩) S.length cap) S) (hl : S.length ≤ 1000) :
    Calls Tryz.prog 109 #[.slice (some ⟨g, 0, none⟩) S.length cap, .func (.func 110) #[] #[]] w (SortP w base g cap S) := by
  have hlt : g < w.heap.size := (World.ownsRow.lt (show w.ownsRow base 135 2 (.slice (some ⟨g, 0, none⟩) S.length cap) S.length (tmC S) from h) g rfl).2
  have eg : ∀ args w, (callFunc 110 args).run Tryz.prog w = .ok (.enter 110 args) w := enters_of Tryz.func110 (by kernel_rfl) rfl
  have hH := holds_tm h
  have hcmp : Go.Proofs.CmpLays Tryz.prog 110 #[] encT 2 cfT g 0 S.toArray.size w := fun _ _ _ _ x y => closure_any x y _
  have hT : ∀ x y : Tm, (Go.Proofs.ltOf cfT) x y = false → (Go.Proofs.ltOf cfT) y x = false → x = y := fun x y h1 h2 => by
    have h1 : decide (cfT x y < 0) = false := h1
    have h2 : decide (cfT y x < 0) = false := h2
    rw [cf_lt] at h1 h2
    exact lt_total h1 h2
  have hcon := AnyQ.slices_SortFunc_total Tryz.sortTm 2 Tryz.isAgg135 Tryz.sizeOf135 encT (fun _ => rfl) (fun x v hv => by simp [encT] at hv; rcases hv with rfl | rfl <;> rfl) cfT swo_cf 110 #[] g 0 cap S.toArray w eg hcmp hH hlt (by simp; omega) hT
  have hcon : Calls Tryz.prog 109 #[.slice (some ⟨g, 0, none⟩) S.toArray.size cap, .func (.func 110) #[] #[]] w _ := hcon
  rw [show S.toArray.size = S.length by simp] at hcon
  refine hcon.mono ?_
  rintro e w' ⟨rfl, n, os, rfl⟩
  rw [sort_fun]
  have hS := holdsK_sortWorldK encT 2 w g 0 n S.toArray (sortT S).toArray os hlt hH (by simp [sortT_len])
  have hh : ∀ j, j < (sortT S).length * 2 → (sortWorldK encT 2 w g 0 n (sortT S).toArray os).cell? ⟨g, j, none⟩ = (tmC (sortT S))[j]? := fun j hj => by
    have := (hS j (by rw [size_flatK]; simpa using hj)).1
    rw [Nat.zero_add] at this
    rw [flat_at _ j hj]
    exact this
  refine ⟨rfl, sortWorld_grown _ _ _ _ _, ?_⟩
  obtain ⟨cur0, hcur0⟩ : ∃ cur, w.heap[g]? = some (.cells cur 135 (0, 0)) := by
    have h' : w.ownsRow base 135 2 (.slice (some ⟨g, 0, none⟩) S.length cap) S.length (tmC S) := h
    obtain ⟨-, h2⟩ := h'
    rcases h2 with ⟨h2, h3⟩ | ⟨g', cap', cur, hv, hg, hcur, rest⟩
    · cases h2
    · injection hv with e1 e2 e3
      injection e1 with e1
      injection e1 with e1
      subst e1
      exact ⟨cur, hcur⟩
  exact sort_own h (fun cur hcur => by
    rw [hcur0] at hcur
    injection hcur with hcur
    injection hcur with hcur
    subst hcur
    exact ⟨sortWorld_block w g n _ os hcur0, by simp [putCells]⟩) hh
theorem sort_none (w : World) : Calls Tryz.prog 109 #[.slice none 0 0, .func (.func 110) #[] #[]] w fun e w' => e = .returned (.tuple #[]) ∧ w = w' := by
  have h := AnyF.slices_SortFunc_none Tryz.sortTm none 0 (.func (.func 110) #[] #[]) w
  have h : Calls Tryz.prog 109 #[.slice none 0 0, .func (.func 110) #[] #[]] w _ := h
  exact h.mono fun _ _ ⟨h1, h2⟩ => ⟨h1, h2.symm⟩
end Go.Proofs.YtkmnfkhchcoamaaGreatDoor
/- Types instead of type params, as functions. -/
namespace Go.Proofs.YtkmnfkhchcoamaaGreatDoor
open Go.RowKit
set_option linter.unusedSimpArgs false
set_option linter.unusedVariables false

/-- How many params a type asks for, told how many its kids do. -/
def askF (A : Nat → Int) (n : Int) (ks : List Int) : Int := ks.foldl (fun n k => max n (A k.toNat)) n
def ask0 (t : Ty) : Int := if t.kind = 9 then t.n + 1 else 0
def askD (f : Nat → Ty) : Nat → Nat → Int
  | 0 => fun _ => 0
  | c + 1 => fun m => if m = c then askF (askD f c) (ask0 (f c)) (f c).kids else askD f c m
theorem askF_snoc {A : Nat → Int} {n : Int} {ks : List Int} {q : Nat} (hq : q < ks.length) : askF A n (ks.take (q + 1)) = max (askF A n (ks.take q)) (A (ks.getD q 0).toNat) := by
  unfold askF
  rw [List.take_succ_eq_append_getElem hq, List.foldl_append, getD_of hq]
  rfl
theorem askF_le {A : Nat → Int} : ∀ {ks : List Int} {n : Int}, n ≤ 16 → (∀ m, A m ≤ 16) → askF A n ks ≤ 16
  | [], n, h, _ => h
  | k :: r, n, h, hA => askF_le (ks := r) (n := max n (A k.toNat)) (by have := hA k.toNat; omega) hA
theorem askF_ge {A : Nat → Int} : ∀ {ks : List Int} {n : Int}, n ≤ askF A n ks
  | [], n => Int.le_refl _
  | k :: r, n => Int.le_trans (by omega : n ≤ max n (A k.toNat)) (askF_ge (ks := r))
theorem askF_kid {A : Nat → Int} : ∀ {ks : List Int} {n : Int} {k : Int}, k ∈ ks → A k.toNat ≤ askF A n ks
  | [], n, k, h => absurd h (by simp)
  | j :: r, n, k, h => by
    rcases List.mem_cons.1 h with rfl | h
    · exact Int.le_trans (by omega : A k.toNat ≤ max n (A k.toNat)) (askF_ge (ks := r))
    · exact askF_kid (ks := r) h
/-- Which types may stand in an arena: what is asked of params. -/
def ParamOk (f : Nat → Ty) : Prop := ∀ j, (f j).kind = 9 → 0 ≤ (f j).n ∧ (f j).n < 16
theorem ask0_in {f : Nat → Ty} (h : ParamOk f) (j : Nat) : 0 ≤ ask0 (f j) ∧ ask0 (f j) ≤ 16 := by
  unfold ask0
  split
  · rename_i h9
    have := h j h9
    omega
  · omega
theorem askD_in {f : Nat → Ty} (h : ParamOk f) : ∀ c m, 0 ≤ askD f c m ∧ askD f c m ≤ 16
  | 0, m => ⟨Int.le_refl _, by show (0 : Int) ≤ 16; omega⟩
  | c + 1, m => by
    unfold askD
    split
    · exact ⟨Int.le_trans (ask0_in h c).1 askF_ge, askF_le (ask0_in h c).2 (fun m => (askD_in h c m).2)⟩
    · exact askD_in h c m
theorem askF_in {f : Nat → Ty} (h : ParamOk f) (c j : Nat) (ks : List Int) : 0 ≤ askF (askD f c) (ask0 (f j)) ks ∧ askF (askD f c) (ask0 (f j)) ks ≤ 16 :=
  ⟨Int.le_trans (ask0_in h j).1 askF_ge, askF_le (ask0_in h j).2 (fun m => (askD_in h c m).2)⟩
theorem askD_stay {f : Nat → Ty} {m : Nat} : ∀ {c d}, m < c → c ≤ d → askD f d m = askD f c m
  | c, 0, h1, h2 => by omega
  | c, d + 1, h1, h2 => by
    rcases Nat.lt_or_eq_of_le h2 with h | h
    · have : askD f (d + 1) m = askD f d m := by show (if m = d then _ else _) = _; rw [if_neg (by omega)]
      rw [this, askD_stay h1 (by omega)]
    · rw [h]
theorem askD_self {f : Nat → Ty} {c d : Nat} (h : c < d) : askD f d c = askF (askD f c) (ask0 (f c)) (f c).kids := by
  rw [askD_stay (Nat.lt_succ_self c) h]
  show (if c = c then _ else _) = _
  rw [if_pos rfl]
/-- A type, of its kids with others instead. -/
def swapT (t : Ty) (I : Nat → Int) : Ty := { t with kids := t.kids.map fun k => I k.toNat }
def badT (l : List Ty) (k : Int) : Bool := decide (kindAt l k = 7 ∨ kindAt l k = 9 ∨ (14 ≤ k ∧ k ≤ 19))
def oddT (l : List Ty) (t : Ty) : Bool := (t.words.zip t.kids).any fun p => markB p.1 && badT l p.2
def plainP (t : Ty) : List (ByteArray × Int) := (t.words.zip t.kids).filter fun p => !markB p.1
def tidyT (L : Nat) (t : Ty) : Ty :=
  { t with words := (plainP t ++ termP L (t.words.zip t.kids)).map (·.1), kids := (plainP t ++ termP L (t.words.zip t.kids)).map (·.2) }
/-- A type put in, of its kids with others instead: the arena, the place, the error. -/
def putT (l : List Ty) (t : Ty) (I : Nat → Int) : List Ty × Int × Int :=
  if t.kind = 7 then (if oddT l (swapT t I) = true then ([], 0, 11) else addT l (tidyT l.length (swapT t I))) else addT l (swapT t I)
/-- What stands instead of what, the arena, the error. -/
structure SS where
  ins : Nat → Int
  now : List Ty
  err : Int
def updI (I : Nat → Int) (c : Nat) (v : Int) : Nat → Int := fun m => if m = c then v else I m
def stepS (f : Nat → Ty) (nd : Nat → Bool) (A : Nat → Int) (args : List Int) (c : Nat) (s : SS) : SS :=
  if s.err ≠ 0 then s
  else if nd c = false ∨ A c = 0 then ⟨updI s.ins c c, s.now, 0⟩
  else if (f c).kind = 9 then ⟨updI s.ins c (args.getD (f c).n.toNat 0), s.now, 0⟩
  else if (putT s.now (f c) s.ins).2.2 = 0 then ⟨updI s.ins c (putT s.now (f c) s.ins).2.1, (putT s.now (f c) s.ins).1, 0⟩
  else ⟨s.ins, [], (putT s.now (f c) s.ins).2.2⟩
def runS (f : Nat → Ty) (nd : Nat → Bool) (A : Nat → Int) (args : List Int) (l : List Ty) : Nat → SS
  | 0 => ⟨fun _ => 0, l, 0⟩
  | c + 1 => stepS f nd A args c (runS f nd A args l c)
def inArena (l : List Ty) (args : List Int) : Bool := args.all fun a => decide (0 ≤ a ∧ a < (l.length : Int))
def funT (l : List Ty) : Nat → Ty := fun j => l.getD j noT
def runT (l : List Ty) (i : Nat) (args : List Int) (c : Nat) : SS := runS (funT l) (needD (funT l) i (i + 1)) (askD (funT l) (i + 1)) args l c
/-- A type with others instead of its params: the arena, the place, the error. -/
def substT (l : List Ty) (i : Nat) (args : List Int) : List Ty × Int × Int :=
  if (args.length : Int) < askD (funT l) (i + 1) i then ([], 0, 1)
  else if inArena l args = false then ([], 0, 1)
  else if (runT l i args (i + 1)).err ≠ 0 then ([], 0, (runT l i args (i + 1)).err)
  else ((runT l i args (i + 1)).now, (runT l i args (i + 1)).ins i, 0)
theorem stepS_err {f : Nat → Ty} {nd : Nat → Bool} {A : Nat → Int} {args : List Int} {c : Nat} {s : SS} (h : s.err ≠ 0) : stepS f nd A args c s = s := by unfold stepS; rw [if_pos h]
theorem runS_err {f : Nat → Ty} {nd : Nat → Bool} {A : Nat → Int} {args : List Int} {l : List Ty} {c : Nat} (h : (runS f nd A args l c).err ≠ 0) : ∀ d, c ≤ d → runS f nd A args l d = runS f nd A args l c
  | 0, hd => by
    have : c = 0 := by omega
    rw [this]
  | d + 1, hd => by
    rcases Nat.lt_or_eq_of_le hd with hd | hd
    · have e := runS_err h d (by omega)
      show stepS f nd A args d (runS f nd A args l d) = _
      rw [e, stepS_err h]
    · rw [← hd]
theorem runS_bad {f : Nat → Ty} {nd : Nat → Bool} {A : Nat → Int} {args : List Int} {l : List Ty} {c d : Nat} {e : Int} (h : (runS f nd A args l c).err = e) (he : e ≠ 0) (hd : c ≤ d) : (runS f nd A args l d).err = e := by
  rw [runS_err (by rw [h]; exact he) d hd, h]
section
variable {f : Nat → Ty} {nd : Nat → Bool} {A : Nat → Int} {args : List Int} {c : Nat} {s : SS}
theorem stepS_skip (h : s.err = 0) (hn : nd c = false ∨ A c = 0) : stepS f nd A args c s = ⟨updI s.ins c c, s.now, 0⟩ := by unfold stepS; rw [if_neg (by omega), if_pos hn]
theorem stepS_param (h : s.err = 0) (h1 : nd c = true) (h2 : ¬ A c = 0) (h9 : (f c).kind = 9) : stepS f nd A args c s = ⟨updI s.ins c (args.getD (f c).n.toNat 0), s.now, 0⟩ := by
  unfold stepS; rw [if_neg (by omega), if_neg (by rw [h1]; simp [h2]), if_pos h9]
theorem stepS_put (h : s.err = 0) (h1 : nd c = true) (h2 : ¬ A c = 0) (h9 : ¬ (f c).kind = 9) {l' : List Ty} {i' : Int} (hp : putT s.now (f c) s.ins = (l', i', 0)) : stepS f nd A args c s = ⟨updI s.ins c i', l', 0⟩ := by
  unfold stepS; rw [if_neg (by omega), if_neg (by rw [h1]; simp [h2]), if_neg h9, hp, if_pos rfl]
theorem stepS_fail (h : s.err = 0) (h1 : nd c = true) (h2 : ¬ A c = 0) (h9 : ¬ (f c).kind = 9) {l' : List Ty} {i' e' : Int} (hp : putT s.now (f c) s.ins = (l', i', e')) (he : e' ≠ 0) : stepS f nd A args c s = ⟨s.ins, [], e'⟩ := by
  unfold stepS; rw [if_neg (by omega), if_neg (by rw [h1]; simp [h2]), if_neg h9, hp, if_neg he]
end
end Go.Proofs.YtkmnfkhchcoamaaGreatDoor
/- What tidy holds: three rows of the call's own, and a type's box. -/
namespace Go.Proofs.YtkmnfkhchcoamaaGreatDoor
open Go.RowKit
set_option linter.unusedSimpArgs false
set_option linter.unusedVariables false

/-- Their blocks are not one. -/
def ApartV (v v2 : Value) : Prop := v.ownBlock = none ∨ v2.ownBlock = none ∨ v.ownBlock ≠ v2.ownBlock
theorem ApartV.symm {v v2 : Value} (h : ApartV v v2) : ApartV v2 v := by
  rcases h with h | h | h
  · exact .inr (.inl h)
  · exact .inl h
  · exact .inr (.inr fun e => h e.symm)
theorem ApartV.ne {v v2 : Value} (h : ApartV v v2) : v2.ownBlock = none ∨ v2.ownBlock ≠ v.ownBlock := by
  rcases h with h | h | h
  · by_cases e : v2.ownBlock = none
    · exact .inl e
    · exact .inr (by rw [h]; exact e)
  · exact .inl h
  · exact .inr fun e => h e.symm
theorem ApartV.push {v v' v2 : Value} {n : Nat} (h : ApartV v v2) (h2 : ∀ k, v2.ownBlock = some k → k < n) (hb : v'.ownBlock = v.ownBlock ∨ v'.ownBlock = some n) : ApartV v' v2 := by
  unfold ApartV at *
  rcases hb with hb | hb
  · rw [hb]; exact h
  · by_cases e : v2.ownBlock = none
    · exact .inr (.inl e)
    · obtain ⟨k, hk⟩ := Option.ne_none_iff_exists'.1 e
      right; right
      rw [hb, hk]
      intro g
      injection g with g
      have := h2 k hk
      omega
theorem row_kept {w w' : World} {base : Nat} {E : TypeId} {size : Nat} {v : Value} {n : Nat} {xs : List Value} (h : w.ownsRow base E size v n xs) (hb : Below w.heap.size w w') : w'.ownsRow base E size v n xs := by
  obtain ⟨h1, h2⟩ := h
  refine ⟨h1, ?_⟩
  rcases h2 with h2 | ⟨g, cap, cur, hv, hg, hcur, rest⟩
  · exact .inl h2
  · exact .inr ⟨g, cap, cur, hv, hg, by rw [hb.block _ (Array.getElem?_eq_some_iff.1 hcur).1]; exact hcur, rest⟩
theorem row_set {w : World} {base : Nat} {E : TypeId} {size : Nat} {v : Value} {n : Nat} {xs : List Value} {b j : Nat} {u : Value} (h : w.ownsRow base E size v n xs) (hb : b < base) : (w.setCell ⟨b, j, none⟩ u).ownsRow base E size v n xs := by
  obtain ⟨h1, h2⟩ := h
  refine ⟨h1, ?_⟩
  rcases h2 with h2 | ⟨g, cap, cur, hv, hg, hcur, rest⟩
  · exact .inl h2
  · exact .inr ⟨g, cap, cur, hv, hg, (show BlockAt (w.setCell ⟨b, j, none⟩ u) g cur E from BlockAt.other (show BlockAt w g cur E from hcur) (by omega) j u), rest⟩
def strC (ss : List ByteArray) : List Value := ss.map .string
def intC (zs : List Int) : List Value := zs.map (.int .i64)
def OwnW (w : World) (base : Nat) (v : Value) (ss : List ByteArray) : Prop := w.ownsRow base 9 1 v ss.length (strC ss)
def OwnK (w : World) (base : Nat) (v : Value) (zs : List Int) : Prop := w.ownsRow base 3 1 v zs.length (intC zs)
theorem ownW_nil (w : World) (base : Nat) : OwnW w base (.slice none 0 0) [] := World.ownsRow_nil _ _ _ _
theorem ownK_nil (w : World) (base : Nat) : OwnK w base (.slice none 0 0) [] := World.ownsRow_nil _ _ _ _
theorem ownW_row {w : World} {base : Nat} {v : Value} {ss : List ByteArray} (h : OwnW w base v ss) : ∃ ao cap, v = .slice ao ss.length cap ∧ SRow w ao ss ∧ ss.length ≤ cap := by
  obtain ⟨h1, h2⟩ := h
  rcases h2 with ⟨rfl, h0⟩ | ⟨g, cap, cur, rfl, hg, hcur, hcap1, hcap2, hcs, htk⟩
  · exact ⟨none, 0, by rw [h0], .inl (List.eq_nil_of_length_eq_zero h0), by omega⟩
  · refine ⟨_, _, rfl, .inr ⟨g, 0, rfl, (Array.getElem?_eq_some_iff.1 hcur).1, fun k hk => ?_⟩, hcap1⟩
    simp only [World.cell?, hcur, Option.isSome_none, Bool.false_eq_true, if_false]
    have e : (cur.toList.take (ss.length * 1))[k]? = (strC ss)[k]? := by rw [htk]
    rw [List.getElem?_take_of_lt (by omega)] at e
    rw [Nat.zero_add]
    simp only [Array.getElem?_toList] at e
    rw [e]
    simp [strC, hk, getD_of hk]
theorem ownK_row {w : World} {base : Nat} {v : Value} {zs : List Int} (h : OwnK w base v zs) : ∃ ao cap, v = .slice ao zs.length cap ∧ IRow w ao zs ∧ zs.length ≤ cap := by
  obtain ⟨h1, h2⟩ := h
  rcases h2 with ⟨rfl, h0⟩ | ⟨g, cap, cur, rfl, hg, hcur, hcap1, hcap2, hcs, htk⟩
  · exact ⟨none, 0, by rw [h0], .inl (List.eq_nil_of_length_eq_zero h0), by omega⟩
  · refine ⟨_, _, rfl, .inr ⟨g, 0, rfl, (Array.getElem?_eq_some_iff.1 hcur).1, fun k hk => ?_⟩, hcap1⟩
    simp only [World.cell?, hcur, Option.isSome_none, Bool.false_eq_true, if_false]
    have e : (cur.toList.take (zs.length * 1))[k]? = (intC zs)[k]? := by rw [htk]
    rw [List.getElem?_take_of_lt (by omega)] at e
    rw [Nat.zero_add]
    simp only [Array.getElem?_toList] at e
    rw [e]
    simp [intC, hk, getD_of hk]
/-- What tidy holds, since the world W. -/
structure TS (W w : World) (mb : Nat) (t : Ty) (bw bk vt wv kv : Value) (ms : List Tm) (ws : List ByteArray) (ks : List Int) : Prop where
  tm : OwnTm w W.heap.size vt ms
  wr : OwnW w W.heap.size wv ws
  kr : OwnK w W.heap.size kv ks
  a1 : ApartV vt wv
  a2 : ApartV vt kv
  a3 : ApartV wv kv
  box : BlockAt w mb #[.int .i64 t.kind, .string t.name, .int .i64 t.n, bw, bk] 38
  hi : mb < W.heap.size
  gr : W.grownBy w (some mb)
theorem below_gr {w w' : World} (hb : Below w.heap.size w w') : w.grownBy w' none := ⟨hb.os, hb.tape, hb.output, hb.size, fun k hk _ => hb.block k hk⟩
section
variable {W w w' : World} {mb : Nat} {t : Ty} {bw bk vt wv kv v' : Value} {ms : List Tm} {ws : List ByteArray} {ks : List Int}
theorem TS.kept (h : TS W w mb t bw bk vt wv kv ms ws ks) (hb : Below w.heap.size w w') : TS W w' mb t bw bk vt wv kv ms ws ks :=
  ⟨row_kept h.tm hb, row_kept h.wr hb, row_kept h.kr hb, h.a1, h.a2, h.a3, h.box.below hb, h.hi, h.gr.andThen (below_gr hb) (fun j e => by cases e)⟩
theorem row_lt {base : Nat} {E : TypeId} {size n : Nat} {v : Value} {xs : List Value} (h : w.ownsRow base E size v n xs) : ∀ k, v.ownBlock = some k → k < w.heap.size := fun k hk => (World.ownsRow.lt h k hk).2
theorem box_grown {base : Nat} {E : TypeId} {size n : Nat} {v : Value} {xs : List Value} {cs : Array Value} {T : TypeId} (h : w.ownsRow base E size v n xs) (hb : BlockAt w mb cs T) (hm : mb < base) (hg : w.grownBy w' v.ownBlock) : BlockAt w' mb cs T := by
  have : w'.heap[mb]? = w.heap[mb]? := hg.block mb hb.lt (fun e => by have := (World.ownsRow.lt h mb e.symm).1; omega)
  unfold BlockAt
  rw [this]
  exact hb
theorem gr_grown {E : TypeId} {size n : Nat} {v : Value} {xs : List Value} (h : w.ownsRow W.heap.size E size v n xs) (hb : W.grownBy w (some mb)) (hg : w.grownBy w' v.ownBlock) : W.grownBy w' (some mb) :=
  hb.andThen hg (fun j e => .inl (World.ownsRow.lt h j e).1)
theorem TS.pushT (h : TS W w mb t bw bk vt wv kv ms ws ks) {x : Tm} (hg : w.grownBy w' vt.ownBlock) (hr : w'.ownsRow W.heap.size 135 2 v' (ms.length + 1) (tmC ms ++ encT x)) (hv : v'.ownBlock = vt.ownBlock ∨ v'.ownBlock = some w.heap.size) :
    TS W w' mb t bw bk v' wv kv (ms ++ [x]) ws ks :=
  ⟨by unfold OwnTm; rw [List.length_append, tmC_snoc]; exact hr, h.wr.kept hg h.a1.ne, h.kr.kept hg h.a2.ne, h.a1.push (row_lt h.wr) hv, h.a2.push (row_lt h.kr) hv, h.a3, box_grown h.tm h.box h.hi hg, h.hi, gr_grown h.tm h.gr hg⟩
theorem TS.pushW (h : TS W w mb t bw bk vt wv kv ms ws ks) {x : ByteArray} (hg : w.grownBy w' wv.ownBlock) (hr : w'.ownsRow W.heap.size 9 1 v' (ws.length + 1) (strC ws ++ [.string x])) (hv : v'.ownBlock = wv.ownBlock ∨ v'.ownBlock = some w.heap.size) :
    TS W w' mb t bw bk vt v' kv ms (ws ++ [x]) ks :=
  ⟨h.tm.kept hg h.a1.symm.ne, by unfold OwnW strC; rw [List.length_append, List.map_append]; exact hr, h.kr.kept hg h.a3.ne, (h.a1.symm.push (row_lt h.tm) hv).symm, h.a2, h.a3.push (row_lt h.kr) hv, box_grown h.wr h.box h.hi hg, h.hi, gr_grown h.wr h.gr hg⟩
theorem TS.pushK (h : TS W w mb t bw bk vt wv kv ms ws ks) {x : Int} (hg : w.grownBy w' kv.ownBlock) (hr : w'.ownsRow W.heap.size 3 1 v' (ks.length + 1) (intC ks ++ [.int .i64 x])) (hv : v'.ownBlock = kv.ownBlock ∨ v'.ownBlock = some w.heap.size) :
    TS W w' mb t bw bk vt wv v' ms ws (ks ++ [x]) :=
  ⟨h.tm.kept hg h.a2.symm.ne, h.wr.kept hg h.a3.symm.ne, by unfold OwnK intC; rw [List.length_append, List.map_append]; exact hr, h.a1, (h.a2.symm.push (row_lt h.tm) hv).symm, (h.a3.symm.push (row_lt h.wr) hv).symm, box_grown h.kr h.box h.hi hg, h.hi, gr_grown h.kr h.gr hg⟩
theorem set_gr (w : World) (mb j : Nat) (u : Value) : w.grownBy (w.setCell ⟨mb, j, none⟩ u) (some mb) := by
  refine ⟨rfl, rfl, rfl, by simp [World.setCell], fun k hk hne => ?_⟩
  have hne' : mb ≠ k := fun e => hne (by rw [e])
  unfold World.setCell
  simp [Array.getElem?_modify, hne']
theorem TS.store3 (h : TS W w mb t bw bk vt wv kv ms ws ks) (u : Value) : TS W (w.setCell ⟨mb, 3, none⟩ u) mb t u bk vt wv kv ms ws ks :=
  ⟨row_set h.tm h.hi, row_set h.wr h.hi, row_set h.kr h.hi, h.a1, h.a2, h.a3, h.box.set 3 u, h.hi, h.gr.andThen (set_gr _ _ _ _) (fun j e => .inr e)⟩
theorem TS.store4 (h : TS W w mb t bw bk vt wv kv ms ws ks) (u : Value) : TS W (w.setCell ⟨mb, 4, none⟩ u) mb t bw u vt wv kv ms ws ks :=
  ⟨row_set h.tm h.hi, row_set h.wr h.hi, row_set h.kr h.hi, h.a1, h.a2, h.a3, h.box.set 4 u, h.hi, h.gr.andThen (set_gr _ _ _ _) (fun j e => .inr e)⟩
theorem TS.sort (h : TS W w mb t bw bk vt wv kv ms ws ks) {g : Nat} (hv : vt.ownBlock = some g) (hg : w.grownBy w' (some g)) (ho : OwnTm w' W.heap.size vt (sortT ms)) : TS W w' mb t bw bk vt wv kv (sortT ms) ws ks := by
  have hg : w.grownBy w' vt.ownBlock := by rw [hv]; exact hg
  exact ⟨ho, h.wr.kept hg h.a1.ne, h.kr.kept hg h.a2.ne, h.a1, h.a2, h.a3, box_grown h.tm h.box h.hi hg, h.hi, gr_grown h.tm h.gr hg⟩
/-- An elder block is as it was. -/
theorem TS.old (h : TS W w mb t bw bk vt wv kv ms ws ks) {b : Nat} {cs : Array Value} {T : TypeId} (hb : BlockAt W b cs T) (hne : b ≠ mb) : BlockAt w b cs T := by
  have : w.heap[b]? = W.heap[b]? := h.gr.block b hb.lt (fun e => hne (by injection e))
  unfold BlockAt
  rw [this]
  exact hb
theorem TS.be (h : TS W w mb t bw bk vt wv kv ms ws ks) {w0 : World} (hb : Below w0.heap.size w0 W) (hm : w0.heap.size ≤ mb) : Below w0.heap.size w0 w :=
  hb.grown h.gr hb.size (fun k e => by injection e with e; omega)
end
end Go.Proofs.YtkmnfkhchcoamaaGreatDoor

