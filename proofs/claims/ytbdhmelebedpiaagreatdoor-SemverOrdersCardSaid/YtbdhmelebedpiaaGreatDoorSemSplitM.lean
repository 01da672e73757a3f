/- Cutting and splitting at a byte: the mathematics. -/
import Derived.Test.YtbdhmelebedpiaaGreatDoorSemVerM
import Derived.Test.YtbdhmelebedpiaaGreatDoorSemShelf
import Derived.Lib.SplitLaws
namespace Go.Proofs.YtbdhmelebedpiaaGreatDoor
open Go.RowKit

def cutL (c : UInt8) : List UInt8 → List UInt8 × List UInt8 × Bool
  | [] => ([], [], false)
  | x :: r => if x = c then ([], r, true) else (x :: (cutL c r).1, (cutL c r).2.1, (cutL c r).2.2)
def consHead (x : UInt8) : List (List UInt8) → List (List UInt8)
  | [] => [[x]]
  | h :: t => (x :: h) :: t
def partsL (c : UInt8) : List UInt8 → List (List UInt8)
  | [] => [[]]
  | x :: r => if x = c then [] :: partsL c r else consHead x (partsL c r)
theorem index_nil (c : UInt8) : Lib.index [] [c] = -1 := by unfold Lib.index; rfl
theorem index_hit (c : UInt8) (r : List UInt8) : Lib.index (c :: r) [c] = 0 := by rw [Lib.index]; simp [List.isPrefixOf]
theorem index_miss {c x : UInt8} (r : List UInt8) (h : x ≠ c) : Lib.index (x :: r) [c] = if Lib.index r [c] = -1 then -1 else Lib.index r [c] + 1 := by
  rw [Lib.index]
  have : ([c] : List UInt8).isPrefixOf (x :: r) = false := by simp [List.isPrefixOf, Ne.symm h]
  rw [this]
  simp
theorem cut_eq (c : UInt8) : ∀ l : List UInt8, Lib.cut l [c] = cutL c l
  | [] => by unfold Lib.cut; rw [index_nil]; rfl
  | x :: r => by
    have ih := cut_eq c r
    unfold cutL
    by_cases h : x = c
    · subst h
      unfold Lib.cut
      rw [index_hit, if_pos (by decide), if_pos rfl]
      rfl
    · rw [if_neg h, ← ih]
      unfold Lib.cut
      rw [index_miss r h]
      have hg := Lib.index_ge r [c]
      by_cases hm : Lib.index r [c] = -1
      · rw [if_pos hm, hm]; rfl
      · rw [if_neg hm, if_pos (by omega), if_pos (by omega)]
        have e1 : (Lib.index r [c] + 1).toNat = (Lib.index r [c]).toNat + 1 := by omega
        rw [e1, List.take_succ_cons, show (Lib.index r [c]).toNat + 1 + [c].length = (Lib.index r [c]).toNat + [c].length + 1 by simp, List.drop_succ_cons]
theorem splitK_miss {c x : UInt8} (r : List UInt8) (h : x ≠ c) (k : Nat) : Lib.splitK [c] 0 k (x :: r) = consHead x (Lib.splitK [c] 0 k r) := by
  cases k with
  | zero => rfl
  | succ k =>
    unfold Lib.splitK
    rw [index_miss r h]
    have hg := Lib.index_ge r [c]
    by_cases hm : Lib.index r [c] = -1
    · rw [if_pos hm, hm]; rfl
    · have e1 : (Lib.index r [c] + 1).toNat = (Lib.index r [c]).toNat + 1 := by omega
      rw [if_neg hm, if_neg (by rw [beq_iff_eq]; omega), if_neg (by rw [beq_iff_eq]; omega), e1]
      rw [show (Lib.index r [c]).toNat + 1 + 0 = (Lib.index r [c]).toNat + 0 + 1 by omega, List.take_succ_cons, show (Lib.index r [c]).toNat + 1 + [c].length = (Lib.index r [c]).toNat + [c].length + 1 by simp, List.drop_succ_cons]
      rfl
theorem split_eq (c : UInt8) : ∀ l : List UInt8, Lib.splitK [c] 0 (Lib.count l [c]) l = partsL c l
  | [] => by rw [Lib.count_one]; rfl
  | x :: r => by
    have ih := split_eq c r
    unfold partsL
    by_cases h : x = c
    · subst h
      rw [Lib.count_cons_eq, if_pos rfl, Nat.add_comm, ← ih]
      conv => lhs; unfold Lib.splitK
      rw [index_hit, if_neg (by decide)]
      rfl
    · rw [if_neg h, Lib.count_cons_ne x c r h, splitK_miss r h, ih]
theorem parts_ne (c : UInt8) : ∀ l : List UInt8, partsL c l ≠ []
  | [] => by unfold partsL; exact List.cons_ne_nil _ _
  | x :: r => by
    unfold partsL
    by_cases h : x = c
    · rw [if_pos h]; exact List.cons_ne_nil _ _
    · rw [if_neg h]
      have := parts_ne c r
      cases hp : partsL c r with
      | nil => exact absurd hp this
      | cons a t => exact List.cons_ne_nil _ _
theorem parts_len (c : UInt8) : ∀ l : List UInt8, (partsL c l).length ≤ l.length + 1 ∧ ∀ p ∈ partsL c l, p.length ≤ l.length
  | [] => by unfold partsL; simp
  | x :: r => by
    obtain ⟨h1, h2⟩ := parts_len c r
    unfold partsL
    by_cases h : x = c
    · rw [if_pos h]
      refine ⟨by simp; omega, fun p hp => ?_⟩
      rcases List.mem_cons.1 hp with rfl | hp
      · simp
      · have := h2 p hp; simp; omega
    · rw [if_neg h]
      cases hp : partsL c r with
      | nil => exact absurd hp (parts_ne c r)
      | cons a t =>
        rw [hp] at h1 h2
        unfold consHead
        refine ⟨by simp at h1 ⊢; omega, fun p hp => ?_⟩
        rcases List.mem_cons.1 hp with rfl | hp
        · have := h2 a (List.mem_cons_self); simp; omega
        · have := h2 p (List.mem_cons_of_mem _ hp); simp; omega
def mkS (l : List UInt8) : ByteArray := ⟨l.toArray⟩
theorem mkS_data (l : List UInt8) : (mkS l).data.toList = l := rfl
theorem mkS_list (l : List UInt8) : (mkS l).toList = l := by rw [ByteArray.toList_eq]; rfl
theorem mkS_size (l : List UInt8) : (mkS l).size = l.length := rfl
theorem mkS_of (s : ByteArray) : mkS s.data.toList = s := rfl
def dotsOf (l : List UInt8) : List ByteArray := (partsL 46 l).map mkS
def dotS : ByteArray := ⟨#[46]⟩
theorem map_mkS {ls : List (List UInt8)} {bs : List ByteArray} (h : bs.map (·.data.toList) = ls) : bs = ls.map mkS := by
  subst h
  rw [List.map_map]
  exact (List.map_id' _).symm.trans (List.map_congr_left fun s _ => (mkS_of s).symm)
theorem dots_eq (s : ByteArray) : Lib.splitB dotS 0 (Lib.countB s dotS) s = dotsOf s.data.toList := by
  unfold dotsOf
  refine map_mkS ?_
  rw [Lib.splitB_data]
  exact split_eq 46 s.data.toList
theorem dots_len (l : List UInt8) : (dotsOf l).length ≤ l.length + 1 ∧ ∀ p ∈ dotsOf l, p.size ≤ l.length := by
  obtain ⟨h1, h2⟩ := parts_len 46 l
  refine ⟨by unfold dotsOf; simpa using h1, fun p hp => ?_⟩
  obtain ⟨q, hq, rfl⟩ := List.mem_map.1 hp
  exact h2 q hq
theorem dots_count (s : ByteArray) : Lib.countB s dotS + 1 = (dotsOf s.data.toList).length := by
  rw [← dots_eq, Lib.splitB_all dotS (by decide) 0 _ _ rfl]
theorem cut_len (c : UInt8) : ∀ l : List UInt8, (cutL c l).1.length ≤ l.length ∧ (cutL c l).2.1.length ≤ l.length
  | [] => ⟨Nat.le_refl _, Nat.le_refl _⟩
  | x :: r => by
    obtain ⟨h1, h2⟩ := cut_len c r
    unfold cutL
    by_cases h : x = c
    · rw [if_pos h]; simp
    · rw [if_neg h]; simp; omega
/-- A text's parts: the numbers, the words of the pre-release, those of the build. -/
def coreL (s : ByteArray) : List UInt8 := (cutL 45 (cutL 43 s.data.toList).1).1
def numsOf (s : ByteArray) : List ByteArray := dotsOf (coreL s)
def preOf (s : ByteArray) : List ByteArray := if (cutL 45 (cutL 43 s.data.toList).1).2.2 = true then dotsOf (cutL 45 (cutL 43 s.data.toList).1).2.1 else []
def buildOf (s : ByteArray) : List ByteArray := if (cutL 43 s.data.toList).2.2 = true then dotsOf (cutL 43 s.data.toList).2.1 else []
theorem parts_small (s : ByteArray) {ss : List ByteArray} (h : ss = numsOf s ∨ ss = preOf s ∨ ss = buildOf s) : ss.length ≤ s.size + 1 ∧ ∀ p ∈ ss, p.size ≤ s.size := by
  have a1 := cut_len 43 s.data.toList
  have a2 := cut_len 45 (cutL 43 s.data.toList).1
  have hs : s.data.toList.length = s.size := rfl
  have key : ∀ l : List UInt8, l.length ≤ s.size → (dotsOf l).length ≤ s.size + 1 ∧ ∀ p ∈ dotsOf l, p.size ≤ s.size := fun l hl => by
    obtain ⟨d1, d2⟩ := dots_len l
    exact ⟨by omega, fun p hp => by have := d2 p hp; omega⟩
  rcases h with rfl | rfl | rfl
  · exact key _ (by unfold coreL; omega)
  · unfold preOf
    split
    · exact key _ (by omega)
    · simp
  · unfold buildOf
    split
    · exact key _ (by omega)
    · simp
def okSplit (s : ByteArray) : Bool := decide ((numsOf s).length = 3) && !(numsOf s).any badNum && !(preOf s).any badPre && !(buildOf s).any badWord
def overN (ss : List ByteArray) : Bool := ss.any fun w => !(numRes w).2
def overP (ss : List ByteArray) : Bool := ss.any fun w => numB w && !(numRes w).2
def parseE (s : ByteArray) : Int := if okSplit s = false then 5 else if (fewB (preOf s) && fewB (buildOf s)) = false then 7 else if overN (numsOf s) = true then 2 else if overP (preOf s) = true then 2 else 0
def parseV (s : ByteArray) : Vr := ⟨(numRes ((numsOf s).getD 0 default)).1, (numRes ((numsOf s).getD 1 default)).1, (numRes ((numsOf s).getD 2 default)).1, preOf s, buildOf s⟩
end Go.Proofs.YtbdhmelebedpiaaGreatDoor
