/- The laws: what they share. -/
import Derived.Test.YtbdhmelebedpiaaGreatDoorSemFewB
namespace Go.Proofs.YtbdhmelebedpiaaGreatDoor
open Go.RowKit
set_option linter.unusedSimpArgs false
set_option linter.unusedVariables false
theorem set5_facts {w s : World} {b : Nat} {v0 v1 v2 v3 v4 : Value} (h : ((((w.setCell ⟨b, 0, none⟩ v0).setCell ⟨b, 1, none⟩ v1).setCell ⟨b, 2, none⟩ v2).setCell ⟨b, 3, none⟩ v3).setCell ⟨b, 4, none⟩ v4 = s) :
    (∀ (xs : Fin 5 → Value) T, BlockAt w b #[xs 0, xs 1, xs 2, xs 3, xs 4] T → BlockAt s b #[v0, v1, v2, v3, v4] T) ∧ (∀ c xs T, BlockAt w c xs T → c ≠ b → BlockAt s c xs T) ∧ (∀ base ao ss, SRowN base w ao ss → b < base → SRowN base s ao ss) ∧ (∀ B a, Below B a w → B ≤ b → Below B a s) ∧ s.heap.size = w.heap.size := by
  subst h
  refine ⟨fun xs T h => ?_, fun c xs T h hn => ((((h.other hn _ _).other hn _ _).other hn _ _).other hn _ _).other hn _ _, fun base ao ss h hb => ((((h.set hb _).set hb _).set hb _).set hb _).set hb _, fun B a h hb => ((((h.setCell (by simpa using hb) _).setCell (by simpa using hb) _).setCell (by simpa using hb) _).setCell (by simpa using hb) _).setCell (by simpa using hb) _, by simp⟩
  have := ((((h.set 0 v0).set 1 v1).set 2 v2).set 3 v3).set 4 v4
  simpa using this
theorem set5_at {w s : World} {b : Nat} {a0 a1 a2 a3 a4 v0 v1 v2 v3 v4 : Value} {T : TypeId} (h : ∀ (xs : Fin 5 → Value) T, BlockAt w b #[xs 0, xs 1, xs 2, xs 3, xs 4] T → BlockAt s b #[v0, v1, v2, v3, v4] T) (hb : BlockAt w b #[a0, a1, a2, a3, a4] T) : BlockAt s b #[v0, v1, v2, v3, v4] T :=
  h (fun i => match i with | 0 => a0 | 1 => a1 | 2 => a2 | 3 => a3 | 4 => a4) T hb
theorem cmp_any (A B : Vr) (ao bo co do_ : Option Addr) (ac bc cc dc : Nat) (w : World) (hA : VerC w ao bo A) (hB : VerC w co do_ B) (hE : Errs w) (p q : Bool) (r1 : rightB A = p) (r2 : rightB B = q) :
    Calls Tryz.prog 6 #[verV A ao ac bo bc, verV B co cc do_ dc] w fun e w' => e = .returned (.tuple #[.int .i64 (if (p && q) = true then cmpV A B else 0), .int .i64 (if (p && q) = true then 0 else 1)]) ∧ Below w.heap.size w w' := by
  cases p <;> cases q
  · exact cmp_bad A B ao bo co do_ ac bc cc dc w hA hB hE (by rw [r1]; rfl)
  · exact cmp_bad A B ao bo co do_ ac bc cc dc w hA hB hE (by rw [r1]; rfl)
  · exact cmp_bad A B ao bo co do_ ac bc cc dc w hA hB hE (by rw [r2, Bool.and_false])
  · exact cmp_good A B ao bo co do_ ac bc cc dc w hA hB hE r1 r2
theorem cmpWord_range (a b : ByteArray) : -1 ≤ cmpWord a b ∧ cmpWord a b ≤ 1 := by
  unfold cmpWord
  split
  · split
    · exact sgn_range _ _
    · omega
  · split
    · omega
    · unfold cmpS; split <;> (try split) <;> omega
theorem cmpL_range : ∀ a b : List ByteArray, -1 ≤ cmpL a b ∧ cmpL a b ≤ 1
  | [], [] => by unfold cmpL; omega
  | [], _ :: _ => by unfold cmpL; omega
  | _ :: _, [] => by unfold cmpL; omega
  | a :: r, b :: s => by
    unfold cmpL
    split
    · exact cmpL_range r s
    · exact cmpWord_range a b
theorem cmpV_range (a b : Vr) : -1 ≤ cmpV a b ∧ cmpV a b ≤ 1 := by
  unfold cmpV
  have := cmpN_ways a b
  split
  · split
    · exact sgn_range _ _
    · exact cmpL_range _ _
  · omega
end Go.Proofs.YtbdhmelebedpiaaGreatDoor
