/- The reference's Common. -/
import Derived.Test.YthmhljfaenekfaaRatRefDiv
namespace Go.Proofs.Ythmhljfaenekfaa
open Go.RowKit NM

theorem fieldQ (x y : Value) (w : World) : (Instr.field 51 (.agg #[x, y]) 0).run Try.prog w = .ok x w := by kernel_rfl
theorem fieldR (x y : Value) (w : World) : (Instr.field 51 (.agg #[x, y]) 1).run Try.prog w = .ok y w := by kernel_rfl

theorem list_ne48 {q : ByteArray} (h : q ≠ ⟨#[48]⟩) : (q.toList == [48]) = false := by
  rw [beq_eq_false_iff_ne]
  intro h2
  apply h
  rw [ByteArray.toList_eq] at h2
  apply ByteArray.ext
  apply Array.toList_inj.1
  rw [h2]
/-- Far from too great. -/
def Far (A : Nat) : Prop := 10 * (A : Int) < big
theorem Far.lt {A : Nat} (h : Far A) : (A : Int) < big := by
  unfold Far at h
  omega
theorem Far.mod {A k : Nat} (h : Far k) (h0 : k ≠ 0) : Far (A % k) := by
  unfold Far at *
  have := Nat.mod_lt A (Nat.pos_of_ne_zero h0)
  omega
set_option maxHeartbeats 800000 in
set_option maxRecDepth 100000 in
theorem common_fun (A0 B0 : Nat) (w : World) (hA : Far A0) (hB : Far B0) :
    Calls Try.prog 41 #[.string (numStr A0), .string (numStr B0)] w fun e w' => e = .returned (.string (numStr (Nat.gcd A0 B0 : Nat))) ∧ Below w.heap.size w w' := by
  have fR := fieldR
  have HA := Lib.hid hA
  have HB := Lib.hid hB
  clear hA hB
  go_enter Try.func41, Try.ntmps41
  go_wp2_with fail
  go_loopg [0, 1] B0 (fun k va vb wr => ∃ A : Nat, va = .string (numStr A) ∧ vb = .string (numStr k) ∧ Hid (Nat.gcd A k = Nat.gcd A0 B0) ∧ Hid (Far A) ∧ Hid (Far k) ∧ Hid (Below w.heap.size w wr))
  case atStart => exact ⟨A0, rfl, rfl, Lib.hid rfl, HA, HB, Lib.hid (Below.refl _ _)⟩
  case round =>
    obtain ⟨A, rfl, rfl, hg, ha, hb, hbl⟩ := hrel
    by_cases hk0 : gk = 0
    · subst hk0
      have hA : A = Nat.gcd A0 B0 := by rw [← hg.out, Nat.gcd_zero_right]
      rw [hA]
      have Hz := Lib.hid (show numStr ((0 : Nat) : Int) = ⟨#[48]⟩ from numStr_zero)
      clear hA ha hb HA HB
      rw [Hz.out]
      go_wp2_with fail
      go_ret
      exact ⟨rfl, hbl.out⟩
    · have hne : numStr gk ≠ ⟨#[48]⟩ := fun h => by
        have := numStr_inj (A := gk) (B := 0) (by omega) (by omega) (by rw [h, numStr_zero])
        omega
      have HD := Lib.hid (fun w => refdiv2_fun (A : Int) (gk : Int) w (by omega) (Far.lt ha.out) (by omega) hb.out)
      have hgg := Lib.hid (show Nat.gcd gk (A % gk) = Nat.gcd A0 B0 by rw [← hg.out, Nat.gcd_comm A gk, Nat.gcd_rec gk A, Nat.gcd_comm])
      have Hmod := Lib.hid (show Far (A % gk) from Far.mod hb.out hk0)
      have hlt := Lib.hid (Nat.mod_lt A (Nat.pos_of_ne_zero hk0))
      obtain ⟨q, hq⟩ : ∃ q, numStr gk = q := ⟨_, rfl⟩
      rw [hq] at hne HD
      have Hq := Lib.hid hq
      rw [hq]
      have hb1 : (q.toList == [48]) = false := list_ne48 hne
      have hb2 : (q.toList != [48]) = true := by rw [bne, hb1]; rfl
      clear hk0 hne hq ha
      go_wp2_with fail
      refine (HD.out _).mono ?_
      rintro e w2 ⟨rfl, hb2'⟩
      have Hl := Lib.hid (hbl.out.trans (hb2'.mono hbl.out.size))
      have Hr := Hmod
      clear HD hb2' hb1 hb2
      go_wp2_with fail
      go_roundg (A % gk)
      case measure => exact hlt.out
      case rel => exact ⟨gk, by rw [Hq.out], rfl, hgg, hb, Hr, Hl⟩
end Go.Proofs.Ythmhljfaenekfaa
