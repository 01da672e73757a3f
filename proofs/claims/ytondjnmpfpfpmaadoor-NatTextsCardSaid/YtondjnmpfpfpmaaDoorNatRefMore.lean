/- The reference's contracts by a number's text: what NatParts asks beside. -/
import Derived.Test.YtondjnmpfpfpmaaDoorNatRefDivX
import Derived.Test.YtondjnmpfpfpmaaDoorNatAlive
namespace Go.Proofs.YtondjnmpfpfpmaaDoor
open Go.RowKit NM

theorem reftext_fun {w : World} {v : Value} {N : Int} (h : Num w v N) :
    Calls Tryd.prog 16 #[v] w fun e w' => e = .returned (.string (numStr N)) ∧ Below w.heap.size w w' :=
  (reftext_num h).mono fun _ _ ⟨⟨_, h1, h2⟩, h3⟩ => ⟨by rw [h1, h2.eq], h3⟩
theorem text_fun {w : World} {v : Value} {N : Int} (h : Num w v N) :
    Calls Tryd.prog 27 #[v] w fun e w' => e = .returned (.tuple #[.string (numStr N), .int .i64 0]) ∧ Below w.heap.size w w' :=
  (text_num v N w h).mono fun _ _ ⟨⟨_, h1, h2⟩, h3⟩ => ⟨by rw [h1, h2.eq], h3⟩
theorem pw_big' : 10 * pw 20 * pw 20 < big := by unfold big; decide +kernel
theorem pw_pos' (n : Nat) : 0 < pw n := pw_pos n
theorem ten_less {n : Nat} {N : Int} (h : 10 ^ n ≤ N) (hN : N < pw 20) : n ≤ 193 := by
  rcases Nat.lt_or_ge 193 n with hn | hn
  · exfalso
    have h1 := ten_le (show 194 ≤ n by omega)
    have h2 : (pw 20 : Int) ≤ 10 ^ 194 := by decide +kernel
    omega
  · exact hn
theorem refmul_wide (A B : Int) (w : World) (hA0 : 0 ≤ A) (hB0 : 0 ≤ B) (hA : A < pw 20) (hB : B < pw 20) :
    Calls Tryd.prog 20 #[.string (numStr A), .string (numStr B)] w fun e w' => e = .returned (.string (numStr (A * B))) ∧ Below w.heap.size w w' := by
  have hf := digsN_dec B.toNat
  rw [show ((B.toNat : Nat) : Int) = B by omega] at hf
  have h20 : pw 20 < big := by unfold big; decide +kernel
  have h32 : 10 * (pw 20 * 10 ^ 194) + 10 * pw 20 < big := by unfold big; decide +kernel
  have l2 := dec_small hf (show B < big by omega)
  have hl : (digsN B.toNat).length ≤ 194 := by
    rcases hf.2.2 with ⟨_, h⟩ | ⟨_, h⟩
    · rw [h]; simp
    · have := ten_less h hB; omega
  have h := refmul_dec (numStr A) A (digsN B.toNat) w (numStr_dec hA0) hf.1 hA0 (by omega) (by omega) (fun i => by
    have hd : Digs ((digsN B.toNat).drop ((digsN B.toNat).length - i)) := fun x hx => hf.1 x (List.mem_of_mem_drop hx)
    have hr := dv_range hd
    have h1 := ten_le (show ((digsN B.toNat).drop ((digsN B.toNat).length - i)).length ≤ 194 by simp; omega)
    have h2 : A * dv ((digsN B.toNat).drop ((digsN B.toNat).length - i)) ≤ pw 20 * 10 ^ 194 := Int.mul_le_mul (by omega) (by omega) hr.1 (by omega)
    omega)
  rw [hf.2.1] at h
  exact h.mono fun _ _ ⟨⟨_, h1, h2⟩, h3⟩ => ⟨by rw [h1, h2.eq], h3⟩
theorem pow_pw {n : Nat} (h : n ≤ 600) : (2 : Int) ^ n < pw 20 := by
  have h1 := pow_le h
  have h2 : (2 : Int) ^ 600 < pw 20 := by decide +kernel
  omega
theorem sgn_ge {A B : Int} (h : B ≤ A) : 0 ≤ sgn A B := by unfold sgn; split <;> (try split) <;> omega
theorem sgn_less {A B : Int} (h : A < B) : sgn A B = -1 := by rw [sgn, if_pos h]
theorem shift_far {N : Int} {t : Nat} (h0 : 0 ≤ N) (hN : N < pw 16) (ht : 512 ≤ t) : N / 2 ^ t = 0 := by
  have h1 := pow_le ht
  have h2 : pw 16 = 2 ^ 512 := pow16
  exact Int.ediv_eq_zero_of_lt h0 (by omega)
theorem shift_more {N : Int} {t : Nat} (h0 : 0 < N) (ht : 512 ≤ t) : pw 16 ≤ N * 2 ^ t := by
  have h1 := pow_le ht
  have h2 : pw 16 = 2 ^ 512 := pow16
  have h3 : 1 * 2 ^ t ≤ N * 2 ^ t := Int.mul_le_mul_of_nonneg_right (by omega) (by omega)
  omega
end Go.Proofs.YtondjnmpfpfpmaaDoor
