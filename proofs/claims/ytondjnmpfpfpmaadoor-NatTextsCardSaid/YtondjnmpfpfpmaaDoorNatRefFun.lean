/- A number's text as a function, and the reference's contracts by it. -/
import Derived.Test.YtondjnmpfpfpmaaDoorNatRefDiv
namespace Go.Proofs.YtondjnmpfpfpmaaDoor
open Go.RowKit NM

/-- A number's digits, the least first. -/
def digsN (n : Nat) : List Int := if n < 10 then [(n : Int)] else ((n % 10 : Nat) : Int) :: digsN (n / 10)
termination_by n
theorem digsN_dec (n : Nat) : Dec (digsN n) n := by
  induction n using Nat.strongRecOn with
  | ind n ih =>
    rw [digsN]
    by_cases h : n < 10
    · rw [if_pos h]
      refine ⟨fun d hd => ?_, ?_, ?_⟩
      · simp at hd; omega
      · simp [dv]
      · rcases Nat.eq_zero_or_pos n with h0 | h0
        · subst h0; exact .inl ⟨rfl, rfl⟩
        · exact .inr ⟨by simp, by simp; omega⟩
    · rw [if_neg h]
      obtain ⟨h1, h2, h3⟩ := ih (n / 10) (by omega)
      refine ⟨fun d hd => ?_, ?_, .inr ⟨by simp, ?_⟩⟩
      · rcases List.mem_cons.1 hd with rfl | hd
        · omega
        · exact h1 d hd
      · rw [dv, h2]; omega
      · rw [List.length_cons, Nat.add_sub_cancel]
        rcases h3 with ⟨h4, _⟩ | ⟨h4, h5⟩
        · omega
        · obtain ⟨k, hk⟩ : ∃ k, (digsN (n / 10)).length = k + 1 := ⟨_, (Nat.sub_add_cancel h4).symm⟩
          rw [hk, Nat.add_sub_cancel] at h5
          rw [hk, ten_succ]
          omega
/-- A number's text. -/
def numStr (N : Int) : ByteArray := dstr (digsN N.toNat)
theorem numStr_dec {N : Int} (h : 0 ≤ N) : DecStr (numStr N) N := by
  have h1 := digsN_dec N.toNat
  rw [show ((N.toNat : Nat) : Int) = N by omega] at h1
  exact ⟨_, h1, rfl⟩
theorem DecStr.nonneg {s : ByteArray} {N : Int} (h : DecStr s N) : 0 ≤ N := by
  obtain ⟨ds, ⟨h1, h2, _⟩, _⟩ := h
  rw [← h2]
  exact (dv_range h1).1
theorem DecStr.eq {s : ByteArray} {N : Int} (h : DecStr s N) : s = numStr N := h.same (numStr_dec h.nonneg)
theorem numStr_inj {A B : Int} (hA : 0 ≤ A) (hB : 0 ≤ B) (h : numStr A = numStr B) : A = B := by
  have h4 : digsN A.toNat = digsN B.toNat := by
    have h5 : dstr (digsN A.toNat) = dstr (digsN B.toNat) := h
    have k1 := digsN_dec A.toNat
    have k2 := digsN_dec B.toNat
    have hl : (digsN A.toNat).length = (digsN B.toNat).length := by rw [← dstr_size, h5, dstr_size]
    have hb := dstr_beq hl k1.1 k2.1
    rw [h5] at hb
    have hv : dv (digsN A.toNat) = dv (digsN B.toNat) := by simpa using hb.symm
    exact dv_same k1.1 k2.1 hl hv
  have k1 := (digsN_dec A.toNat).2.1
  have k2 := (digsN_dec B.toNat).2.1
  rw [h4] at k1
  omega
theorem numStr_zero : numStr 0 = ⟨#[48]⟩ := (decStr_zero.eq).symm
theorem numStr_one : numStr 1 = ⟨#[49]⟩ := (dec_one.eq).symm
theorem numStr_size {N : Int} (hN : N < big) : (numStr N).size ≤ 1000 := by
  have h1 := digsN_dec N.toNat
  have h2 := dec_small h1 (show ((N.toNat : Nat) : Int) < big by
    have : 0 < big := by unfold big; decide +kernel
    omega)
  unfold numStr
  rw [dstr_size]
  omega

/-- A text's answer, and what became of the world. -/
theorem trim_fun (A d : Int) (w : World) (h : 0 ≤ A) (hA : A < big) (d0 : 0 ≤ d) (d1 : d < 10) :
    Calls Tryd.prog 40 #[.string (numStr A ++ ⟨#[b8 d]⟩)] w fun e w' => e = .returned (.string (numStr (d + 10 * A))) ∧ w' = w :=
  (trim_digit _ A d w (numStr_dec h) hA d0 d1).mono fun _ _ ⟨⟨_, h1, h2⟩, h3⟩ => ⟨by rw [h1, h2.eq], h3.symm⟩
theorem cmp_fun (A B : Int) (w : World) (hA0 : 0 ≤ A) (hB0 : 0 ≤ B) (hA : A < big) (hB : B < big) :
    Calls Tryd.prog 17 #[.string (numStr A), .string (numStr B)] w fun e w' => e = .returned (.int .i64 (sgn A B)) ∧ w = w' :=
  cmp_dec _ _ A B w (numStr_dec hA0) (numStr_dec hB0) hA hB
theorem refsub_fun (A B : Int) (w : World) (hB0 : 0 ≤ B) (hA : A < big) (hAB : B ≤ A) :
    Calls Tryd.prog 21 #[.string (numStr A), .string (numStr B)] w fun e w' => e = .returned (.string (numStr (A - B))) ∧ Below w.heap.size w w' :=
  (refsub_str _ _ A B w (numStr_dec (by omega)) (numStr_dec hB0) hA hAB).mono fun _ _ ⟨⟨_, h1, h2⟩, h3⟩ => ⟨by rw [h1, h2.eq], h3⟩
theorem refadd_fun (A B : Int) (w : World) (hA0 : 0 ≤ A) (hB0 : 0 ≤ B) (hA : A < big) (hB : B < big) :
    Calls Tryd.prog 19 #[.string (numStr A), .string (numStr B)] w fun e w' => e = .returned (.string (numStr (A + B))) ∧ Below w.heap.size w w' :=
  (refadd_str _ _ A B w (numStr_dec hA0) (numStr_dec hB0) hA hB).mono fun _ _ ⟨⟨_, h1, h2⟩, h3⟩ => ⟨by rw [h1, h2.eq], h3⟩
theorem refmul_fun (A B : Int) (w : World) (hA0 : 0 ≤ A) (hB0 : 0 ≤ B) (hA : A < pw 16) (hB : B < pw 16) :
    Calls Tryd.prog 20 #[.string (numStr A), .string (numStr B)] w fun e w' => e = .returned (.string (numStr (A * B))) ∧ Below w.heap.size w w' :=
  (refmul_str _ _ A B w (numStr_dec hA0) (numStr_dec hB0) hA0 hA hB).mono fun _ _ ⟨⟨_, h1, h2⟩, h3⟩ => ⟨by rw [h1, h2.eq], h3⟩
theorem power_fun (n : Nat) (w : World) (hn : n ≤ 2000) :
    Calls Tryd.prog 25 #[.int .i64 (n : Int)] w fun e w' => e = .returned (.string (numStr (2 ^ n))) ∧ Below w.heap.size w w' :=
  (power_any n w hn).mono fun _ _ ⟨⟨_, h1, h2⟩, h3⟩ => ⟨by rw [h1, h2.eq], h3⟩
theorem over_fun (A : Int) (w : World) (hA0 : 0 ≤ A) (hA : A < big) :
    Calls Tryd.prog 38 #[.string (numStr A)] w fun e w' => e = .returned (.bool (decide (pw 16 ≤ A))) ∧ Below w.heap.size w w' :=
  over_dec _ A w (numStr_dec hA0) hA
theorem small_fun (A by_ c0 N : Int) (w : World) (h : 0 ≤ A) (hA : A < big) (b0 : 0 ≤ by_) (b1 : by_ ≤ 1099511627776) (m0 : 0 ≤ c0) (m1 : c0 ≤ 1099511627776) (hN : c0 + by_ * A = N) :
    Calls Tryd.prog 30 #[.string (numStr A), .int .i64 by_, .int .i64 c0] w fun e w' => e = .returned (.string (numStr N)) ∧ Below w.heap.size w w' :=
  (small_str _ A by_ c0 N w (numStr_dec h) hA b0 b1 m0 m1 hN).mono fun _ _ ⟨⟨_, h1, h2⟩, h3⟩ => ⟨by rw [h1, h2.eq], h3⟩
end Go.Proofs.YtondjnmpfpfpmaaDoor
