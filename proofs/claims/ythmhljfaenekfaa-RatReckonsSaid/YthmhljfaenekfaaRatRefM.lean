/- The reference's Mul, Quo. -/
import Derived.Test.YthmhljfaenekfaaRatRed
namespace Go.Proofs.Ythmhljfaenekfaa
open Go.RowKit NM

/-- A fraction, reduced by the reference. -/
def redV (neg : Bool) (N D : Nat) (bad : Bool) : Value := fracV (neg && decide (N ≠ 0)) (N / Nat.gcd N D) (D / Nat.gcd N D) (redBad N D bad)
theorem far_mul {A B : Nat} (hA : (A : Int) < pw 16) (hB : (B : Int) < pw 16) : Far (A * B) := by
  have h1 : (A : Int) * B ≤ pw 16 * pw 16 := Int.mul_le_mul (by omega) (by omega) (by omega) (by omega)
  have h2 : 10 * (pw 16 * pw 16) < big := by unfold big; decide +kernel
  show 10 * ((A * B : Nat) : Int) < big
  rw [Int.natCast_mul]
  omega
theorem refmul_nat {A B : Nat} (hA : (A : Int) < pw 16) (hB : (B : Int) < pw 16) (w : World) :
    Calls Try.prog 33 #[.string (numStr A), .string (numStr B)] w fun e w' => e = .returned (.string (numStr ((A * B : Nat) : Int))) ∧ Below w.heap.size w w' :=
  refmul_fun (A : Int) (B : Int) w (by omega) (by omega) hA hB

set_option maxHeartbeats 3200000 in
set_option maxRecDepth 100000 in
theorem refM_fun (na nb ba bb : Bool) (N1 D1 N2 D2 : Nat) (w : World) (h1 : (N1 : Int) < pw 16) (h2 : (D1 : Int) < pw 16) (h3 : (N2 : Int) < pw 16) (h4 : (D2 : Int) < pw 16) (hD : 0 < D1 * D2) :
    Calls Try.prog 27 #[fracV na N1 D1 ba, fracV nb N2 D2 bb] w fun e w' => e = .returned (redV (na != nb) (N1 * N2) (D1 * D2) false) ∧ Below w.heap.size w w' := by
  have M1 := Lib.hid (fun w => refmul_nat h1 h3 w)
  have M2 := Lib.hid (fun w => refmul_nat h2 h4 w)
  have HR := fun w => red_fun (na != nb) (N1 * N2) (D1 * D2) false w (far_mul h1 h3) (far_mul h2 h4) hD
  unfold redV
  unfold fracV at *
  have HR := Lib.hid HR
  obtain ⟨B, ha, hb, hr⟩ := three_any w #[.bool na, .string (numStr N1), .string (numStr D1), .bool ba] #[.bool nb, .string (numStr N2), .string (numStr D2), .bool bb] #[.bool false, .string ⟨#[]⟩, .string ⟨#[]⟩, .bool false] 37 37 37
  generalize redBad (N1 * N2) (D1 * D2) false = rb at *
  generalize ((na != nb) && decide (N1 * N2 ≠ 0)) = rn at *
  obtain ⟨r1, e1⟩ : ∃ s, numStr ((N1 * N2 / Nat.gcd (N1 * N2) (D1 * D2) : Nat) : Int) = s := ⟨_, rfl⟩
  obtain ⟨r2, e2⟩ : ∃ s, numStr ((D1 * D2 / Nat.gcd (N1 * N2) (D1 * D2) : Nat) : Int) = s := ⟨_, rfl⟩
  rw [e1, e2] at HR ⊢
  clear e1 e2 h1 h2 h3 h4 hD
  obtain ⟨m1, e1⟩ : ∃ s, numStr ((N1 * N2 : Nat) : Int) = s := ⟨_, rfl⟩
  obtain ⟨m2, e2⟩ : ∃ s, numStr ((D1 * D2 : Nat) : Int) = s := ⟨_, rfl⟩
  rw [e1] at HR M1
  rw [e2] at HR M2
  clear e1 e2
  generalize numStr (N1 : Int) = s1 at *
  generalize numStr (D1 : Int) = s2 at *
  generalize numStr (N2 : Int) = s3 at *
  generalize numStr (D2 : Int) = s4 at *
  have tok1 : True := trivial
  go_enter Try.func27, Try.ntmps27
  go_wp2_with fail
  generalize ((w.alloc (.cells #[.bool na, .string s1, .string s2, .bool ba] 37)).alloc (.cells #[.bool nb, .string s3, .string s4, .bool bb] 37)).alloc (.cells #[.bool false, .string ⟨#[]⟩, .string ⟨#[]⟩, .bool false] 37) = W at *
  have ha := ha.below ((Below.refl W.heap.size W).drew)
  have hb := hb.below ((Below.refl W.heap.size W).drew)
  have hr := hr.below ((Below.refl W.heap.size W).drew)
  have B := B.drew
  obtain ⟨p0, e0⟩ : ∃ p, w.heap.size = p := ⟨_, rfl⟩
  obtain ⟨p1, e1⟩ : ∃ p, p0 + 1 = p := ⟨_, rfl⟩
  obtain ⟨p2, e2⟩ : ∃ p, p1 + 1 = p := ⟨_, rfl⟩
  simp only [e0, e1, e2] at ha hb hr ⊢
  have n02 : ¬ p0 = p2 := by omega
  have n12 : ¬ p1 = p2 := by omega
  have n20 : ¬ p2 = p0 := by omega
  have n21 : ¬ p2 = p1 := by omega
  have l2 : w.heap.size ≤ p2 := by omega
  clear e0 e1 e2
  obtain ⟨c0, c1, c2, c3⟩ := block4 ha
  obtain ⟨d0, d1, d2, d3⟩ := block4 hb
  go_region_held3 (fun w' => w'.cell? ⟨p0, 0, none⟩ = some (.bool na) ∧ w'.cell? ⟨p0, 1, none⟩ = some (.string s1) ∧ w'.cell? ⟨p0, 2, none⟩ = some (.string s2) ∧
      w'.cell? ⟨p1, 0, none⟩ = some (.bool nb) ∧ w'.cell? ⟨p1, 1, none⟩ = some (.string s3) ∧ w'.cell? ⟨p1, 2, none⟩ = some (.string s4))
    (first | go_keep | (exact ⟨c0, c1, c2, d0, d1, d2⟩))
    (first | (go_at_call 33; have _t := tok1; clear _t tok1; have tok2 : True := trivial; refine (M1.out _).mono ?_; rintro e W5 ⟨rfl, bq⟩; have ha := ha.below bq; have hb := hb.below bq; have hr := hr.below bq; have B := B.trans (bq.mono B.size); clear bq c0 c1 c2 c3 d0 d1 d2 d3; obtain ⟨c0, c1, c2, c3⟩ := block4 ha; obtain ⟨d0, d1, d2, d3⟩ := block4 hb) | (go_at_call 33; have _t := tok2; refine (M2.out _).mono ?_; rintro e W6 ⟨rfl, bq⟩; have ha := ha.below bq; have hb := hb.below bq; have hr := hr.below bq; have B := B.trans (bq.mono B.size); clear bq c0 c1 c2 c3 d0 d1 d2 d3; obtain ⟨c0, c1, c2, c3⟩ := block4 ha; obtain ⟨d0, d1, d2, d3⟩ := block4 hb) | (go_at_call 19; refine (HR.out _).mono ?_; rintro e W7 ⟨rfl, bq⟩; have ha := ha.below bq; have hb := hb.below bq; have hr := hr.below bq; have B := B.trans (bq.mono B.size); clear bq c0 c1 c2 c3 d0 d1 d2 d3; obtain ⟨c0, c1, c2, c3⟩ := block4 ha; obtain ⟨d0, d1, d2, d3⟩ := block4 hb; have f0 := hr.free 0; have f1 := hr.free 1; have f2 := hr.free 2; have f4 := hr.free 3; obtain ⟨g0, g1, g2, g3⟩ := block4 hr))
  all_goals
    go_wp2_with fail
    refine bodyPost_ret (v := .agg #[.bool rn, .string r1, .string r2, .bool rb]) (by simp [results, Try.results27, go_sem, g0, g1, g2, g3]) rfl ⟨rfl, ?_⟩
    exact (((B.setCell l2 _).setCell l2 _).setCell l2 _).setCell l2 _
set_option maxHeartbeats 3200000 in
set_option maxRecDepth 100000 in
theorem refQ_fun (na nb ba bb : Bool) (N1 D1 N2 D2 : Nat) (w : World) (h1 : (N1 : Int) < pw 16) (h2 : (D1 : Int) < pw 16) (h3 : (N2 : Int) < pw 16) (h4 : (D2 : Int) < pw 16) (hD : 0 < D1 * N2) :
    Calls Try.prog 28 #[fracV na N1 D1 ba, fracV nb N2 D2 bb] w fun e w' => e = .returned (redV (na != nb) (N1 * D2) (D1 * N2) false) ∧ Below w.heap.size w w' := by
  have M1 := Lib.hid (fun w => refmul_nat h1 h4 w)
  have M2 := Lib.hid (fun w => refmul_nat h2 h3 w)
  have HR := fun w => red_fun (na != nb) (N1 * D2) (D1 * N2) false w (far_mul h1 h4) (far_mul h2 h3) hD
  unfold redV
  unfold fracV at *
  have HR := Lib.hid HR
  obtain ⟨B, ha, hb, hr⟩ := three_any w #[.bool na, .string (numStr N1), .string (numStr D1), .bool ba] #[.bool nb, .string (numStr N2), .string (numStr D2), .bool bb] #[.bool false, .string ⟨#[]⟩, .string ⟨#[]⟩, .bool false] 37 37 37
  generalize redBad (N1 * D2) (D1 * N2) false = rb at *
  generalize ((na != nb) && decide (N1 * D2 ≠ 0)) = rn at *
  obtain ⟨r1, e1⟩ : ∃ s, numStr ((N1 * D2 / Nat.gcd (N1 * D2) (D1 * N2) : Nat) : Int) = s := ⟨_, rfl⟩
  obtain ⟨r2, e2⟩ : ∃ s, numStr ((D1 * N2 / Nat.gcd (N1 * D2) (D1 * N2) : Nat) : Int) = s := ⟨_, rfl⟩
  rw [e1, e2] at HR ⊢
  clear e1 e2 h1 h2 h3 h4 hD
  obtain ⟨m1, e1⟩ : ∃ s, numStr ((N1 * D2 : Nat) : Int) = s := ⟨_, rfl⟩
  obtain ⟨m2, e2⟩ : ∃ s, numStr ((D1 * N2 : Nat) : Int) = s := ⟨_, rfl⟩
  rw [e1] at HR M1
  rw [e2] at HR M2
  clear e1 e2
  generalize numStr (N1 : Int) = s1 at *
  generalize numStr (D1 : Int) = s2 at *
  generalize numStr (N2 : Int) = s3 at *
  generalize numStr (D2 : Int) = s4 at *
  have tok1 : True := trivial
  go_enter Try.func28, Try.ntmps28
  go_wp2_with fail
  generalize ((w.alloc (.cells #[.bool na, .string s1, .string s2, .bool ba] 37)).alloc (.cells #[.bool nb, .string s3, .string s4, .bool bb] 37)).alloc (.cells #[.bool false, .string ⟨#[]⟩, .string ⟨#[]⟩, .bool false] 37) = W at *
  have ha := ha.below ((Below.refl W.heap.size W).drew)
  have hb := hb.below ((Below.refl W.heap.size W).drew)
  have hr := hr.below ((Below.refl W.heap.size W).drew)
  have B := B.drew
  obtain ⟨p0, e0⟩ : ∃ p, w.heap.size = p := ⟨_, rfl⟩
  obtain ⟨p1, e1⟩ : ∃ p, p0 + 1 = p := ⟨_, rfl⟩
  obtain ⟨p2, e2⟩ : ∃ p, p1 + 1 = p := ⟨_, rfl⟩
  simp only [e0, e1, e2] at ha hb hr ⊢
  have n02 : ¬ p0 = p2 := by omega
  have n12 : ¬ p1 = p2 := by omega
  have n20 : ¬ p2 = p0 := by omega
  have n21 : ¬ p2 = p1 := by omega
  have l2 : w.heap.size ≤ p2 := by omega
  clear e0 e1 e2
  obtain ⟨c0, c1, c2, c3⟩ := block4 ha
  obtain ⟨d0, d1, d2, d3⟩ := block4 hb
  go_region_held3 (fun w' => w'.cell? ⟨p0, 0, none⟩ = some (.bool na) ∧ w'.cell? ⟨p0, 1, none⟩ = some (.string s1) ∧ w'.cell? ⟨p0, 2, none⟩ = some (.string s2) ∧
      w'.cell? ⟨p1, 0, none⟩ = some (.bool nb) ∧ w'.cell? ⟨p1, 1, none⟩ = some (.string s3) ∧ w'.cell? ⟨p1, 2, none⟩ = some (.string s4))
    (first | go_keep | (exact ⟨c0, c1, c2, d0, d1, d2⟩))
    (first | (go_at_call 33; have _t := tok1; clear _t tok1; have tok2 : True := trivial; refine (M1.out _).mono ?_; rintro e W5 ⟨rfl, bq⟩; have ha := ha.below bq; have hb := hb.below bq; have hr := hr.below bq; have B := B.trans (bq.mono B.size); clear bq c0 c1 c2 c3 d0 d1 d2 d3; obtain ⟨c0, c1, c2, c3⟩ := block4 ha; obtain ⟨d0, d1, d2, d3⟩ := block4 hb) | (go_at_call 33; have _t := tok2; refine (M2.out _).mono ?_; rintro e W6 ⟨rfl, bq⟩; have ha := ha.below bq; have hb := hb.below bq; have hr := hr.below bq; have B := B.trans (bq.mono B.size); clear bq c0 c1 c2 c3 d0 d1 d2 d3; obtain ⟨c0, c1, c2, c3⟩ := block4 ha; obtain ⟨d0, d1, d2, d3⟩ := block4 hb) | (go_at_call 19; refine (HR.out _).mono ?_; rintro e W7 ⟨rfl, bq⟩; have ha := ha.below bq; have hb := hb.below bq; have hr := hr.below bq; have B := B.trans (bq.mono B.size); clear bq c0 c1 c2 c3 d0 d1 d2 d3; obtain ⟨c0, c1, c2, c3⟩ := block4 ha; obtain ⟨d0, d1, d2, d3⟩ := block4 hb; have f0 := hr.free 0; have f1 := hr.free 1; have f2 := hr.free 2; have f4 := hr.free 3; obtain ⟨g0, g1, g2, g3⟩ := block4 hr))
  all_goals
    go_wp2_with fail
    refine bodyPost_ret (v := .agg #[.bool rn, .string r1, .string r2, .bool rb]) (by simp [results, Try.results28, go_sem, g0, g1, g2, g3]) rfl ⟨rfl, ?_⟩
    exact (((B.setCell l2 _).setCell l2 _).setCell l2 _).setCell l2 _
end Go.Proofs.Ythmhljfaenekfaa
