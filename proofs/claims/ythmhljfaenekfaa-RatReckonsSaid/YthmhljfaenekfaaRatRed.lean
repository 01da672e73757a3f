/- The reference's Reduced. -/
import Derived.Test.YthmhljfaenekfaaRatRefF
import Derived.Deep.RegionHeld3
import Derived.Deep.DeepCutAuto
namespace Go.Proofs.Ythmhljfaenekfaa
open Go.RowKit NM

theorem two_start' (w : World) (A B : Array Value) (t t2 : TypeId) :
    Below w.heap.size w ((w.alloc (.cells A t)).alloc (.cells B t2)) ∧ BlockAt ((w.alloc (.cells A t)).alloc (.cells B t2)) w.heap.size A t ∧ BlockAt ((w.alloc (.cells A t)).alloc (.cells B t2)) (w.heap.size + 1) B t2 := by
  have s1 := BlockAt.new w A t
  have b1 : Below w.heap.size w (w.alloc (.cells A t)) := (Below.refl _ _).alloc (Nat.le_refl _) _
  have e1 : (w.alloc (.cells A t)).heap.size = w.heap.size + 1 := by simp
  generalize w.alloc (.cells A t) = w1 at *
  have s2 := BlockAt.new w1 B t2
  have b2 : Below w1.heap.size w1 (w1.alloc (.cells B t2)) := (Below.refl _ _).alloc (Nat.le_refl _) _
  rw [e1] at s2
  exact ⟨b1.trans (b2.mono b1.size), s1.below b2, s2⟩
/-- 2^512 or more. -/
def overB (N : Nat) : Bool := decide (pw 16 ≤ (N : Int))
theorem over_nat {N : Nat} (h : Far N) (w : World) :
    Calls Try.prog 34 #[.string (numStr N)] w fun e w' => e = .returned (.bool (overB N)) ∧ Below w.heap.size w w' :=
  over_fun (N : Int) w (by omega) h.lt
def redBad (N D : Nat) (bad : Bool) : Bool := bad || (overB N || overB D)

set_option maxHeartbeats 3200000 in
set_option maxRecDepth 100000 in
theorem red_fun (neg : Bool) (N D : Nat) (bad : Bool) (w : World) (hN : Far N) (hD : Far D) (hD0 : 0 < D) :
    Calls Try.prog 19 #[fracV neg N D bad] w fun e w' => e = .returned (fracV (neg && decide (N ≠ 0)) (N / Nat.gcd N D) (D / Nat.gcd N D) (redBad N D bad)) ∧ Below w.heap.size w w' := by
  have O1 := Lib.hid (fun w => over_nat hN w)
  have O2 := Lib.hid (fun w => over_nat hD w)
  have HC := Lib.hid (fun w => common_fun N D w hN hD)
  have hg : 0 < Nat.gcd N D := Nat.gcd_pos_of_pos_right _ hD0
  have hgf : Far (Nat.gcd N D) := by
    have := Nat.gcd_le_right N hD0
    unfold Far at *
    omega
  have D1 := Lib.hid (fun w => refdiv2_fun (N : Int) (Nat.gcd N D : Nat) w (by omega) hN.lt (by omega) hgf)
  have D2 := Lib.hid (fun w => refdiv2_fun (D : Int) (Nat.gcd N D : Nat) w (by omega) hD.lt (by omega) hgf)
  have HNz := Lib.hid (show N = 0 → numStr N = ⟨#[48]⟩ from fun h => by rw [h]; exact numStr_zero)
  have HNn := Lib.hid (show N ≠ 0 → numStr N ≠ ⟨#[48]⟩ from fun h h2 => by
    have := numStr_inj (A := N) (B := 0) (by omega) (by omega) (by rw [h2, numStr_zero])
    omega)
  have HZ := Lib.hid (show N = 0 → numStr ((N / Nat.gcd N D : Nat) : Int) = ⟨#[48]⟩ ∧ numStr ((D / Nat.gcd N D : Nat) : Int) = ⟨#[49]⟩ from fun h => by
    subst h
    rw [Nat.gcd_zero_left, Nat.zero_div, Nat.div_self hD0]
    exact ⟨numStr_zero, numStr_one⟩)
  obtain ⟨B, ha, hr⟩ := two_start' w #[.bool neg, .string (numStr N), .string (numStr D), .bool bad] #[.bool false, .string ⟨#[]⟩, .string ⟨#[]⟩, .bool false] 37 37
  unfold fracV
  rw [show ((N : Int) / (Nat.gcd N D : Nat)) = ((N / Nat.gcd N D : Nat) : Int) from rfl] at D1
  rw [show ((D : Int) / (Nat.gcd N D : Nat)) = ((D / Nat.gcd N D : Nat) : Int) from rfl] at D2
  clear hg hgf hN hD hD0
  obtain ⟨sn, e1⟩ : ∃ s, numStr (N : Int) = s := ⟨_, rfl⟩
  obtain ⟨sd, e2⟩ : ∃ s, numStr (D : Int) = s := ⟨_, rfl⟩
  obtain ⟨qn, e3⟩ : ∃ s, numStr ((N / Nat.gcd N D : Nat) : Int) = s := ⟨_, rfl⟩
  obtain ⟨qd, e4⟩ : ∃ s, numStr ((D / Nat.gcd N D : Nat) : Int) = s := ⟨_, rfl⟩
  obtain ⟨sg_, e5⟩ : ∃ s, numStr ((Nat.gcd N D : Nat) : Int) = s := ⟨_, rfl⟩
  simp only [e1, e2, e3, e4, e5] at O1 O2 HC D1 D2 HNz HNn HZ ha hr B ⊢
  clear e1 e2 e3 e4 e5
  obtain ⟨bd, hbd⟩ : ∃ b, redBad N D bad = b := ⟨_, rfl⟩
  rw [hbd]
  unfold redBad at hbd
  obtain ⟨o1, ho1⟩ : ∃ b, overB N = b := ⟨_, rfl⟩
  obtain ⟨o2, ho2⟩ : ∃ b, overB D = b := ⟨_, rfl⟩
  simp only [ho1, ho2] at O1 O2 hbd
  clear ho1 ho2
  have hw : (o1 = false ∧ o2 = false ∧ bd = bad) ∨ (o1 = false ∧ o2 = true ∧ bd = true) ∨ (o1 = true ∧ bd = true) := by
    rw [← hbd]
    cases o1 <;> cases o2 <;> simp
  clear hbd
  by_cases hN0 : N = 0
  · obtain ⟨hq1, hq2⟩ := HZ.out hN0
    have hq0 := HNz.out hN0
    subst hq1 hq2 hq0
    have Hng := Lib.hid (show (neg && decide (N ≠ 0)) = false by simp [hN0])
    clear hN0 HNz HNn HZ HC D1 D2
    rcases hw with ⟨rfl, rfl, hbd2⟩ | ⟨rfl, rfl, hbd2⟩ | ⟨rfl, hbd2⟩
    · have Hbd := Lib.hid hbd2
      clear hbd2
      go_enter Try.func19, Try.ntmps19
      go_wp2_with fail
      generalize (w.alloc (.cells #[.bool neg, .string ⟨#[48]⟩, .string sd, .bool bad] 37)).alloc (.cells #[.bool false, .string ⟨#[]⟩, .string ⟨#[]⟩, .bool false] 37) = W at *
      obtain ⟨c0, c1, c2, c3⟩ := block4 ha
      refine (O1.out W).mono ?_
      rintro e W2 ⟨rfl, bq⟩
      have ha := ha.below bq
      have hr := hr.below bq
      have B := B.trans (bq.mono B.size)
      clear bq c0 c1 c2 c3
      obtain ⟨c0, c1, c2, c3⟩ := block4 ha
      go_wp2_with fail
      refine (O2.out W2).mono ?_
      rintro e W3 ⟨rfl, bq⟩
      have ha := ha.below bq
      have hr := hr.below bq
      have B := B.trans (bq.mono B.size)
      clear bq c0 c1 c2 c3
      obtain ⟨c0, c1, c2, c3⟩ := block4 ha
      have tok1 : True := trivial
      have f0 := hr.free 0
      have f1 := hr.free 1
      have f2 := hr.free 2
      have f4 := hr.free 3
      obtain ⟨g0, g1, g2, g3⟩ := block4 hr
      go_wp2_with fail
      refine bodyPost_ret (v := .agg #[.bool false, .string ⟨#[48]⟩, .string ⟨#[49]⟩, .bool bad]) (by simp [results, Try.results19, go_sem, g0, g1, g2, g3]) rfl ⟨by rw [Hbd.out, Hng.out], ?_⟩
      exact (((B.setCell (by simp) _).setCell (by simp) _).setCell (by simp) _).setCell (by simp) _
    · have Hbd := Lib.hid hbd2
      clear hbd2
      go_enter Try.func19, Try.ntmps19
      go_wp2_with fail
      generalize (w.alloc (.cells #[.bool neg, .string ⟨#[48]⟩, .string sd, .bool bad] 37)).alloc (.cells #[.bool false, .string ⟨#[]⟩, .string ⟨#[]⟩, .bool false] 37) = W at *
      obtain ⟨c0, c1, c2, c3⟩ := block4 ha
      refine (O1.out W).mono ?_
      rintro e W2 ⟨rfl, bq⟩
      have ha := ha.below bq
      have hr := hr.below bq
      have B := B.trans (bq.mono B.size)
      clear bq c0 c1 c2 c3
      obtain ⟨c0, c1, c2, c3⟩ := block4 ha
      go_wp2_with fail
      refine (O2.out W2).mono ?_
      rintro e W3 ⟨rfl, bq⟩
      have ha := ha.below bq
      have hr := hr.below bq
      have B := B.trans (bq.mono B.size)
      clear bq c0 c1 c2 c3
      obtain ⟨c0, c1, c2, c3⟩ := block4 ha
      have f3 := ha.free 3
      have lw := ha.lt
      have Ha := Lib.hid (ha.set 3 (.bool true))
      have Hr := Lib.hid (hr.other (show w.heap.size + 1 ≠ w.heap.size by omega) 3 (.bool true))
      have HB := Lib.hid (B.setCell (p := ⟨w.heap.size, 3, none⟩) (Nat.le_refl _) (.bool true))
      clear hr B
      have tok1 : True := trivial
      have lr := Hr.out.lt
      have f0 := Hr.out.free 0
      have f1 := Hr.out.free 1
      have f2 := Hr.out.free 2
      have f4 := Hr.out.free 3
      obtain ⟨g0, g1, g2, g3⟩ := block4 Hr.out
      go_wp2_with fail
      refine bodyPost_ret (v := .agg #[.bool false, .string ⟨#[48]⟩, .string ⟨#[49]⟩, .bool true]) (by simp [results, Try.results19, go_sem, g0, g1, g2, g3]) rfl ⟨by rw [Hbd.out, Hng.out], ?_⟩
      exact (((HB.out.setCell (by simp) _).setCell (by simp) _).setCell (by simp) _).setCell (by simp) _
    · have Hbd := Lib.hid hbd2
      clear hbd2
      go_enter Try.func19, Try.ntmps19
      go_wp2_with fail
      generalize (w.alloc (.cells #[.bool neg, .string ⟨#[48]⟩, .string sd, .bool bad] 37)).alloc (.cells #[.bool false, .string ⟨#[]⟩, .string ⟨#[]⟩, .bool false] 37) = W at *
      obtain ⟨c0, c1, c2, c3⟩ := block4 ha
      refine (O1.out W).mono ?_
      rintro e W2 ⟨rfl, bq⟩
      have ha := ha.below bq
      have hr := hr.below bq
      have B := B.trans (bq.mono B.size)
      clear bq c0 c1 c2 c3
      obtain ⟨c0, c1, c2, c3⟩ := block4 ha
      have f3 := ha.free 3
      have lw := ha.lt
      have Ha := Lib.hid (ha.set 3 (.bool true))
      have Hr := Lib.hid (hr.other (show w.heap.size + 1 ≠ w.heap.size by omega) 3 (.bool true))
      have HB := Lib.hid (B.setCell (p := ⟨w.heap.size, 3, none⟩) (Nat.le_refl _) (.bool true))
      clear hr B
      have tok1 : True := trivial
      have lr := Hr.out.lt
      have f0 := Hr.out.free 0
      have f1 := Hr.out.free 1
      have f2 := Hr.out.free 2
      have f4 := Hr.out.free 3
      obtain ⟨g0, g1, g2, g3⟩ := block4 Hr.out
      go_wp2_with fail
      refine bodyPost_ret (v := .agg #[.bool false, .string ⟨#[48]⟩, .string ⟨#[49]⟩, .bool true]) (by simp [results, Try.results19, go_sem, g0, g1, g2, g3]) rfl ⟨by rw [Hbd.out, Hng.out], ?_⟩
      exact (((HB.out.setCell (by simp) _).setCell (by simp) _).setCell (by simp) _).setCell (by simp) _
  · have hl := list_ne48 (HNn.out hN0)
    have hl2 : (sn.toList != [48]) = true := by rw [bne, hl]; rfl
    have fQ := fieldQ
    have Hng := Lib.hid (show (neg && decide (N ≠ 0)) = neg by simp [hN0])
    clear hN0 HNz HNn HZ
    rcases hw with ⟨rfl, rfl, hbd2⟩ | ⟨rfl, rfl, hbd2⟩ | ⟨rfl, hbd2⟩
    · have Hbd := Lib.hid hbd2
      clear hbd2
      go_enter Try.func19, Try.ntmps19
      go_wp2_with fail
      generalize (w.alloc (.cells #[.bool neg, .string sn, .string sd, .bool bad] 37)).alloc (.cells #[.bool false, .string ⟨#[]⟩, .string ⟨#[]⟩, .bool false] 37) = W at *
      obtain ⟨c0, c1, c2, c3⟩ := block4 ha
      refine (O1.out W).mono ?_
      rintro e W2 ⟨rfl, bq⟩
      have ha := ha.below bq
      have hr := hr.below bq
      have B := B.trans (bq.mono B.size)
      clear bq c0 c1 c2 c3
      obtain ⟨c0, c1, c2, c3⟩ := block4 ha
      go_wp2_with fail
      refine (O2.out W2).mono ?_
      rintro e W3 ⟨rfl, bq⟩
      have ha := ha.below bq
      have hr := hr.below bq
      have B := B.trans (bq.mono B.size)
      clear bq c0 c1 c2 c3
      obtain ⟨c0, c1, c2, c3⟩ := block4 ha
      have tok1 : True := trivial
      go_wp2_with fail
      refine (HC.out _).mono ?_
      rintro e W4 ⟨rfl, bq⟩
      have ha := ha.below bq
      have hr := hr.below bq
      have B := B.trans (bq.mono B.size)
      clear bq c0 c1 c2 c3
      obtain ⟨c0, c1, c2, c3⟩ := block4 ha
      have ha := ha.below ((Below.refl _ _).drew)
      have hr := hr.below ((Below.refl _ _).drew)
      have B := B.drew
      clear c0 c1 c2 c3
      obtain ⟨c0, c1, c2, c3⟩ := block4 ha
      go_wp2_with fail
      go_region_held3 (fun w' => w'.cell? ⟨w.heap.size, 0, none⟩ = some (.bool neg) ∧ w'.cell? ⟨w.heap.size, 1, none⟩ = some (.string sn) ∧ w'.cell? ⟨w.heap.size, 2, none⟩ = some (.string sd) ∧ w'.cell? ⟨w.heap.size, 3, none⟩ = some (.bool bad))
        (first | go_keep | (exact ⟨ha.cell 0, ha.cell 1, ha.cell 2, ha.cell 3⟩))
        (first | (go_at_call 32; have _t := tok1; clear _t tok1; have tok2 : True := trivial; refine (D1.out _).mono ?_; rintro e W5 ⟨rfl, bq⟩; have ha := ha.below bq; have hr := hr.below bq; have B := B.trans (bq.mono B.size); clear bq) | (go_at_call 32; have _t := tok2; refine (D2.out _).mono ?_; rintro e W6 ⟨rfl, bq⟩; have ha := ha.below bq; have hr := hr.below bq; have B := B.trans (bq.mono B.size); clear bq; have f0 := hr.free 0; have f1 := hr.free 1; have f2 := hr.free 2; have f4 := hr.free 3; obtain ⟨g0, g1, g2, g3⟩ := block4 hr))
      all_goals
        go_wp2_with fail
        refine bodyPost_ret (v := .agg #[.bool neg, .string qn, .string qd, .bool bad]) (by simp [results, Try.results19, go_sem, g0, g1, g2, g3]) rfl ⟨by rw [Hbd.out, Hng.out], ?_⟩
        exact (((B.setCell (by simp) _).setCell (by simp) _).setCell (by simp) _).setCell (by simp) _
    · have Hbd := Lib.hid hbd2
      clear hbd2
      go_enter Try.func19, Try.ntmps19
      go_wp2_with fail
      generalize (w.alloc (.cells #[.bool neg, .string sn, .string sd, .bool bad] 37)).alloc (.cells #[.bool false, .string ⟨#[]⟩, .string ⟨#[]⟩, .bool false] 37) = W at *
      obtain ⟨c0, c1, c2, c3⟩ := block4 ha
      refine (O1.out W).mono ?_
      rintro e W2 ⟨rfl, bq⟩
      have ha := ha.below bq
      have hr := hr.below bq
      have B := B.trans (bq.mono B.size)
      clear bq c0 c1 c2 c3
      obtain ⟨c0, c1, c2, c3⟩ := block4 ha
      go_wp2_with fail
      refine (O2.out W2).mono ?_
      rintro e W3 ⟨rfl, bq⟩
      have ha := ha.below bq
      have hr := hr.below bq
      have B := B.trans (bq.mono B.size)
      clear bq c0 c1 c2 c3
      obtain ⟨c0, c1, c2, c3⟩ := block4 ha
      have f3 := ha.free 3
      have lw := ha.lt
      have Ha := Lib.hid (ha.set 3 (.bool true))
      have Hr := Lib.hid (hr.other (show w.heap.size + 1 ≠ w.heap.size by omega) 3 (.bool true))
      have HB := Lib.hid (B.setCell (p := ⟨w.heap.size, 3, none⟩) (Nat.le_refl _) (.bool true))
      clear hr B
      have tok1 : True := trivial
      go_wp2_with fail
      refine (HC.out _).mono ?_
      rintro e W4 ⟨rfl, bq⟩
      have ha : BlockAt W4 w.heap.size #[.bool neg, .string sn, .string sd, .bool true] 37 := Ha.out.below bq
      have hr := Hr.out.below bq
      have B := HB.out.trans (bq.mono HB.out.size)
      clear bq c0 c1 c2 c3 f3 Ha Hr HB
      obtain ⟨c0, c1, c2, c3⟩ := block4 ha
      have ha := ha.below ((Below.refl _ _).drew)
      have hr := hr.below ((Below.refl _ _).drew)
      have B := B.drew
      clear c0 c1 c2 c3
      obtain ⟨c0, c1, c2, c3⟩ := block4 ha
      go_wp2_with fail
      go_region_held3 (fun w' => w'.cell? ⟨w.heap.size, 0, none⟩ = some (.bool neg) ∧ w'.cell? ⟨w.heap.size, 1, none⟩ = some (.string sn) ∧ w'.cell? ⟨w.heap.size, 2, none⟩ = some (.string sd) ∧ w'.cell? ⟨w.heap.size, 3, none⟩ = some (.bool true))
        (first | go_keep | (exact ⟨ha.cell 0, ha.cell 1, ha.cell 2, ha.cell 3⟩))
        (first | (go_at_call 32; have _t := tok1; clear _t tok1; have tok2 : True := trivial; refine (D1.out _).mono ?_; rintro e W5 ⟨rfl, bq⟩; have ha := ha.below bq; have hr := hr.below bq; have B := B.trans (bq.mono B.size); clear bq) | (go_at_call 32; have _t := tok2; refine (D2.out _).mono ?_; rintro e W6 ⟨rfl, bq⟩; have ha := ha.below bq; have hr := hr.below bq; have B := B.trans (bq.mono B.size); clear bq; have f0 := hr.free 0; have f1 := hr.free 1; have f2 := hr.free 2; have f4 := hr.free 3; obtain ⟨g0, g1, g2, g3⟩ := block4 hr))
      all_goals
        go_wp2_with fail
        refine bodyPost_ret (v := .agg #[.bool neg, .string qn, .string qd, .bool true]) (by simp [results, Try.results19, go_sem, g0, g1, g2, g3]) rfl ⟨by rw [Hbd.out, Hng.out], ?_⟩
        exact (((B.setCell (by simp) _).setCell (by simp) _).setCell (by simp) _).setCell (by simp) _
    · have Hbd := Lib.hid hbd2
      clear hbd2
      go_enter Try.func19, Try.ntmps19
      go_wp2_with fail
      generalize (w.alloc (.cells #[.bool neg, .string sn, .string sd, .bool bad] 37)).alloc (.cells #[.bool false, .string ⟨#[]⟩, .string ⟨#[]⟩, .bool false] 37) = W at *
      obtain ⟨c0, c1, c2, c3⟩ := block4 ha
      refine (O1.out W).mono ?_
      rintro e W2 ⟨rfl, bq⟩
      have ha := ha.below bq
      have hr := hr.below bq
      have B := B.trans (bq.mono B.size)
      clear bq c0 c1 c2 c3
      obtain ⟨c0, c1, c2, c3⟩ := block4 ha
      have f3 := ha.free 3
      have lw := ha.lt
      have Ha := Lib.hid (ha.set 3 (.bool true))
      have Hr := Lib.hid (hr.other (show w.heap.size + 1 ≠ w.heap.size by omega) 3 (.bool true))
      have HB := Lib.hid (B.setCell (p := ⟨w.heap.size, 3, none⟩) (Nat.le_refl _) (.bool true))
      clear hr B
      have tok1 : True := trivial
      go_wp2_with fail
      refine (HC.out _).mono ?_
      rintro e W4 ⟨rfl, bq⟩
      have ha : BlockAt W4 w.heap.size #[.bool neg, .string sn, .string sd, .bool true] 37 := Ha.out.below bq
      have hr := Hr.out.below bq
      have B := HB.out.trans (bq.mono HB.out.size)
      clear bq c0 c1 c2 c3 f3 Ha Hr HB
      obtain ⟨c0, c1, c2, c3⟩ := block4 ha
      have ha := ha.below ((Below.refl _ _).drew)
      have hr := hr.below ((Below.refl _ _).drew)
      have B := B.drew
      clear c0 c1 c2 c3
      obtain ⟨c0, c1, c2, c3⟩ := block4 ha
      go_wp2_with fail
      go_region_held3 (fun w' => w'.cell? ⟨w.heap.size, 0, none⟩ = some (.bool neg) ∧ w'.cell? ⟨w.heap.size, 1, none⟩ = some (.string sn) ∧ w'.cell? ⟨w.heap.size, 2, none⟩ = some (.string sd) ∧ w'.cell? ⟨w.heap.size, 3, none⟩ = some (.bool true))
        (first | go_keep | (exact ⟨ha.cell 0, ha.cell 1, ha.cell 2, ha.cell 3⟩))
        (first | (go_at_call 32; have _t := tok1; clear _t tok1; have tok2 : True := trivial; refine (D1.out _).mono ?_; rintro e W5 ⟨rfl, bq⟩; have ha := ha.below bq; have hr := hr.below bq; have B := B.trans (bq.mono B.size); clear bq) | (go_at_call 32; have _t := tok2; refine (D2.out _).mono ?_; rintro e W6 ⟨rfl, bq⟩; have ha := ha.below bq; have hr := hr.below bq; have B := B.trans (bq.mono B.size); clear bq; have f0 := hr.free 0; have f1 := hr.free 1; have f2 := hr.free 2; have f4 := hr.free 3; obtain ⟨g0, g1, g2, g3⟩ := block4 hr))
      all_goals
        go_wp2_with fail
        refine bodyPost_ret (v := .agg #[.bool neg, .string qn, .string qd, .bool true]) (by simp [results, Try.results19, go_sem, g0, g1, g2, g3]) rfl ⟨by rw [Hbd.out, Hng.out], ?_⟩
        exact (((B.setCell (by simp) _).setCell (by simp) _).setCell (by simp) _).setCell (by simp) _
end Go.Proofs.Ythmhljfaenekfaa
