/- The law RoundValues. -/
import Derived.Test.YtlkadnaoacoicaaDoorRoundVals
import Derived.Deep.RegionHeld3
namespace Go.Proofs.YtlkadnaoacoicaaDoor
open Go.RowKit NM

set_option maxHeartbeats 16000000 in
set_option maxRecDepth 100000 in
theorem values_none (b : Nat) (sz : Int) (w : World) (hs : (Lit.int .i64 sz).wf = true) (h32 : sz ≠ 32) (h64 : sz ≠ 64) :
    Calls Tryd.prog 3 #[.int .u64 b, .int .i64 sz] w fun e w' => e = .returned (.bool true) ∧ Below w.heap.size w w' := by
  have k32 : (sz == 32) = false := by rw [beq_eq_false_iff_ne]; exact h32
  have k64 : (sz == 64) = false := by rw [beq_eq_false_iff_ne]; exact h64
  go_enter Tryd.func3, Tryd.ntmps3
  go_wp2_with fail
  refine (value_none b sz w hs h32 h64).mono ?_
  rintro e W2 ⟨rfl, bq⟩
  have b4 : Below W2.heap.size W2 (W2.alloc (.cells #[.bool false, .slice none 0 0, .slice none 0 0] 26)) := (Below.refl _ _).alloc (Nat.le_refl _) _
  have hn := BlockAt.new W2 #[.bool false, .slice none 0 0, .slice none 0 0] 26
  have B := bq.trans (b4.mono bq.size)
  clear bq b4
  go_wp2_with fail
  refine (alive3 _).mono ?_
  rintro e W9 ⟨rfl, bq⟩
  have hn := hn.below bq
  have B := B.trans (bq.mono B.size)
  clear bq
  obtain ⟨p0, p1, p2⟩ := block3 hn
  have pl := hn.lt
  go_wp2_with fail
  refine (same_none _).mono ?_
  rintro e W10 ⟨rfl, bq⟩
  have B := B.trans (bq.mono B.size)
  clear bq p0 p1 p2 pl
  go_wp2_with fail
  go_ret
  exact ⟨rfl, B⟩
set_option maxHeartbeats 16000000 in
set_option maxRecDepth 100000 in
theorem values32_high (b : Nat) (w : World) (hb : b < 18446744073709551616) (h : 4294967296 ≤ b) :
    Calls Tryd.prog 3 #[.int .u64 b, .int .i64 32] w fun e w' => e = .returned (.bool true) ∧ Below w.heap.size w w' := by
  have HV := Lib.hid (value32_high b w hb h)
  obtain ⟨q, hq⟩ : ∃ q : Int, (b : Int) / 4294967296 = q := ⟨_, rfl⟩
  have hq0 : (q == 0) = false := by rw [beq_eq_false_iff_ne]; omega
  have hq1 : (q != 0) = true := by rw [bne, hq0]; rfl
  go_enter Tryd.func3, Tryd.ntmps3
  go_wp2_with fail
  refine HV.out.mono ?_
  rintro e W2 ⟨rfl, bq⟩
  clear HV
  have b4 : Below W2.heap.size W2 (W2.alloc (.cells #[.bool false, .slice none 0 0, .slice none 0 0] 26)) := (Below.refl _ _).alloc (Nat.le_refl _) _
  have hn := BlockAt.new W2 #[.bool false, .slice none 0 0, .slice none 0 0] 26
  have B := bq.trans (b4.mono bq.size)
  clear bq b4
  go_wp2_with fail
  refine (alive3 _).mono ?_
  rintro e W9 ⟨rfl, bq⟩
  have hn := hn.below bq
  have B := B.trans (bq.mono B.size)
  clear bq
  obtain ⟨p0, p1, p2⟩ := block3 hn
  have pl := hn.lt
  go_wp2_with fail
  refine (same_none _).mono ?_
  rintro e W10 ⟨rfl, bq⟩
  have B := B.trans (bq.mono B.size)
  clear bq p0 p1 p2 pl
  go_wp2_with fail
  go_ret
  exact ⟨rfl, B⟩
set_option maxHeartbeats 16000000 in
set_option maxRecDepth 100000 in
theorem values32_sign (w : World) :
    Calls Tryd.prog 3 #[.int .u64 2147483648, .int .i64 32] w fun e w' => e = .returned (.bool true) ∧ Below w.heap.size w w' := by
  go_enter Tryd.func3, Tryd.ntmps3
  go_wp2_with fail
  refine (value32_sign w).mono ?_
  rintro e W2 ⟨rfl, bq⟩
  have b4 : Below W2.heap.size W2 (W2.alloc (.cells #[.bool false, .slice none 0 0, .slice none 0 0] 26)) := (Below.refl _ _).alloc (Nat.le_refl _) _
  have hn := BlockAt.new W2 #[.bool false, .slice none 0 0, .slice none 0 0] 26
  have B := bq.trans (b4.mono bq.size)
  clear bq b4
  go_wp2_with fail
  refine (high32 _).mono ?_
  rintro e W3 ⟨rfl, rfl⟩
  go_wp2_with fail
  refine (alive3 _).mono ?_
  rintro e W9 ⟨rfl, bq⟩
  have hn := hn.below bq
  have B := B.trans (bq.mono B.size)
  clear bq
  obtain ⟨p0, p1, p2⟩ := block3 hn
  have pl := hn.lt
  go_wp2_with fail
  refine (same_none _).mono ?_
  rintro e W10 ⟨rfl, bq⟩
  have B := B.trans (bq.mono B.size)
  clear bq p0 p1 p2 pl
  go_wp2_with fail
  go_ret
  exact ⟨rfl, B⟩
set_option maxHeartbeats 16000000 in
set_option maxRecDepth 100000 in
theorem values32_none (b : Nat) (w : World) (hb : b < 4294967296) (h : b ≠ 2147483648) (hE : 255 ≤ b % 2147483648 / 8388608) :
    Calls Tryd.prog 3 #[.int .u64 b, .int .i64 32] w fun e w' => e = .returned (.bool true) ∧ Below w.heap.size w w' := by
  have HV := Lib.hid (value32_none b w hb h hE)
  have ha := sign31 b hb
  have hm := mag31 b hb
  have hmb : b % 2147483648 < 2147483648 := Nat.mod_lt _ (by decide)
  generalize hrr : b % 2147483648 = r at *
  have hq : ((b : Int) == 2147483648) = false := by rw [beq_eq_false_iff_ne]; omega
  obtain ⟨s, hsd⟩ : ∃ s, decide (2147483648 ≤ b) = s := ⟨_, rfl⟩
  obtain ⟨A, hA⟩ : ∃ A : Int, (if 2147483648 ≤ b then (2147483648 : Int) else 0) = A := ⟨_, rfl⟩
  rw [hA] at ha
  have hsb : (A != 0) = s := by
    rw [← hA, ← hsd, Bool.eq_iff_iff, bne_iff_ne, decide_eq_true_iff]
    split <;> omega
  have hd : (b : Int) / 4294967296 = 0 := by omega
  have hx : (r : Int) / 8388608 = 255 := by omega
  clear hE hmb hrr hsd hA h
  go_enter Tryd.func3, Tryd.ntmps3
  go_wp2_with fail
  refine HV.out.mono ?_
  rintro e W2 ⟨rfl, bq⟩
  clear HV
  have b4 : Below W2.heap.size W2 (W2.alloc (.cells #[.bool false, .slice none 0 0, .slice none 0 0] 26)) := (Below.refl _ _).alloc (Nat.le_refl _) _
  have hn := BlockAt.new W2 #[.bool false, .slice none 0 0, .slice none 0 0] 26
  have B := bq.trans (b4.mono bq.size)
  clear bq b4
  go_wp2_with fail
  refine (high32 _).mono ?_
  rintro e W3 ⟨rfl, rfl⟩
  go_wp2_with fail
  refine (high32 _).mono ?_
  rintro e W3 ⟨rfl, rfl⟩
  go_wp2_with fail
  refine (high32 _).mono ?_
  rintro e W3 ⟨rfl, rfl⟩
  go_wp2_with fail
  go_quiet (first | (go_at_call 9; exact Calls.quiet_of_same ((mantissa32 _).mono fun _ _ h => ⟨h.1, h.2.symm⟩)) | (go_at_call 10; exact Calls.quiet_of_same ((rhigh32 _).mono fun _ _ h => ⟨h.1, h.2.symm⟩)))
  rename_i nq
  have hn := hn.drewN nq
  have B := below_drewN B nq
  go_wp2_with fail
  refine (alive3 _).mono ?_
  rintro e W9 ⟨rfl, bq⟩
  have hn := hn.below bq
  have B := B.trans (bq.mono B.size)
  clear bq
  obtain ⟨p0, p1, p2⟩ := block3 hn
  have pl := hn.lt
  go_wp2_with fail
  refine (same_none _).mono ?_
  rintro e W10 ⟨rfl, bq⟩
  have B := B.trans (bq.mono B.size)
  clear bq p0 p1 p2 pl
  go_wp2_with fail
  go_ret
  exact ⟨rfl, B⟩
set_option maxHeartbeats 16000000 in
set_option maxRecDepth 100000 in
theorem values32_num (b : Nat) (w : World) (hb : b < 4294967296) (h : b ≠ 2147483648) (hE : b % 2147483648 / 8388608 < 255) (hT : Tab64 w) :
    Calls Tryd.prog 3 #[.int .u64 b, .int .i64 32] w fun e w' => e = .returned (.bool true) ∧ Below w.heap.size w w' := by
  have F : Form3 32 2147483648 8388608 255 24 149 := .inl ⟨rfl, rfl, rfl, rfl, rfl, rfl⟩
  have hvb : validb 2147483648 8388608 255 b := ⟨by omega, h, hE⟩
  have HV := Lib.hid (value32_num b w hb h hE hT)
  obtain ⟨sn, sd, sg, qn, qd, r1, r2, on, od, k1, k2, k3, k4, k5, k6, k7, k8, k9⟩ := ref_facts F b hvb
  have fQ := fieldQ
  have ha := sign31 b hb
  have hm := mag31 b hb
  have hmb : b % 2147483648 < 2147483648 := Nat.mod_lt _ (by decide)
  generalize hrr : b % 2147483648 = r at *
  have hq : ((b : Int) == 2147483648) = false := by rw [beq_eq_false_iff_ne]; omega
  obtain ⟨s, hsd⟩ : ∃ s, decide (2147483648 ≤ b) = s := ⟨_, rfl⟩
  obtain ⟨A, hA⟩ : ∃ A : Int, (if 2147483648 ≤ b then (2147483648 : Int) else 0) = A := ⟨_, rfl⟩
  rw [hA] at ha
  have hsb : (A != 0) = s := by
    rw [← hA, ← hsd, Bool.eq_iff_iff, bne_iff_ne, decide_eq_true_iff]
    split <;> omega
  have hd : (b : Int) / 4294967296 = 0 := by omega
  obtain ⟨e', he'⟩ : ∃ e' : Int, (r : Int) / 8388608 = e' := ⟨_, rfl⟩
  have hx : (e' == 255) = false := by rw [beq_eq_false_iff_ne]; omega
  rw [hsd] at HV k7 k8 k9
  generalize fval s r 24 149 = x at *
  have IS := Lib.hid (fun (W : World) (v : Value) (h : RatN W v x) => isF_true v x false W h)
  rw [k9] at IS
  have K1 := Lib.hid k1
  have K2 := Lib.hid k2
  have K3 := Lib.hid k3
  have K4 := Lib.hid k4
  have K5 := Lib.hid k5
  have K6 := Lib.hid k6
  have K7 := Lib.hid k7
  have K8 := Lib.hid k8
  clear k1 k2 k3 k4 k5 k6 k7 k8 k9 hE hmb hrr hsd hA h F hvb hT
  go_enter Tryd.func3, Tryd.ntmps3
  go_wp2_with fail
  refine HV.out.mono ?_
  rintro e W2 ⟨hvp, bq⟩
  clear HV
  rcases hvp with ⟨v, rfl, hrat⟩ | ⟨rfl, hbig⟩
  · have hlt := hrat.lt
    have hon : on = false := by
      cases hx : on
      · rfl
      · have := K7.out.1 hx
        omega
    have hod : od = false := by
      cases hx : od
      · rfl
      · have := K8.out.1 hx
        omega
    obtain ⟨s_, o1, m1, k1, o2, m2, k2, rfl⟩ := RawN.form hrat
    clear K7 K8 hlt
    have hn := BlockAt.new W2 #[.bool s_, .slice o1 m1 k1, .slice o2 m2 k2] 26
    have b4 : Below W2.heap.size W2 (W2.alloc (.cells #[.bool s_, .slice o1 m1 k1, .slice o2 m2 k2] 26)) := (Below.refl _ _).alloc (Nat.le_refl _) _
    have B := bq.trans (b4.mono bq.size)
    have hrat := hrat.below b4
    clear bq b4
    go_wp2_with fail
    refine (high32 _).mono ?_
    rintro e W3 ⟨rfl, rfl⟩
    go_wp2_with fail
    refine (high32 _).mono ?_
    rintro e W3 ⟨rfl, rfl⟩
    go_wp2_with fail
    refine (high32 _).mono ?_
    rintro e W3 ⟨rfl, rfl⟩
    go_wp2_with fail
    go_quiet (first | (go_at_call 9; exact Calls.quiet_of_same ((mantissa32 _).mono fun _ _ h => ⟨h.1, h.2.symm⟩)) | (go_at_call 10; exact Calls.quiet_of_same ((rhigh32 _).mono fun _ _ h => ⟨h.1, h.2.symm⟩)))
    rename_i nq
    have hn := hn.drewN nq
    have B := below_drewN B nq
    have hrat := hrat.below (below_drewN (Below.refl _ _) nq)
    go_wp2_with fail
    refine (K1.out _).mono ?_
    rintro e W3 ⟨rfl, bq⟩
    have hn := hn.below bq
    have B := B.trans (bq.mono B.size)
    have hrat := hrat.below bq
    clear bq K1
    have b4 : Below W3.heap.size W3 (W3.alloc (.cells #[.string sn, .string sd] 36)) := (Below.refl _ _).alloc (Nat.le_refl _) _
    have hf := BlockAt.new W3 #[.string sn, .string sd] 36
    have hn := hn.below b4
    have B := B.trans (b4.mono B.size)
    have bq := b4
    have hrat := hrat.below bq
    clear bq b4
    obtain ⟨fb, hfb⟩ : ∃ fb, W3.heap.size = fb := ⟨_, rfl⟩
    have c0 := hf.cell 0
    have c1 := hf.cell 1
    simp at c0 c1
    have fl := hf.lt
    go_wp2_with fail
    refine (K2.out _).mono ?_
    rintro e W4 ⟨rfl, bq⟩
    have hn := hn.below bq
    have hf := hf.below bq
    have B := B.trans (bq.mono B.size)
    have hrat := hrat.below bq
    clear bq K2 c0 c1 fl
    have bq := (Below.refl W4.heap.size W4).drew
    have hn := hn.below bq
    have hf := hf.below bq
    have B := B.drew
    have hrat := hrat.below bq
    clear bq
    have tok1 : True := trivial
    rw [hfb] at hf
    have d0 := hf.cell 0
    have d1 := hf.cell 1
    simp at d0 d1
    go_wp2_with fail
    go_region_held3 (fun w' => w'.cell? ⟨fb, 0, none⟩ = some (.string sn) ∧ w'.cell? ⟨fb, 1, none⟩ = some (.string sd))
      (first | go_keep | (exact ⟨d0, d1⟩) | (exact ⟨hf.cell 0, hf.cell 1⟩))
      (first | (go_at_call 13; have _t := tok1; clear _t tok1; have tok2 : True := trivial; refine (K3.out _).mono ?_; rintro e W5 ⟨rfl, bq⟩; have hf := hf.below bq; have hn := hn.below bq; have B := B.trans (bq.mono B.size); have hrat := hrat.below bq; clear bq) | (go_at_call 13; have _t := tok2; refine (K4.out _).mono ?_; rintro e W6 ⟨rfl, bq⟩; have hf := hf.below bq; have hn := hn.below bq; have B := B.trans (bq.mono B.size); have hrat := hrat.below bq; clear bq))
    all_goals
      go_wp2_with fail
      refine (K5.out _).mono ?_
      rintro e W7 ⟨rfl, bq⟩
      have hn := hn.below bq
      have B := B.trans (bq.mono B.size)
      have hrat := hrat.below bq
      clear bq K5
      rw [hon]
      go_wp2_with fail
      refine (K6.out _).mono ?_
      rintro e W8 ⟨rfl, bq⟩
      have hn := hn.below bq
      have B := B.trans (bq.mono B.size)
      have hrat := hrat.below bq
      clear bq K6
      rw [hod]
      go_wp2_with fail
      refine (alive3 _).mono ?_
      rintro e W9 ⟨rfl, bq⟩
      have hn := hn.below bq
      have B := B.trans (bq.mono B.size)
      have hrat := hrat.below bq
      clear bq
      have HI := Lib.hid (IS.out _ _ hrat)
      obtain ⟨p0, p1, p2⟩ := block3 hn
      have pl := hn.lt
      clear hrat
      go_wp2_with fail
      refine HI.out.mono ?_
      rintro e W10 ⟨rfl, bq⟩
      have B := B.trans (bq.mono B.size)
      clear bq p0 p1 p2 pl
      go_wp2_with fail
      go_ret
      exact ⟨rfl, B⟩
  · have hw : on = true ∨ (on = false ∧ od = true) := by
      rcases hbig with h | h
      · exact .inl (K7.out.2 h)
      · have h1 := K8.out.2 h
        cases on
        · exact .inr ⟨rfl, h1⟩
        · exact .inl rfl
    clear hbig
    rcases hw with hon | ⟨hon, hod⟩
    · clear K7 K8 IS
      have hn := BlockAt.new W2 #[.bool false, .slice none 0 0, .slice none 0 0] 26
      have b4 : Below W2.heap.size W2 (W2.alloc (.cells #[.bool false, .slice none 0 0, .slice none 0 0] 26)) := (Below.refl _ _).alloc (Nat.le_refl _) _
      have B := bq.trans (b4.mono bq.size)
      clear bq b4
      go_wp2_with fail
      refine (high32 _).mono ?_
      rintro e W3 ⟨rfl, rfl⟩
      go_wp2_with fail
      refine (high32 _).mono ?_
      rintro e W3 ⟨rfl, rfl⟩
      go_wp2_with fail
      refine (high32 _).mono ?_
      rintro e W3 ⟨rfl, rfl⟩
      go_wp2_with fail
      go_quiet (first | (go_at_call 9; exact Calls.quiet_of_same ((mantissa32 _).mono fun _ _ h => ⟨h.1, h.2.symm⟩)) | (go_at_call 10; exact Calls.quiet_of_same ((rhigh32 _).mono fun _ _ h => ⟨h.1, h.2.symm⟩)))
      rename_i nq
      have hn := hn.drewN nq
      have B := below_drewN B nq
      go_wp2_with fail
      refine (K1.out _).mono ?_
      rintro e W3 ⟨rfl, bq⟩
      have hn := hn.below bq
      have B := B.trans (bq.mono B.size)
      clear bq K1
      have b4 : Below W3.heap.size W3 (W3.alloc (.cells #[.string sn, .string sd] 36)) := (Below.refl _ _).alloc (Nat.le_refl _) _
      have hf := BlockAt.new W3 #[.string sn, .string sd] 36
      have hn := hn.below b4
      have B := B.trans (b4.mono B.size)
      have bq := b4
      clear bq b4
      obtain ⟨fb, hfb⟩ : ∃ fb, W3.heap.size = fb := ⟨_, rfl⟩
      have c0 := hf.cell 0
      have c1 := hf.cell 1
      simp at c0 c1
      have fl := hf.lt
      go_wp2_with fail
      refine (K2.out _).mono ?_
      rintro e W4 ⟨rfl, bq⟩
      have hn := hn.below bq
      have hf := hf.below bq
      have B := B.trans (bq.mono B.size)
      clear bq K2 c0 c1 fl
      have bq := (Below.refl W4.heap.size W4).drew
      have hn := hn.below bq
      have hf := hf.below bq
      have B := B.drew
      clear bq
      have tok1 : True := trivial
      rw [hfb] at hf
      have d0 := hf.cell 0
      have d1 := hf.cell 1
      simp at d0 d1
      go_wp2_with fail
      go_region_held3 (fun w' => w'.cell? ⟨fb, 0, none⟩ = some (.string sn) ∧ w'.cell? ⟨fb, 1, none⟩ = some (.string sd))
        (first | go_keep | (exact ⟨d0, d1⟩) | (exact ⟨hf.cell 0, hf.cell 1⟩))
        (first | (go_at_call 13; have _t := tok1; clear _t tok1; have tok2 : True := trivial; refine (K3.out _).mono ?_; rintro e W5 ⟨rfl, bq⟩; have hf := hf.below bq; have hn := hn.below bq; have B := B.trans (bq.mono B.size); clear bq) | (go_at_call 13; have _t := tok2; refine (K4.out _).mono ?_; rintro e W6 ⟨rfl, bq⟩; have hf := hf.below bq; have hn := hn.below bq; have B := B.trans (bq.mono B.size); clear bq))
      all_goals
        go_wp2_with fail
        refine (K5.out _).mono ?_
        rintro e W7 ⟨rfl, bq⟩
        have hn := hn.below bq
        have B := B.trans (bq.mono B.size)
        clear bq K5
        rw [hon]
        go_wp2_with fail
        refine (alive3 _).mono ?_
        rintro e W9 ⟨rfl, bq⟩
        have hn := hn.below bq
        have B := B.trans (bq.mono B.size)
        clear bq
        obtain ⟨p0, p1, p2⟩ := block3 hn
        have pl := hn.lt
        go_wp2_with fail
        refine (same_none _).mono ?_
        rintro e W10 ⟨rfl, bq⟩
        have B := B.trans (bq.mono B.size)
        clear bq p0 p1 p2 pl
        go_wp2_with fail
        go_ret
        exact ⟨rfl, B⟩
    · clear K7 K8 IS
      have hn := BlockAt.new W2 #[.bool false, .slice none 0 0, .slice none 0 0] 26
      have b4 : Below W2.heap.size W2 (W2.alloc (.cells #[.bool false, .slice none 0 0, .slice none 0 0] 26)) := (Below.refl _ _).alloc (Nat.le_refl _) _
      have B := bq.trans (b4.mono bq.size)
      clear bq b4
      go_wp2_with fail
      refine (high32 _).mono ?_
      rintro e W3 ⟨rfl, rfl⟩
      go_wp2_with fail
      refine (high32 _).mono ?_
      rintro e W3 ⟨rfl, rfl⟩
      go_wp2_with fail
      refine (high32 _).mono ?_
      rintro e W3 ⟨rfl, rfl⟩
      go_wp2_with fail
      go_quiet (first | (go_at_call 9; exact Calls.quiet_of_same ((mantissa32 _).mono fun _ _ h => ⟨h.1, h.2.symm⟩)) | (go_at_call 10; exact Calls.quiet_of_same ((rhigh32 _).mono fun _ _ h => ⟨h.1, h.2.symm⟩)))
      rename_i nq
      have hn := hn.drewN nq
      have B := below_drewN B nq
      go_wp2_with fail
      refine (K1.out _).mono ?_
      rintro e W3 ⟨rfl, bq⟩
      have hn := hn.below bq
      have B := B.trans (bq.mono B.size)
      clear bq K1
      have b4 : Below W3.heap.size W3 (W3.alloc (.cells #[.string sn, .string sd] 36)) := (Below.refl _ _).alloc (Nat.le_refl _) _
      have hf := BlockAt.new W3 #[.string sn, .string sd] 36
      have hn := hn.below b4
      have B := B.trans (b4.mono B.size)
      have bq := b4
      clear bq b4
      obtain ⟨fb, hfb⟩ : ∃ fb, W3.heap.size = fb := ⟨_, rfl⟩
      have c0 := hf.cell 0
      have c1 := hf.cell 1
      simp at c0 c1
      have fl := hf.lt
      go_wp2_with fail
      refine (K2.out _).mono ?_
      rintro e W4 ⟨rfl, bq⟩
      have hn := hn.below bq
      have hf := hf.below bq
      have B := B.trans (bq.mono B.size)
      clear bq K2 c0 c1 fl
      have bq := (Below.refl W4.heap.size W4).drew
      have hn := hn.below bq
      have hf := hf.below bq
      have B := B.drew
      clear bq
      have tok1 : True := trivial
      rw [hfb] at hf
      have d0 := hf.cell 0
      have d1 := hf.cell 1
      simp at d0 d1
      go_wp2_with fail
      go_region_held3 (fun w' => w'.cell? ⟨fb, 0, none⟩ = some (.string sn) ∧ w'.cell? ⟨fb, 1, none⟩ = some (.string sd))
        (first | go_keep | (exact ⟨d0, d1⟩) | (exact ⟨hf.cell 0, hf.cell 1⟩))
        (first | (go_at_call 13; have _t := tok1; clear _t tok1; have tok2 : True := trivial; refine (K3.out _).mono ?_; rintro e W5 ⟨rfl, bq⟩; have hf := hf.below bq; have hn := hn.below bq; have B := B.trans (bq.mono B.size); clear bq) | (go_at_call 13; have _t := tok2; refine (K4.out _).mono ?_; rintro e W6 ⟨rfl, bq⟩; have hf := hf.below bq; have hn := hn.below bq; have B := B.trans (bq.mono B.size); clear bq))
      all_goals
        go_wp2_with fail
        refine (K5.out _).mono ?_
        rintro e W7 ⟨rfl, bq⟩
        have hn := hn.below bq
        have B := B.trans (bq.mono B.size)
        clear bq K5
        rw [hon]
        go_wp2_with fail
        refine (K6.out _).mono ?_
        rintro e W8 ⟨rfl, bq⟩
        have hn := hn.below bq
        have B := B.trans (bq.mono B.size)
        clear bq K6
        rw [hod]
        go_wp2_with fail
        refine (alive3 _).mono ?_
        rintro e W9 ⟨rfl, bq⟩
        have hn := hn.below bq
        have B := B.trans (bq.mono B.size)
        clear bq
        obtain ⟨p0, p1, p2⟩ := block3 hn
        have pl := hn.lt
        go_wp2_with fail
        refine (same_none _).mono ?_
        rintro e W10 ⟨rfl, bq⟩
        have B := B.trans (bq.mono B.size)
        clear bq p0 p1 p2 pl
        go_wp2_with fail
        go_ret
        exact ⟨rfl, B⟩
set_option maxHeartbeats 16000000 in
set_option maxRecDepth 100000 in
theorem values64_sign (w : World) :
    Calls Tryd.prog 3 #[.int .u64 9223372036854775808, .int .i64 64] w fun e w' => e = .returned (.bool true) ∧ Below w.heap.size w w' := by
  go_enter Tryd.func3, Tryd.ntmps3
  go_wp2_with fail
  refine (value64_sign w).mono ?_
  rintro e W2 ⟨rfl, bq⟩
  have b4 : Below W2.heap.size W2 (W2.alloc (.cells #[.bool false, .slice none 0 0, .slice none 0 0] 26)) := (Below.refl _ _).alloc (Nat.le_refl _) _
  have hn := BlockAt.new W2 #[.bool false, .slice none 0 0, .slice none 0 0] 26
  have B := bq.trans (b4.mono bq.size)
  clear bq b4
  go_wp2_with fail
  refine (high64 _).mono ?_
  rintro e W3 ⟨rfl, rfl⟩
  go_wp2_with fail
  refine (alive3 _).mono ?_
  rintro e W9 ⟨rfl, bq⟩
  have hn := hn.below bq
  have B := B.trans (bq.mono B.size)
  clear bq
  obtain ⟨p0, p1, p2⟩ := block3 hn
  have pl := hn.lt
  go_wp2_with fail
  refine (same_none _).mono ?_
  rintro e W10 ⟨rfl, bq⟩
  have B := B.trans (bq.mono B.size)
  clear bq p0 p1 p2 pl
  go_wp2_with fail
  go_ret
  exact ⟨rfl, B⟩
set_option maxHeartbeats 16000000 in
set_option maxRecDepth 100000 in
theorem values64_none (b : Nat) (w : World) (hb : b < 18446744073709551616) (h : b ≠ 9223372036854775808) (hE : 2047 ≤ b % 9223372036854775808 / 4503599627370496) :
    Calls Tryd.prog 3 #[.int .u64 b, .int .i64 64] w fun e w' => e = .returned (.bool true) ∧ Below w.heap.size w w' := by
  have HV := Lib.hid (value64_none b w hb h hE)
  have ha := sign63 b hb
  have hm := mag63 b hb
  have hmb : b % 9223372036854775808 < 9223372036854775808 := Nat.mod_lt _ (by decide)
  generalize hrr : b % 9223372036854775808 = r at *
  have hq : ((b : Int) == 9223372036854775808) = false := by rw [beq_eq_false_iff_ne]; omega
  obtain ⟨s, hsd⟩ : ∃ s, decide (9223372036854775808 ≤ b) = s := ⟨_, rfl⟩
  obtain ⟨A, hA⟩ : ∃ A : Int, (if 9223372036854775808 ≤ b then (9223372036854775808 : Int) else 0) = A := ⟨_, rfl⟩
  rw [hA] at ha
  have hsb : (A != 0) = s := by
    rw [← hA, ← hsd, Bool.eq_iff_iff, bne_iff_ne, decide_eq_true_iff]
    split <;> omega
  have hx : (r : Int) / 4503599627370496 = 2047 := by omega
  clear hE hmb hrr hsd hA h
  go_enter Tryd.func3, Tryd.ntmps3
  go_wp2_with fail
  refine HV.out.mono ?_
  rintro e W2 ⟨rfl, bq⟩
  clear HV
  have b4 : Below W2.heap.size W2 (W2.alloc (.cells #[.bool false, .slice none 0 0, .slice none 0 0] 26)) := (Below.refl _ _).alloc (Nat.le_refl _) _
  have hn := BlockAt.new W2 #[.bool false, .slice none 0 0, .slice none 0 0] 26
  have B := bq.trans (b4.mono bq.size)
  clear bq b4
  go_wp2_with fail
  refine (high64 _).mono ?_
  rintro e W3 ⟨rfl, rfl⟩
  go_wp2_with fail
  refine (high64 _).mono ?_
  rintro e W3 ⟨rfl, rfl⟩
  go_wp2_with fail
  refine (high64 _).mono ?_
  rintro e W3 ⟨rfl, rfl⟩
  go_wp2_with fail
  go_quiet (first | (go_at_call 9; exact Calls.quiet_of_same ((mantissa64 _).mono fun _ _ h => ⟨h.1, h.2.symm⟩)) | (go_at_call 10; exact Calls.quiet_of_same ((rhigh64 _).mono fun _ _ h => ⟨h.1, h.2.symm⟩)))
  rename_i nq
  have hn := hn.drewN nq
  have B := below_drewN B nq
  go_wp2_with fail
  refine (alive3 _).mono ?_
  rintro e W9 ⟨rfl, bq⟩
  have hn := hn.below bq
  have B := B.trans (bq.mono B.size)
  clear bq
  obtain ⟨p0, p1, p2⟩ := block3 hn
  have pl := hn.lt
  go_wp2_with fail
  refine (same_none _).mono ?_
  rintro e W10 ⟨rfl, bq⟩
  have B := B.trans (bq.mono B.size)
  clear bq p0 p1 p2 pl
  go_wp2_with fail
  go_ret
  exact ⟨rfl, B⟩
set_option maxHeartbeats 16000000 in
set_option maxRecDepth 100000 in
theorem values64_num (b : Nat) (w : World) (hb : b < 18446744073709551616) (h : b ≠ 9223372036854775808) (hE : b % 9223372036854775808 / 4503599627370496 < 2047) (hT : Tab64 w) :
    Calls Tryd.prog 3 #[.int .u64 b, .int .i64 64] w fun e w' => e = .returned (.bool true) ∧ Below w.heap.size w w' := by
  have F : Form3 64 9223372036854775808 4503599627370496 2047 53 1074 := .inr ⟨rfl, rfl, rfl, rfl, rfl, rfl⟩
  have hvb : validb 9223372036854775808 4503599627370496 2047 b := ⟨by omega, h, hE⟩
  have HV := Lib.hid (value64_num b w hb h hE hT)
  obtain ⟨sn, sd, sg, qn, qd, r1, r2, on, od, k1, k2, k3, k4, k5, k6, k7, k8, k9⟩ := ref_facts F b hvb
  have fQ := fieldQ
  have ha := sign63 b hb
  have hm := mag63 b hb
  have hmb : b % 9223372036854775808 < 9223372036854775808 := Nat.mod_lt _ (by decide)
  generalize hrr : b % 9223372036854775808 = r at *
  have hq : ((b : Int) == 9223372036854775808) = false := by rw [beq_eq_false_iff_ne]; omega
  obtain ⟨s, hsd⟩ : ∃ s, decide (9223372036854775808 ≤ b) = s := ⟨_, rfl⟩
  obtain ⟨A, hA⟩ : ∃ A : Int, (if 9223372036854775808 ≤ b then (9223372036854775808 : Int) else 0) = A := ⟨_, rfl⟩
  rw [hA] at ha
  have hsb : (A != 0) = s := by
    rw [← hA, ← hsd, Bool.eq_iff_iff, bne_iff_ne, decide_eq_true_iff]
    split <;> omega
  obtain ⟨e', he'⟩ : ∃ e' : Int, (r : Int) / 4503599627370496 = e' := ⟨_, rfl⟩
  have hx : (e' == 2047) = false := by rw [beq_eq_false_iff_ne]; omega
  rw [hsd] at HV k7 k8 k9
  generalize fval s r 53 1074 = x at *
  have IS := Lib.hid (fun (W : World) (v : Value) (h : RatN W v x) => isF_true v x false W h)
  rw [k9] at IS
  have K1 := Lib.hid k1
  have K2 := Lib.hid k2
  have K3 := Lib.hid k3
  have K4 := Lib.hid k4
  have K5 := Lib.hid k5
  have K6 := Lib.hid k6
  have K7 := Lib.hid k7
  have K8 := Lib.hid k8
  clear k1 k2 k3 k4 k5 k6 k7 k8 k9 hE hmb hrr hsd hA h F hvb hT
  go_enter Tryd.func3, Tryd.ntmps3
  go_wp2_with fail
  refine HV.out.mono ?_
  rintro e W2 ⟨hvp, bq⟩
  clear HV
  rcases hvp with ⟨v, rfl, hrat⟩ | ⟨rfl, hbig⟩
  · have hlt := hrat.lt
    have hon : on = false := by
      cases hx : on
      · rfl
      · have := K7.out.1 hx
        omega
    have hod : od = false := by
      cases hx : od
      · rfl
      · have := K8.out.1 hx
        omega
    obtain ⟨s_, o1, m1, k1, o2, m2, k2, rfl⟩ := RawN.form hrat
    clear K7 K8 hlt
    have hn := BlockAt.new W2 #[.bool s_, .slice o1 m1 k1, .slice o2 m2 k2] 26
    have b4 : Below W2.heap.size W2 (W2.alloc (.cells #[.bool s_, .slice o1 m1 k1, .slice o2 m2 k2] 26)) := (Below.refl _ _).alloc (Nat.le_refl _) _
    have B := bq.trans (b4.mono bq.size)
    have hrat := hrat.below b4
    clear bq b4
    go_wp2_with fail
    refine (high64 _).mono ?_
    rintro e W3 ⟨rfl, rfl⟩
    go_wp2_with fail
    refine (high64 _).mono ?_
    rintro e W3 ⟨rfl, rfl⟩
    go_wp2_with fail
    refine (high64 _).mono ?_
    rintro e W3 ⟨rfl, rfl⟩
    go_wp2_with fail
    go_quiet (first | (go_at_call 9; exact Calls.quiet_of_same ((mantissa64 _).mono fun _ _ h => ⟨h.1, h.2.symm⟩)) | (go_at_call 10; exact Calls.quiet_of_same ((rhigh64 _).mono fun _ _ h => ⟨h.1, h.2.symm⟩)))
    rename_i nq
    have hn := hn.drewN nq
    have B := below_drewN B nq
    have hrat := hrat.below (below_drewN (Below.refl _ _) nq)
    go_wp2_with fail
    refine (K1.out _).mono ?_
    rintro e W3 ⟨rfl, bq⟩
    have hn := hn.below bq
    have B := B.trans (bq.mono B.size)
    have hrat := hrat.below bq
    clear bq K1
    have b4 : Below W3.heap.size W3 (W3.alloc (.cells #[.string sn, .string sd] 36)) := (Below.refl _ _).alloc (Nat.le_refl _) _
    have hf := BlockAt.new W3 #[.string sn, .string sd] 36
    have hn := hn.below b4
    have B := B.trans (b4.mono B.size)
    have bq := b4
    have hrat := hrat.below bq
    clear bq b4
    obtain ⟨fb, hfb⟩ : ∃ fb, W3.heap.size = fb := ⟨_, rfl⟩
    have c0 := hf.cell 0
    have c1 := hf.cell 1
    simp at c0 c1
    have fl := hf.lt
    go_wp2_with fail
    refine (K2.out _).mono ?_
    rintro e W4 ⟨rfl, bq⟩
    have hn := hn.below bq
    have hf := hf.below bq
    have B := B.trans (bq.mono B.size)
    have hrat := hrat.below bq
    clear bq K2 c0 c1 fl
    have bq := (Below.refl W4.heap.size W4).drew
    have hn := hn.below bq
    have hf := hf.below bq
    have B := B.drew
    have hrat := hrat.below bq
    clear bq
    have tok1 : True := trivial
    rw [hfb] at hf
    have d0 := hf.cell 0
    have d1 := hf.cell 1
    simp at d0 d1
    go_wp2_with fail
    go_region_held3 (fun w' => w'.cell? ⟨fb, 0, none⟩ = some (.string sn) ∧ w'.cell? ⟨fb, 1, none⟩ = some (.string sd))
      (first | go_keep | (exact ⟨d0, d1⟩) | (exact ⟨hf.cell 0, hf.cell 1⟩))
      (first | (go_at_call 13; have _t := tok1; clear _t tok1; have tok2 : True := trivial; refine (K3.out _).mono ?_; rintro e W5 ⟨rfl, bq⟩; have hf := hf.below bq; have hn := hn.below bq; have B := B.trans (bq.mono B.size); have hrat := hrat.below bq; clear bq) | (go_at_call 13; have _t := tok2; refine (K4.out _).mono ?_; rintro e W6 ⟨rfl, bq⟩; have hf := hf.below bq; have hn := hn.below bq; have B := B.trans (bq.mono B.size); have hrat := hrat.below bq; clear bq))
    all_goals
      go_wp2_with fail
      refine (K5.out _).mono ?_
      rintro e W7 ⟨rfl, bq⟩
      have hn := hn.below bq
      have B := B.trans (bq.mono B.size)
      have hrat := hrat.below bq
      clear bq K5
      rw [hon]
      go_wp2_with fail
      refine (K6.out _).mono ?_
      rintro e W8 ⟨rfl, bq⟩
      have hn := hn.below bq
      have B := B.trans (bq.mono B.size)
      have hrat := hrat.below bq
      clear bq K6
      rw [hod]
      go_wp2_with fail
      refine (alive3 _).mono ?_
      rintro e W9 ⟨rfl, bq⟩
      have hn := hn.below bq
      have B := B.trans (bq.mono B.size)
      have hrat := hrat.below bq
      clear bq
      have HI := Lib.hid (IS.out _ _ hrat)
      obtain ⟨p0, p1, p2⟩ := block3 hn
      have pl := hn.lt
      clear hrat
      go_wp2_with fail
      refine HI.out.mono ?_
      rintro e W10 ⟨rfl, bq⟩
      have B := B.trans (bq.mono B.size)
      clear bq p0 p1 p2 pl
      go_wp2_with fail
      go_ret
      exact ⟨rfl, B⟩
  · have hw : on = true ∨ (on = false ∧ od = true) := by
      rcases hbig with h | h
      · exact .inl (K7.out.2 h)
      · have h1 := K8.out.2 h
        cases on
        · exact .inr ⟨rfl, h1⟩
        · exact .inl rfl
    clear hbig
    rcases hw with hon | ⟨hon, hod⟩
    · clear K7 K8 IS
      have hn := BlockAt.new W2 #[.bool false, .slice none 0 0, .slice none 0 0] 26
      have b4 : Below W2.heap.size W2 (W2.alloc (.cells #[.bool false, .slice none 0 0, .slice none 0 0] 26)) := (Below.refl _ _).alloc (Nat.le_refl _) _
      have B := bq.trans (b4.mono bq.size)
      clear bq b4
      go_wp2_with fail
      refine (high64 _).mono ?_
      rintro e W3 ⟨rfl, rfl⟩
      go_wp2_with fail
      refine (high64 _).mono ?_
      rintro e W3 ⟨rfl, rfl⟩
      go_wp2_with fail
      refine (high64 _).mono ?_
      rintro e W3 ⟨rfl, rfl⟩
      go_wp2_with fail
      go_quiet (first | (go_at_call 9; exact Calls.quiet_of_same ((mantissa64 _).mono fun _ _ h => ⟨h.1, h.2.symm⟩)) | (go_at_call 10; exact Calls.quiet_of_same ((rhigh64 _).mono fun _ _ h => ⟨h.1, h.2.symm⟩)))
      rename_i nq
      have hn := hn.drewN nq
      have B := below_drewN B nq
      go_wp2_with fail
      refine (K1.out _).mono ?_
      rintro e W3 ⟨rfl, bq⟩
      have hn := hn.below bq
      have B := B.trans (bq.mono B.size)
      clear bq K1
      have b4 : Below W3.heap.size W3 (W3.alloc (.cells #[.string sn, .string sd] 36)) := (Below.refl _ _).alloc (Nat.le_refl _) _
      have hf := BlockAt.new W3 #[.string sn, .string sd] 36
      have hn := hn.below b4
      have B := B.trans (b4.mono B.size)
      have bq := b4
      clear bq b4
      obtain ⟨fb, hfb⟩ : ∃ fb, W3.heap.size = fb := ⟨_, rfl⟩
      have c0 := hf.cell 0
      have c1 := hf.cell 1
      simp at c0 c1
      have fl := hf.lt
      go_wp2_with fail
      refine (K2.out _).mono ?_
      rintro e W4 ⟨rfl, bq⟩
      have hn := hn.below bq
      have hf := hf.below bq
      have B := B.trans (bq.mono B.size)
      clear bq K2 c0 c1 fl
      have bq := (Below.refl W4.heap.size W4).drew
      have hn := hn.below bq
      have hf := hf.below bq
      have B := B.drew
      clear bq
      have tok1 : True := trivial
      rw [hfb] at hf
      have d0 := hf.cell 0
      have d1 := hf.cell 1
      simp at d0 d1
      go_wp2_with fail
      go_region_held3 (fun w' => w'.cell? ⟨fb, 0, none⟩ = some (.string sn) ∧ w'.cell? ⟨fb, 1, none⟩ = some (.string sd))
        (first | go_keep | (exact ⟨d0, d1⟩) | (exact ⟨hf.cell 0, hf.cell 1⟩))
        (first | (go_at_call 13; have _t := tok1; clear _t tok1; have tok2 : True := trivial; refine (K3.out _).mono ?_; rintro e W5 ⟨rfl, bq⟩; have hf := hf.below bq; have hn := hn.below bq; have B := B.trans (bq.mono B.size); clear bq) | (go_at_call 13; have _t := tok2; refine (K4.out _).mono ?_; rintro e W6 ⟨rfl, bq⟩; have hf := hf.below bq; have hn := hn.below bq; have B := B.trans (bq.mono B.size); clear bq))
      all_goals
        go_wp2_with fail
        refine (K5.out _).mono ?_
        rintro e W7 ⟨rfl, bq⟩
        have hn := hn.below bq
        have B := B.trans (bq.mono B.size)
        clear bq K5
        rw [hon]
        go_wp2_with fail
        refine (alive3 _).mono ?_
        rintro e W9 ⟨rfl, bq⟩
        have hn := hn.below bq
        have B := B.trans (bq.mono B.size)
        clear bq
        obtain ⟨p0, p1, p2⟩ := block3 hn
        have pl := hn.lt
        go_wp2_with fail
        refine (same_none _).mono ?_
        rintro e W10 ⟨rfl, bq⟩
        have B := B.trans (bq.mono B.size)
        clear bq p0 p1 p2 pl
        go_wp2_with fail
        go_ret
        exact ⟨rfl, B⟩
    · clear K7 K8 IS
      have hn := BlockAt.new W2 #[.bool false, .slice none 0 0, .slice none 0 0] 26
      have b4 : Below W2.heap.size W2 (W2.alloc (.cells #[.bool false, .slice none 0 0, .slice none 0 0] 26)) := (Below.refl _ _).alloc (Nat.le_refl _) _
      have B := bq.trans (b4.mono bq.size)
      clear bq b4
      go_wp2_with fail
      refine (high64 _).mono ?_
      rintro e W3 ⟨rfl, rfl⟩
      go_wp2_with fail
      refine (high64 _).mono ?_
      rintro e W3 ⟨rfl, rfl⟩
      go_wp2_with fail
      refine (high64 _).mono ?_
      rintro e W3 ⟨rfl, rfl⟩
      go_wp2_with fail
      go_quiet (first | (go_at_call 9; exact Calls.quiet_of_same ((mantissa64 _).mono fun _ _ h => ⟨h.1, h.2.symm⟩)) | (go_at_call 10; exact Calls.quiet_of_same ((rhigh64 _).mono fun _ _ h => ⟨h.1, h.2.symm⟩)))
      rename_i nq
      have hn := hn.drewN nq
      have B := below_drewN B nq
      go_wp2_with fail
      refine (K1.out _).mono ?_
      rintro e W3 ⟨rfl, bq⟩
      have hn := hn.below bq
      have B := B.trans (bq.mono B.size)
      clear bq K1
      have b4 : Below W3.heap.size W3 (W3.alloc (.cells #[.string sn, .string sd] 36)) := (Below.refl _ _).alloc (Nat.le_refl _) _
      have hf := BlockAt.new W3 #[.string sn, .string sd] 36
      have hn := hn.below b4
      have B := B.trans (b4.mono B.size)
      have bq := b4
      clear bq b4
      obtain ⟨fb, hfb⟩ : ∃ fb, W3.heap.size = fb := ⟨_, rfl⟩
      have c0 := hf.cell 0
      have c1 := hf.cell 1
      simp at c0 c1
      have fl := hf.lt
      go_wp2_with fail
      refine (K2.out _).mono ?_
      rintro e W4 ⟨rfl, bq⟩
      have hn := hn.below bq
      have hf := hf.below bq
      have B := B.trans (bq.mono B.size)
      clear bq K2 c0 c1 fl
      have bq := (Below.refl W4.heap.size W4).drew
      have hn := hn.below bq
      have hf := hf.below bq
      have B := B.drew
      clear bq
      have tok1 : True := trivial
      rw [hfb] at hf
      have d0 := hf.cell 0
      have d1 := hf.cell 1
      simp at d0 d1
      go_wp2_with fail
      go_region_held3 (fun w' => w'.cell? ⟨fb, 0, none⟩ = some (.string sn) ∧ w'.cell? ⟨fb, 1, none⟩ = some (.string sd))
        (first | go_keep | (exact ⟨d0, d1⟩) | (exact ⟨hf.cell 0, hf.cell 1⟩))
        (first | (go_at_call 13; have _t := tok1; clear _t tok1; have tok2 : True := trivial; refine (K3.out _).mono ?_; rintro e W5 ⟨rfl, bq⟩; have hf := hf.below bq; have hn := hn.below bq; have B := B.trans (bq.mono B.size); clear bq) | (go_at_call 13; have _t := tok2; refine (K4.out _).mono ?_; rintro e W6 ⟨rfl, bq⟩; have hf := hf.below bq; have hn := hn.below bq; have B := B.trans (bq.mono B.size); clear bq))
      all_goals
        go_wp2_with fail
        refine (K5.out _).mono ?_
        rintro e W7 ⟨rfl, bq⟩
        have hn := hn.below bq
        have B := B.trans (bq.mono B.size)
        clear bq K5
        rw [hon]
        go_wp2_with fail
        refine (K6.out _).mono ?_
        rintro e W8 ⟨rfl, bq⟩
        have hn := hn.below bq
        have B := B.trans (bq.mono B.size)
        clear bq K6
        rw [hod]
        go_wp2_with fail
        refine (alive3 _).mono ?_
        rintro e W9 ⟨rfl, bq⟩
        have hn := hn.below bq
        have B := B.trans (bq.mono B.size)
        clear bq
        obtain ⟨p0, p1, p2⟩ := block3 hn
        have pl := hn.lt
        go_wp2_with fail
        refine (same_none _).mono ?_
        rintro e W10 ⟨rfl, bq⟩
        have B := B.trans (bq.mono B.size)
        clear bq p0 p1 p2 pl
        go_wp2_with fail
        go_ret
        exact ⟨rfl, B⟩
theorem values3_walk (bits : Int) (sz : Int) (w : World) (hbits : (Lit.int .u64 bits).wf = true) (hsz : (Lit.int .i64 sz).wf = true) (hT : Tab64 w) :
    Calls Tryd.prog 3 #[.int .u64 bits, .int .i64 sz] w fun e w' => e = .returned (.bool true) ∧ Below w.heap.size w w' := by
  obtain ⟨b, rfl, hb64⟩ : ∃ b : Nat, bits = (b : Int) ∧ b < 18446744073709551616 := by
    have h1 : (0 : Int) ≤ bits ∧ bits ≤ 18446744073709551615 := by simpa [Lit.wf, IntKind.min, IntKind.max, IntKind.signed, IntKind.bits] using hbits
    exact ⟨bits.toNat, by omega, by omega⟩
  by_cases h32 : sz = 32
  · subst h32
    rcases Nat.lt_or_ge b 4294967296 with h1 | h1
    · by_cases h2 : b = 2147483648
      · subst h2
        exact values32_sign w
      · rcases Nat.lt_or_ge (b % 2147483648 / 8388608) 255 with h3 | h3
        · exact values32_num b w h1 h2 h3 hT
        · exact values32_none b w h1 h2 h3
    · exact values32_high b w hb64 h1
  · by_cases h64 : sz = 64
    · subst h64
      by_cases h2 : b = 9223372036854775808
      · subst h2
        exact values64_sign w
      · rcases Nat.lt_or_ge (b % 9223372036854775808 / 4503599627370496) 2047 with h3 | h3
        · exact values64_num b w hb64 h2 h3 hT
        · exact values64_none b w hb64 h2 h3
    · exact values_none b sz w hsz h32 h64
end Go.Proofs.YtlkadnaoacoicaaDoor
