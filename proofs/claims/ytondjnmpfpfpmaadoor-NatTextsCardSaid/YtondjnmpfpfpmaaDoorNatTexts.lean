/- The law NatTexts. -/
import Derived.Test.YtondjnmpfpfpmaaDoorNatNat
import Derived.Deep.RegionHeld3
import Derived.Deep.DeepCutAuto
import Derived.Laws.Bits64b
namespace Go.Proofs.YtondjnmpfpfpmaaDoor
open Go.RowKit NM

theorem Bad1.below {w w' : World} {v : Value} (h : Bad1 w v) (hb : Below w.heap.size w w') : Bad1 w' v := by
  obtain ⟨xs, h1, h2⟩ := h
  exact ⟨xs, h1.below hb, h2⟩
theorem Sl.ways {w : World} {v : Value} {xs : List Int} (h : Sl w v xs) : (∃ N, Num w v N) ∨ Bad1 w v := by
  cases hx : rightB xs
  · exact .inr ⟨xs, h, hx⟩
  · exact .inl ⟨val xs, xs, h, hx, rfl⟩
theorem parse_not (s : ByteArray) (b : Int) (w : World) (hB : Bases w) (hs : s.size ≤ 1000000) (h : baseB b = false) :
    Calls Tryd.prog 28 #[.string s, .int .i64 b] w fun e w' => e = .returned (.tuple #[.slice none 0 0, .int .i64 1]) ∧ Below w.heap.size w w' :=
  (parse_any s b w hB hs).mono fun _ _ ⟨h1, h2⟩ => by
    rcases h1 with ⟨_, h3⟩ | ⟨h3, _⟩ | ⟨h3, _⟩
    · exact ⟨h3, h2⟩
    · rw [h] at h3; cases h3
    · rw [h] at h3; cases h3
theorem parse_syn (s : ByteArray) (b : Int) (w : World) (hB : Bases w) (hs : s.size ≤ 1000000) (h : baseB b = true) (ht : toldB s b = false) :
    Calls Tryd.prog 28 #[.string s, .int .i64 b] w fun e w' => e = .returned (.tuple #[.slice none 0 0, .int .i64 5]) ∧ Below w.heap.size w w' :=
  (parse_any s b w hB hs).mono fun _ _ ⟨h1, h2⟩ => by
    rcases h1 with ⟨h3, _⟩ | ⟨_, _, h3⟩ | ⟨_, h3, _⟩
    · rw [h] at h3; cases h3
    · exact ⟨h3, h2⟩
    · rw [ht] at h3; cases h3
theorem parse_told (s : ByteArray) (b : Int) (w : World) (hB : Bases w) (hs : s.size ≤ 1000000) (h : baseB b = true) (ht : toldB s b = true) :
    Calls Tryd.prog 28 #[.string s, .int .i64 b] w fun e w' => Told (pv s b s.size) e w' ∧ Below w.heap.size w w' :=
  (parse_any s b w hB hs).mono fun _ _ ⟨h1, h2⟩ => by
    rcases h1 with ⟨h3, _⟩ | ⟨_, h3, _⟩ | ⟨_, _, h3⟩
    · rw [h] at h3; cases h3
    · rw [ht] at h3; cases h3
    · exact ⟨h3, h2⟩
/-- What is laid of a small number: every text under a name. -/
theorem small_facts (n : Int) (h0 : 0 ≤ n) (h1 : n < 18446744073709551616) : ∃ (t1 t2 : ByteArray),
    (∀ (W : World) (v : Value), Num W v n → Calls Tryd.prog 16 #[v] W fun e w' => e = .returned (.string t1) ∧ Below W.heap.size W w') ∧
    (∀ W : World, Calls Tryd.prog 30 #[.string ⟨#[49]⟩, .int .i64 (n / 4294967296), .int .i64 0] W fun e w' => e = .returned (.string t2) ∧ Below W.heap.size W w') ∧
    (∀ W : World, Calls Tryd.prog 31 #[.string t2] W fun e w' => (∃ v, e = .returned v ∧ Num w' v (n / 4294967296)) ∧ Below W.heap.size W w') ∧
    (∀ (W : World) (v : Value), Num W v (n / 4294967296) → Calls Tryd.prog 16 #[v] W fun e w' => e = .returned (.string t2) ∧ Below W.heap.size W w') ∧
    (∀ W : World, Calls Tryd.prog 30 #[.string t2, .int .i64 4294967296, .int .i64 (n % 4294967296)] W fun e w' => e = .returned (.string t1) ∧ Below W.heap.size W w') := by
  have hb : (18446744073709551616 : Int) < big := by unfold big; decide +kernel
  refine ⟨numStr n, numStr (n / 4294967296), fun W v h => reftext_fun h, fun W => ?_, fun W => refnat_small _ W (by omega) (by omega), fun W v h => reftext_fun h, fun W => ?_⟩
  · have := small_fun 1 (n / 4294967296) 0 (n / 4294967296) W (by omega) (by omega) (by omega) (by omega) (by omega) (by omega) (by omega)
    rw [numStr_one] at this
    exact this
  · exact small_fun (n / 4294967296) 4294967296 (n % 4294967296) n W (by omega) (by omega) (by omega) (by omega) (by omega) (by omega) (by omega)
theorem refparse_fun (s : ByteArray) (b : Int) (w : World) (hs : s.size ≤ 400) (b2 : 2 ≤ b) (b16 : b ≤ 16) (ht : toldB s b = true) :
    Calls Tryd.prog 33 #[.string s, .int .i64 b] w fun e w' => e = .returned (.string (numStr (pv s b s.size))) ∧ Below w.heap.size w w' :=
  (refparse_any s b w hs b2 b16 ht).mono fun _ _ ⟨⟨_, h1, h2⟩, h3⟩ => ⟨by rw [h1, h2.eq], h3⟩
theorem pv_big {s : ByteArray} {b : Int} (hs : s.size ≤ 400) (b2 : 2 ≤ b) (b16 : b ≤ 16) (ht : toldB s b = true) : 0 ≤ pv s b s.size ∧ pv s b s.size < big := by
  have h1 := pv_nonneg s b2 s.size
  have h2 := pv_lt s b2 b16 (toldB_iff.1 ht).2 s.size (Nat.le_refl _)
  have h3 := sixteen_big hs
  omega
/-- What the law asks of a number that was parsed. -/
theorem is_told {s : ByteArray} {b : Int} {w : World} {v : Value} {k : Int} (hs : s.size ≤ 400) (b2 : 2 ≤ b) (b16 : b ≤ 16) (ht : toldB s b = true) (h : (k = 0 ∧ Num w v (pv s b s.size)) ∨ (k = 2 ∧ v = .slice none 0 0 ∧ pw 16 ≤ pv s b s.size)) :
    Calls Tryd.prog 18 #[v, .int .i64 k, .string (numStr (pv s b s.size))] w fun e w' => e = .returned (.bool true) ∧ Below w.heap.size w w' := by
  obtain ⟨h1, h2⟩ := pv_big hs b2 b16 ht
  rcases h with ⟨rfl, h⟩ | ⟨rfl, rfl, h⟩
  · exact is_ok v _ _ w (numStr_dec h1) h
  · exact is_over _ _ w (numStr_dec h1) h2 h
theorem low32 (n : Int) (h0 : 0 ≤ n) (h1 : n < 18446744073709551616) : bits BinOp.and IntKind.u64 n 4294967295 = n % 4294967296 := by
  have h := bits_and_u64_nat n.toNat 4294967295 (by omega) (by omega)
  rw [Int.toNat_of_nonneg h0] at h
  have h2 : n.toNat &&& 4294967295 = n.toNat % 4294967296 := Nat.and_two_pow_sub_one_eq_mod n.toNat 32
  rw [h2, show ((4294967295 : Nat) : Int) = 4294967295 from rfl] at h
  rw [h]
  omega
def ToldV (w : World) (v : Value) (k N : Int) : Prop := (k = 0 ∧ Num w v N) ∨ (k = 2 ∧ v = .slice none 0 0 ∧ pw 16 ≤ N)
theorem ToldV.below {w w' : World} {v : Value} {k N : Int} (h : ToldV w v k N) (hb : Below w.heap.size w w') : ToldV w' v k N := by
  rcases h with ⟨h1, h2⟩ | h
  · exact .inl ⟨h1, h2.below hb⟩
  · exact .inr h
theorem Told.vals {N : Int} {e : Ending} {w : World} (h : Told N e w) : ∃ v k, e = .returned (.tuple #[v, .int .i64 k]) ∧ ToldV w v k N := by
  rcases h with ⟨_, v, h1, h2⟩ | ⟨hN, h1⟩
  · exact ⟨v, 0, h1, .inl ⟨rfl, h2⟩⟩
  · exact ⟨_, 2, h1, .inr ⟨rfl, rfl, hN⟩⟩
theorem refsyn_no (s : ByteArray) (b : Int) (w : World) (hs : s.size ≤ 1000000) (hb : b ≤ 16) (ht : toldB s b = false) :
    Calls Tryd.prog 32 #[.string s, .int .i64 b] w fun e w' => e = .returned (.bool false) ∧ w = w' := by
  have := refsyntax_any s b w hs hb
  rw [ht] at this
  exact this
theorem refsyn_yes (s : ByteArray) (b : Int) (w : World) (hs : s.size ≤ 1000000) (hb : b ≤ 16) (ht : toldB s b = true) :
    Calls Tryd.prog 32 #[.string s, .int .i64 b] w fun e w' => e = .returned (.bool true) ∧ w = w' := by
  have := refsyntax_any s b w hs hb
  rw [ht] at this
  exact this

theorem base_not {y : Int} (h : baseB y = false) : (y == 2) = false ∧ (y == 8) = false ∧ (y == 10) = false ∧ (y == 16) = false ∧ (y != 2) = true ∧ (y != 8) = true ∧ (y != 10) = true ∧ (y != 16) = true := by
  unfold baseB at h
  rw [decide_eq_false_iff_not] at h
  refine ⟨?_, ?_, ?_, ?_, ?_, ?_, ?_, ?_⟩ <;> (first | (rw [beq_eq_false_iff_ne]; omega) | (rw [bne_iff_ne]; omega))
theorem base_rng {y : Int} (h : baseB y = true) : 2 ≤ y ∧ y ≤ 16 := by
  rcases baseB_iff.1 h with h | h | h | h <;> omega

set_option maxHeartbeats 100000000 in
set_option maxRecDepth 100000 in
theorem texts_walk (a0 : Option Addr) (len0 cap0 : Nat) (z0 : List Int) (n : Int) (s : ByteArray) (y : Int) (w : World) (w0 : IsRow .u32 w a0 len0 cap0 z0) (h0 : 0 ≤ n) (h1 : n < 18446744073709551616) (ws : s.size ≤ 9223372036854775807) (_y0 : -9223372036854775808 ≤ y) (_y1 : y ≤ 9223372036854775807) (hB : Bases w) :
    Calls Tryd.prog 5 #[.slice a0 len0 cap0, .int .u64 n, .string s, .int .i64 y] w fun e w' => e = .returned (.bool true) ∧ Below w.heap.size w w' := by
  have HF := Lib.hid (few_row a0 len0 cap0 z0 w.drew (by
    rcases w0 with h | ⟨x, h1, hl, hm, hz, hc, hwf⟩
    · exact .inl h
    · exact .inr ⟨x, h1, hl, hm, hz, hc, hwf⟩))
  have hB0 := Lib.hid hB
  obtain ⟨t1, t2, g1, g2, g3, g4, g5⟩ := small_facts n h0 h1
  have F1 := Lib.hid g1
  have F2 := Lib.hid g2
  have F3 := Lib.hid g3
  have F4 := Lib.hid g4
  have F5 := Lib.hid g5
  have hand := low32 n h0 h1
  have hl0 : 0 ≤ n % 4294967296 := by omega
  have hl1 : n % 4294967296 < 4294967296 := by omega
  have htt : (t1.toList != t1.toList) = false := by simp
  have m0 : (0 : Int) ≤ min (s.size : Int) 200 := by omega
  have m1 : min (s.size : Int) 200 ≤ (s.size : Int) := by omega
  have ht : (s.extract 0 (min (s.size : Int) 200).toNat).size ≤ 200 := by rw [ByteArray.size_extract]; omega
  have HT0 := Lib.hid ht
  clear w0 hB g1 g2 g3 g4 g5 ht
  go_enter Tryd.func5, Tryd.ntmps5
  go_wp2_with fail
  go_cut [0, 2] (fun va vs wx => ∃ v xs t, va = v ∧ vs = .string t ∧ Hid (Sl wx v xs) ∧ Hid (t.size ≤ 200) ∧ Hid (Below w.heap.size w wx))
  case first =>
    go_region_held3 (fun _ => True) (trivial) (first | (go_at_call 8; refine HF.out.mono ?_; rintro e w' ⟨⟨v, xs, rfl, hv, -⟩, rfl⟩))
    all_goals
      have HV := Lib.hid hv
      clear hv HF F1 F2 F3 F4 F5
      go_wp2_with fail
      go_meet
      exact ⟨_, xs, _, rfl, rfl, HV, HT0, Lib.hid ((Below.refl _ _).drew)⟩
  case rest =>
    obtain ⟨v, xs, t, rfl, rfl, hv, HT, hbl⟩ := hcut
    have B := hbl.out
    have hB := hB0.out.below B
    have hways := hv.out.ways
    clear hbl hv HF m0 m1 HT0 hB0
    rcases hways with ⟨N, ha⟩ | ha
    · cases hy : baseB y
      · have HY := Lib.hid hy
        obtain ⟨q1, q2, q3, q4, q5, q6, q7, q8⟩ := base_not hy
        clear hy
        have HC := Lib.hid (text_fun ha)
        go_wp2_with fail
        refine HC.out.mono ?_
        rintro e W1 ⟨rfl, bq⟩
        clear HC
        have ha := ha.below bq
        have hB := hB.below bq
        have B := B.trans (bq.mono B.size)
        clear bq
        have HC := Lib.hid (parse_not t y _ hB (by have := HT.out; omega) HY.out)
        go_wp2_with fail
        refine HC.out.mono ?_
        rintro e W2 ⟨rfl, bq⟩
        clear HC
        have ha := ha.below bq
        have hB := hB.below bq
        have B := B.trans (bq.mono B.size)
        clear bq
        have HC := Lib.hid (of_num n W2 h0 h1)
        go_wp2_with fail
        refine HC.out.mono ?_
        rintro e W3 ⟨⟨o, rfl, ho⟩, bq⟩
        clear HC
        have ha := ha.below bq
        have hB := hB.below bq
        have B := B.trans (bq.mono B.size)
        clear bq
        have HC := Lib.hid (right_num ho)
        go_wp2_with fail
        refine HC.out.mono ?_
        rintro e w' ⟨rfl, rfl⟩
        clear HC
        have HC := Lib.hid (F1.out _ _ ho)
        go_wp2_with fail
        refine HC.out.mono ?_
        rintro e W4 ⟨rfl, bq⟩
        clear HC
        have ha := ha.below bq
        have hB := hB.below bq
        have ho := ho.below bq
        have B := B.trans (bq.mono B.size)
        clear bq
        clear ho
        have HC := Lib.hid (F2.out W4)
        go_wp2_with fail
        refine HC.out.mono ?_
        rintro e W5 ⟨rfl, bq⟩
        clear HC
        have ha := ha.below bq
        have hB := hB.below bq
        have B := B.trans (bq.mono B.size)
        clear bq
        have HC := Lib.hid (F3.out W5)
        go_wp2_with fail
        refine HC.out.mono ?_
        rintro e W6 ⟨⟨v2, rfl, h2⟩, bq⟩
        clear HC
        have ha := ha.below bq
        have hB := hB.below bq
        have B := B.trans (bq.mono B.size)
        clear bq
        have HC := Lib.hid (F4.out _ _ h2)
        go_wp2_with fail
        refine HC.out.mono ?_
        rintro e W7 ⟨rfl, bq⟩
        clear HC
        have ha := ha.below bq
        have hB := hB.below bq
        have h2 := h2.below bq
        have B := B.trans (bq.mono B.size)
        clear bq
        clear h2
        have HC := Lib.hid (F5.out W7)
        go_wp2_with fail
        refine HC.out.mono ?_
        rintro e W8 ⟨rfl, bq⟩
        clear HC
        have ha := ha.below bq
        have hB := hB.below bq
        have B := B.trans (bq.mono B.size)
        clear bq
        have HC := Lib.hid (alive_any _ hB)
        go_wp2_with fail
        refine HC.out.mono ?_
        rintro e W9 ⟨rfl, bq⟩
        clear HC
        have ha := ha.below bq
        have hB := hB.below bq
        have B := B.trans (bq.mono B.size)
        clear bq
        clear hB
        have HC := Lib.hid (refright_num ha)
        go_wp2_with fail
        refine HC.out.mono ?_
        rintro e w' ⟨rfl, rfl⟩
        clear HC
        have HC := Lib.hid (refright_num ha)
        go_wp2_with fail
        refine HC.out.mono ?_
        rintro e w' ⟨rfl, rfl⟩
        clear HC
        have HC := Lib.hid (reftext_fun ha)
        go_wp2_with fail
        refine HC.out.mono ?_
        rintro e W10 ⟨rfl, bq⟩
        clear HC
        have ha := ha.below bq
        have B := B.trans (bq.mono B.size)
        clear bq
        clear ha
        go_wp2_with fail
        go_ret
        exact ⟨rfl, B⟩
      · have HY := Lib.hid hy
        have HY2 := Lib.hid (base_rng hy).1
        have HY16 := Lib.hid (base_rng hy).2
        have hb4 := baseB_iff.1 hy
        clear hy
        cases hs : toldB t y
        · have HS := Lib.hid hs
          clear hs
          rcases hb4 with hb4 | hb4 | hb4 | hb4
          · have q0 : (y != 2) = false := by rw [hb4]; rfl
            clear hb4
            have HC := Lib.hid (text_fun ha)
            go_wp2_with fail
            refine HC.out.mono ?_
            rintro e W1 ⟨rfl, bq⟩
            clear HC
            have ha := ha.below bq
            have hB := hB.below bq
            have B := B.trans (bq.mono B.size)
            clear bq
            have HC := Lib.hid (parse_syn t y _ hB (by have := HT.out; omega) HY.out HS.out)
            go_wp2_with fail
            refine HC.out.mono ?_
            rintro e W2 ⟨rfl, bq⟩
            clear HC
            have ha := ha.below bq
            have hB := hB.below bq
            have B := B.trans (bq.mono B.size)
            clear bq
            have HC := Lib.hid (of_num n W2 h0 h1)
            go_wp2_with fail
            refine HC.out.mono ?_
            rintro e W3 ⟨⟨o, rfl, ho⟩, bq⟩
            clear HC
            have ha := ha.below bq
            have hB := hB.below bq
            have B := B.trans (bq.mono B.size)
            clear bq
            have HC := Lib.hid (right_num ho)
            go_wp2_with fail
            refine HC.out.mono ?_
            rintro e w' ⟨rfl, rfl⟩
            clear HC
            have HC := Lib.hid (F1.out _ _ ho)
            go_wp2_with fail
            refine HC.out.mono ?_
            rintro e W4 ⟨rfl, bq⟩
            clear HC
            have ha := ha.below bq
            have hB := hB.below bq
            have ho := ho.below bq
            have B := B.trans (bq.mono B.size)
            clear bq
            clear ho
            have HC := Lib.hid (F2.out W4)
            go_wp2_with fail
            refine HC.out.mono ?_
            rintro e W5 ⟨rfl, bq⟩
            clear HC
            have ha := ha.below bq
            have hB := hB.below bq
            have B := B.trans (bq.mono B.size)
            clear bq
            have HC := Lib.hid (F3.out W5)
            go_wp2_with fail
            refine HC.out.mono ?_
            rintro e W6 ⟨⟨v2, rfl, h2⟩, bq⟩
            clear HC
            have ha := ha.below bq
            have hB := hB.below bq
            have B := B.trans (bq.mono B.size)
            clear bq
            have HC := Lib.hid (F4.out _ _ h2)
            go_wp2_with fail
            refine HC.out.mono ?_
            rintro e W7 ⟨rfl, bq⟩
            clear HC
            have ha := ha.below bq
            have hB := hB.below bq
            have h2 := h2.below bq
            have B := B.trans (bq.mono B.size)
            clear bq
            clear h2
            have HC := Lib.hid (F5.out W7)
            go_wp2_with fail
            refine HC.out.mono ?_
            rintro e W8 ⟨rfl, bq⟩
            clear HC
            have ha := ha.below bq
            have hB := hB.below bq
            have B := B.trans (bq.mono B.size)
            clear bq
            have HC := Lib.hid (alive_any _ hB)
            go_wp2_with fail
            refine HC.out.mono ?_
            rintro e W9 ⟨rfl, bq⟩
            clear HC
            have ha := ha.below bq
            have hB := hB.below bq
            have B := B.trans (bq.mono B.size)
            clear bq
            clear hB
            have HC := Lib.hid (refright_num ha)
            go_wp2_with fail
            refine HC.out.mono ?_
            rintro e w' ⟨rfl, rfl⟩
            clear HC
            have HC := Lib.hid (refright_num ha)
            go_wp2_with fail
            refine HC.out.mono ?_
            rintro e w' ⟨rfl, rfl⟩
            clear HC
            have HC := Lib.hid (reftext_fun ha)
            go_wp2_with fail
            refine HC.out.mono ?_
            rintro e W10 ⟨rfl, bq⟩
            clear HC
            have ha := ha.below bq
            have B := B.trans (bq.mono B.size)
            clear bq
            clear ha
            have HC := Lib.hid (refsyn_no t y W10 (by have := HT.out; omega) (by have := HY16.out; omega) HS.out)
            go_wp2_with fail
            refine HC.out.mono ?_
            rintro e w' ⟨rfl, rfl⟩
            clear HC
            go_wp2_with fail
            go_ret
            exact ⟨rfl, B⟩
          · have q0 : (y != 2) = true := by rw [hb4]; rfl
            have q1 : (y != 8) = false := by rw [hb4]; rfl
            clear hb4
            have HC := Lib.hid (text_fun ha)
            go_wp2_with fail
            refine HC.out.mono ?_
            rintro e W1 ⟨rfl, bq⟩
            clear HC
            have ha := ha.below bq
            have hB := hB.below bq
            have B := B.trans (bq.mono B.size)
            clear bq
            have HC := Lib.hid (parse_syn t y _ hB (by have := HT.out; omega) HY.out HS.out)
            go_wp2_with fail
            refine HC.out.mono ?_
            rintro e W2 ⟨rfl, bq⟩
            clear HC
            have ha := ha.below bq
            have hB := hB.below bq
            have B := B.trans (bq.mono B.size)
            clear bq
            have HC := Lib.hid (of_num n W2 h0 h1)
            go_wp2_with fail
            refine HC.out.mono ?_
            rintro e W3 ⟨⟨o, rfl, ho⟩, bq⟩
            clear HC
            have ha := ha.below bq
            have hB := hB.below bq
            have B := B.trans (bq.mono B.size)
            clear bq
            have HC := Lib.hid (right_num ho)
            go_wp2_with fail
            refine HC.out.mono ?_
            rintro e w' ⟨rfl, rfl⟩
            clear HC
            have HC := Lib.hid (F1.out _ _ ho)
            go_wp2_with fail
            refine HC.out.mono ?_
            rintro e W4 ⟨rfl, bq⟩
            clear HC
            have ha := ha.below bq
            have hB := hB.below bq
            have ho := ho.below bq
            have B := B.trans (bq.mono B.size)
            clear bq
            clear ho
            have HC := Lib.hid (F2.out W4)
            go_wp2_with fail
            refine HC.out.mono ?_
            rintro e W5 ⟨rfl, bq⟩
            clear HC
            have ha := ha.below bq
            have hB := hB.below bq
            have B := B.trans (bq.mono B.size)
            clear bq
            have HC := Lib.hid (F3.out W5)
            go_wp2_with fail
            refine HC.out.mono ?_
            rintro e W6 ⟨⟨v2, rfl, h2⟩, bq⟩
            clear HC
            have ha := ha.below bq
            have hB := hB.below bq
            have B := B.trans (bq.mono B.size)
            clear bq
            have HC := Lib.hid (F4.out _ _ h2)
            go_wp2_with fail
            refine HC.out.mono ?_
            rintro e W7 ⟨rfl, bq⟩
            clear HC
            have ha := ha.below bq
            have hB := hB.below bq
            have h2 := h2.below bq
            have B := B.trans (bq.mono B.size)
            clear bq
            clear h2
            have HC := Lib.hid (F5.out W7)
            go_wp2_with fail
            refine HC.out.mono ?_
            rintro e W8 ⟨rfl, bq⟩
            clear HC
            have ha := ha.below bq
            have hB := hB.below bq
            have B := B.trans (bq.mono B.size)
            clear bq
            have HC := Lib.hid (alive_any _ hB)
            go_wp2_with fail
            refine HC.out.mono ?_
            rintro e W9 ⟨rfl, bq⟩
            clear HC
            have ha := ha.below bq
            have hB := hB.below bq
            have B := B.trans (bq.mono B.size)
            clear bq
            clear hB
            have HC := Lib.hid (refright_num ha)
            go_wp2_with fail
            refine HC.out.mono ?_
            rintro e w' ⟨rfl, rfl⟩
            clear HC
            have HC := Lib.hid (refright_num ha)
            go_wp2_with fail
            refine HC.out.mono ?_
            rintro e w' ⟨rfl, rfl⟩
            clear HC
            have HC := Lib.hid (reftext_fun ha)
            go_wp2_with fail
            refine HC.out.mono ?_
            rintro e W10 ⟨rfl, bq⟩
            clear HC
            have ha := ha.below bq
            have B := B.trans (bq.mono B.size)
            clear bq
            clear ha
            have HC := Lib.hid (refsyn_no t y W10 (by have := HT.out; omega) (by have := HY16.out; omega) HS.out)
            go_wp2_with fail
            refine HC.out.mono ?_
            rintro e w' ⟨rfl, rfl⟩
            clear HC
            go_wp2_with fail
            go_ret
            exact ⟨rfl, B⟩
          · have q0 : (y != 2) = true := by rw [hb4]; rfl
            have q1 : (y != 8) = true := by rw [hb4]; rfl
            have q2 : (y != 10) = false := by rw [hb4]; rfl
            clear hb4
            have HC := Lib.hid (text_fun ha)
            go_wp2_with fail
            refine HC.out.mono ?_
            rintro e W1 ⟨rfl, bq⟩
            clear HC
            have ha := ha.below bq
            have hB := hB.below bq
            have B := B.trans (bq.mono B.size)
            clear bq
            have HC := Lib.hid (parse_syn t y _ hB (by have := HT.out; omega) HY.out HS.out)
            go_wp2_with fail
            refine HC.out.mono ?_
            rintro e W2 ⟨rfl, bq⟩
            clear HC
            have ha := ha.below bq
            have hB := hB.below bq
            have B := B.trans (bq.mono B.size)
            clear bq
            have HC := Lib.hid (of_num n W2 h0 h1)
            go_wp2_with fail
            refine HC.out.mono ?_
            rintro e W3 ⟨⟨o, rfl, ho⟩, bq⟩
            clear HC
            have ha := ha.below bq
            have hB := hB.below bq
            have B := B.trans (bq.mono B.size)
            clear bq
            have HC := Lib.hid (right_num ho)
            go_wp2_with fail
            refine HC.out.mono ?_
            rintro e w' ⟨rfl, rfl⟩
            clear HC
            have HC := Lib.hid (F1.out _ _ ho)
            go_wp2_with fail
            refine HC.out.mono ?_
            rintro e W4 ⟨rfl, bq⟩
            clear HC
            have ha := ha.below bq
            have hB := hB.below bq
            have ho := ho.below bq
            have B := B.trans (bq.mono B.size)
            clear bq
            clear ho
            have HC := Lib.hid (F2.out W4)
            go_wp2_with fail
            refine HC.out.mono ?_
            rintro e W5 ⟨rfl, bq⟩
            clear HC
            have ha := ha.below bq
            have hB := hB.below bq
            have B := B.trans (bq.mono B.size)
            clear bq
            have HC := Lib.hid (F3.out W5)
            go_wp2_with fail
            refine HC.out.mono ?_
            rintro e W6 ⟨⟨v2, rfl, h2⟩, bq⟩
            clear HC
            have ha := ha.below bq
            have hB := hB.below bq
            have B := B.trans (bq.mono B.size)
            clear bq
            have HC := Lib.hid (F4.out _ _ h2)
            go_wp2_with fail
            refine HC.out.mono ?_
            rintro e W7 ⟨rfl, bq⟩
            clear HC
            have ha := ha.below bq
            have hB := hB.below bq
            have h2 := h2.below bq
            have B := B.trans (bq.mono B.size)
            clear bq
            clear h2
            have HC := Lib.hid (F5.out W7)
            go_wp2_with fail
            refine HC.out.mono ?_
            rintro e W8 ⟨rfl, bq⟩
            clear HC
            have ha := ha.below bq
            have hB := hB.below bq
            have B := B.trans (bq.mono B.size)
            clear bq
            have HC := Lib.hid (alive_any _ hB)
            go_wp2_with fail
            refine HC.out.mono ?_
            rintro e W9 ⟨rfl, bq⟩
            clear HC
            have ha := ha.below bq
            have hB := hB.below bq
            have B := B.trans (bq.mono B.size)
            clear bq
            clear hB
            have HC := Lib.hid (refright_num ha)
            go_wp2_with fail
            refine HC.out.mono ?_
            rintro e w' ⟨rfl, rfl⟩
            clear HC
            have HC := Lib.hid (refright_num ha)
            go_wp2_with fail
            refine HC.out.mono ?_
            rintro e w' ⟨rfl, rfl⟩
            clear HC
            have HC := Lib.hid (reftext_fun ha)
            go_wp2_with fail
            refine HC.out.mono ?_
            rintro e W10 ⟨rfl, bq⟩
            clear HC
            have ha := ha.below bq
            have B := B.trans (bq.mono B.size)
            clear bq
            clear ha
            have HC := Lib.hid (refsyn_no t y W10 (by have := HT.out; omega) (by have := HY16.out; omega) HS.out)
            go_wp2_with fail
            refine HC.out.mono ?_
            rintro e w' ⟨rfl, rfl⟩
            clear HC
            go_wp2_with fail
            go_ret
            exact ⟨rfl, B⟩
          · have q0 : (y != 2) = true := by rw [hb4]; rfl
            have q1 : (y != 8) = true := by rw [hb4]; rfl
            have q2 : (y != 10) = true := by rw [hb4]; rfl
            have q3 : (y != 16) = false := by rw [hb4]; rfl
            clear hb4
            have HC := Lib.hid (text_fun ha)
            go_wp2_with fail
            refine HC.out.mono ?_
            rintro e W1 ⟨rfl, bq⟩
            clear HC
            have ha := ha.below bq
            have hB := hB.below bq
            have B := B.trans (bq.mono B.size)
            clear bq
            have HC := Lib.hid (parse_syn t y _ hB (by have := HT.out; omega) HY.out HS.out)
            go_wp2_with fail
            refine HC.out.mono ?_
            rintro e W2 ⟨rfl, bq⟩
            clear HC
            have ha := ha.below bq
            have hB := hB.below bq
            have B := B.trans (bq.mono B.size)
            clear bq
            have HC := Lib.hid (of_num n W2 h0 h1)
            go_wp2_with fail
            refine HC.out.mono ?_
            rintro e W3 ⟨⟨o, rfl, ho⟩, bq⟩
            clear HC
            have ha := ha.below bq
            have hB := hB.below bq
            have B := B.trans (bq.mono B.size)
            clear bq
            have HC := Lib.hid (right_num ho)
            go_wp2_with fail
            refine HC.out.mono ?_
            rintro e w' ⟨rfl, rfl⟩
            clear HC
            have HC := Lib.hid (F1.out _ _ ho)
            go_wp2_with fail
            refine HC.out.mono ?_
            rintro e W4 ⟨rfl, bq⟩
            clear HC
            have ha := ha.below bq
            have hB := hB.below bq
            have ho := ho.below bq
            have B := B.trans (bq.mono B.size)
            clear bq
            clear ho
            have HC := Lib.hid (F2.out W4)
            go_wp2_with fail
            refine HC.out.mono ?_
            rintro e W5 ⟨rfl, bq⟩
            clear HC
            have ha := ha.below bq
            have hB := hB.below bq
            have B := B.trans (bq.mono B.size)
            clear bq
            have HC := Lib.hid (F3.out W5)
            go_wp2_with fail
            refine HC.out.mono ?_
            rintro e W6 ⟨⟨v2, rfl, h2⟩, bq⟩
            clear HC
            have ha := ha.below bq
            have hB := hB.below bq
            have B := B.trans (bq.mono B.size)
            clear bq
            have HC := Lib.hid (F4.out _ _ h2)
            go_wp2_with fail
            refine HC.out.mono ?_
            rintro e W7 ⟨rfl, bq⟩
            clear HC
            have ha := ha.below bq
            have hB := hB.below bq
            have h2 := h2.below bq
            have B := B.trans (bq.mono B.size)
            clear bq
            clear h2
            have HC := Lib.hid (F5.out W7)
            go_wp2_with fail
            refine HC.out.mono ?_
            rintro e W8 ⟨rfl, bq⟩
            clear HC
            have ha := ha.below bq
            have hB := hB.below bq
            have B := B.trans (bq.mono B.size)
            clear bq
            have HC := Lib.hid (alive_any _ hB)
            go_wp2_with fail
            refine HC.out.mono ?_
            rintro e W9 ⟨rfl, bq⟩
            clear HC
            have ha := ha.below bq
            have hB := hB.below bq
            have B := B.trans (bq.mono B.size)
            clear bq
            clear hB
            have HC := Lib.hid (refright_num ha)
            go_wp2_with fail
            refine HC.out.mono ?_
            rintro e w' ⟨rfl, rfl⟩
            clear HC
            have HC := Lib.hid (refright_num ha)
            go_wp2_with fail
            refine HC.out.mono ?_
            rintro e w' ⟨rfl, rfl⟩
            clear HC
            have HC := Lib.hid (reftext_fun ha)
            go_wp2_with fail
            refine HC.out.mono ?_
            rintro e W10 ⟨rfl, bq⟩
            clear HC
            have ha := ha.below bq
            have B := B.trans (bq.mono B.size)
            clear bq
            clear ha
            have HC := Lib.hid (refsyn_no t y W10 (by have := HT.out; omega) (by have := HY16.out; omega) HS.out)
            go_wp2_with fail
            refine HC.out.mono ?_
            rintro e w' ⟨rfl, rfl⟩
            clear HC
            go_wp2_with fail
            go_ret
            exact ⟨rfl, B⟩
        · have HS := Lib.hid hs
          clear hs
          rcases hb4 with hb4 | hb4 | hb4 | hb4
          · have q0 : (y != 2) = false := by rw [hb4]; rfl
            clear hb4
            have HC := Lib.hid (text_fun ha)
            go_wp2_with fail
            refine HC.out.mono ?_
            rintro e W1 ⟨rfl, bq⟩
            clear HC
            have ha := ha.below bq
            have hB := hB.below bq
            have B := B.trans (bq.mono B.size)
            clear bq
            have HC := Lib.hid (parse_told t y _ hB (by have := HT.out; omega) HY.out HS.out)
            go_wp2_with fail
            refine HC.out.mono ?_
            rintro e W2 ⟨hk, bq⟩
            clear HC
            have ha := ha.below bq
            have hB := hB.below bq
            have B := B.trans (bq.mono B.size)
            clear bq
            obtain ⟨px, pk, rfl, hp⟩ := hk.vals
            have HC := Lib.hid (of_num n W2 h0 h1)
            go_wp2_with fail
            refine HC.out.mono ?_
            rintro e W3 ⟨⟨o, rfl, ho⟩, bq⟩
            clear HC
            have ha := ha.below bq
            have hB := hB.below bq
            have hp := hp.below bq
            have B := B.trans (bq.mono B.size)
            clear bq
            have HC := Lib.hid (right_num ho)
            go_wp2_with fail
            refine HC.out.mono ?_
            rintro e w' ⟨rfl, rfl⟩
            clear HC
            have HC := Lib.hid (F1.out _ _ ho)
            go_wp2_with fail
            refine HC.out.mono ?_
            rintro e W4 ⟨rfl, bq⟩
            clear HC
            have ha := ha.below bq
            have hB := hB.below bq
            have hp := hp.below bq
            have ho := ho.below bq
            have B := B.trans (bq.mono B.size)
            clear bq
            clear ho
            have HC := Lib.hid (F2.out W4)
            go_wp2_with fail
            refine HC.out.mono ?_
            rintro e W5 ⟨rfl, bq⟩
            clear HC
            have ha := ha.below bq
            have hB := hB.below bq
            have hp := hp.below bq
            have B := B.trans (bq.mono B.size)
            clear bq
            have HC := Lib.hid (F3.out W5)
            go_wp2_with fail
            refine HC.out.mono ?_
            rintro e W6 ⟨⟨v2, rfl, h2⟩, bq⟩
            clear HC
            have ha := ha.below bq
            have hB := hB.below bq
            have hp := hp.below bq
            have B := B.trans (bq.mono B.size)
            clear bq
            have HC := Lib.hid (F4.out _ _ h2)
            go_wp2_with fail
            refine HC.out.mono ?_
            rintro e W7 ⟨rfl, bq⟩
            clear HC
            have ha := ha.below bq
            have hB := hB.below bq
            have hp := hp.below bq
            have h2 := h2.below bq
            have B := B.trans (bq.mono B.size)
            clear bq
            clear h2
            have HC := Lib.hid (F5.out W7)
            go_wp2_with fail
            refine HC.out.mono ?_
            rintro e W8 ⟨rfl, bq⟩
            clear HC
            have ha := ha.below bq
            have hB := hB.below bq
            have hp := hp.below bq
            have B := B.trans (bq.mono B.size)
            clear bq
            have HC := Lib.hid (alive_any _ hB)
            go_wp2_with fail
            refine HC.out.mono ?_
            rintro e W9 ⟨rfl, bq⟩
            clear HC
            have ha := ha.below bq
            have hB := hB.below bq
            have hp := hp.below bq
            have B := B.trans (bq.mono B.size)
            clear bq
            clear hB
            have HC := Lib.hid (refright_num ha)
            go_wp2_with fail
            refine HC.out.mono ?_
            rintro e w' ⟨rfl, rfl⟩
            clear HC
            have HC := Lib.hid (refright_num ha)
            go_wp2_with fail
            refine HC.out.mono ?_
            rintro e w' ⟨rfl, rfl⟩
            clear HC
            have HC := Lib.hid (reftext_fun ha)
            go_wp2_with fail
            refine HC.out.mono ?_
            rintro e W10 ⟨rfl, bq⟩
            clear HC
            have ha := ha.below bq
            have hp := hp.below bq
            have B := B.trans (bq.mono B.size)
            clear bq
            clear ha
            have HC := Lib.hid (refsyn_yes t y W10 (by have := HT.out; omega) (by have := HY16.out; omega) HS.out)
            go_wp2_with fail
            refine HC.out.mono ?_
            rintro e w' ⟨rfl, rfl⟩
            clear HC
            have HC := Lib.hid (refparse_fun t y W10 (by have := HT.out; omega) HY2.out HY16.out HS.out)
            go_wp2_with fail
            refine HC.out.mono ?_
            rintro e W11 ⟨rfl, bq⟩
            clear HC
            have hp := hp.below bq
            have B := B.trans (bq.mono B.size)
            clear bq
            have HC := Lib.hid (is_told (by have := HT.out; omega) HY2.out HY16.out HS.out hp)
            go_wp2_with fail
            refine HC.out.mono ?_
            rintro e W12 ⟨rfl, bq⟩
            clear HC
            have hp := hp.below bq
            have B := B.trans (bq.mono B.size)
            clear bq
            go_wp2_with fail
            go_ret
            exact ⟨rfl, B⟩
          · have q0 : (y != 2) = true := by rw [hb4]; rfl
            have q1 : (y != 8) = false := by rw [hb4]; rfl
            clear hb4
            have HC := Lib.hid (text_fun ha)
            go_wp2_with fail
            refine HC.out.mono ?_
            rintro e W1 ⟨rfl, bq⟩
            clear HC
            have ha := ha.below bq
            have hB := hB.below bq
            have B := B.trans (bq.mono B.size)
            clear bq
            have HC := Lib.hid (parse_told t y _ hB (by have := HT.out; omega) HY.out HS.out)
            go_wp2_with fail
            refine HC.out.mono ?_
            rintro e W2 ⟨hk, bq⟩
            clear HC
            have ha := ha.below bq
            have hB := hB.below bq
            have B := B.trans (bq.mono B.size)
            clear bq
            obtain ⟨px, pk, rfl, hp⟩ := hk.vals
            have HC := Lib.hid (of_num n W2 h0 h1)
            go_wp2_with fail
            refine HC.out.mono ?_
            rintro e W3 ⟨⟨o, rfl, ho⟩, bq⟩
            clear HC
            have ha := ha.below bq
            have hB := hB.below bq
            have hp := hp.below bq
            have B := B.trans (bq.mono B.size)
            clear bq
            have HC := Lib.hid (right_num ho)
            go_wp2_with fail
            refine HC.out.mono ?_
            rintro e w' ⟨rfl, rfl⟩
            clear HC
            have HC := Lib.hid (F1.out _ _ ho)
            go_wp2_with fail
            refine HC.out.mono ?_
            rintro e W4 ⟨rfl, bq⟩
            clear HC
            have ha := ha.below bq
            have hB := hB.below bq
            have hp := hp.below bq
            have ho := ho.below bq
            have B := B.trans (bq.mono B.size)
            clear bq
            clear ho
            have HC := Lib.hid (F2.out W4)
            go_wp2_with fail
            refine HC.out.mono ?_
            rintro e W5 ⟨rfl, bq⟩
            clear HC
            have ha := ha.below bq
            have hB := hB.below bq
            have hp := hp.below bq
            have B := B.trans (bq.mono B.size)
            clear bq
            have HC := Lib.hid (F3.out W5)
            go_wp2_with fail
            refine HC.out.mono ?_
            rintro e W6 ⟨⟨v2, rfl, h2⟩, bq⟩
            clear HC
            have ha := ha.below bq
            have hB := hB.below bq
            have hp := hp.below bq
            have B := B.trans (bq.mono B.size)
            clear bq
            have HC := Lib.hid (F4.out _ _ h2)
            go_wp2_with fail
            refine HC.out.mono ?_
            rintro e W7 ⟨rfl, bq⟩
            clear HC
            have ha := ha.below bq
            have hB := hB.below bq
            have hp := hp.below bq
            have h2 := h2.below bq
            have B := B.trans (bq.mono B.size)
            clear bq
            clear h2
            have HC := Lib.hid (F5.out W7)
            go_wp2_with fail
            refine HC.out.mono ?_
            rintro e W8 ⟨rfl, bq⟩
            clear HC
            have ha := ha.below bq
            have hB := hB.below bq
            have hp := hp.below bq
            have B := B.trans (bq.mono B.size)
            clear bq
            have HC := Lib.hid (alive_any _ hB)
            go_wp2_with fail
            refine HC.out.mono ?_
            rintro e W9 ⟨rfl, bq⟩
            clear HC
            have ha := ha.below bq
            have hB := hB.below bq
            have hp := hp.below bq
            have B := B.trans (bq.mono B.size)
            clear bq
            clear hB
            have HC := Lib.hid (refright_num ha)
            go_wp2_with fail
            refine HC.out.mono ?_
            rintro e w' ⟨rfl, rfl⟩
            clear HC
            have HC := Lib.hid (refright_num ha)
            go_wp2_with fail
            refine HC.out.mono ?_
            rintro e w' ⟨rfl, rfl⟩
            clear HC
            have HC := Lib.hid (reftext_fun ha)
            go_wp2_with fail
            refine HC.out.mono ?_
            rintro e W10 ⟨rfl, bq⟩
            clear HC
            have ha := ha.below bq
            have hp := hp.below bq
            have B := B.trans (bq.mono B.size)
            clear bq
            clear ha
            have HC := Lib.hid (refsyn_yes t y W10 (by have := HT.out; omega) (by have := HY16.out; omega) HS.out)
            go_wp2_with fail
            refine HC.out.mono ?_
            rintro e w' ⟨rfl, rfl⟩
            clear HC
            have HC := Lib.hid (refparse_fun t y W10 (by have := HT.out; omega) HY2.out HY16.out HS.out)
            go_wp2_with fail
            refine HC.out.mono ?_
            rintro e W11 ⟨rfl, bq⟩
            clear HC
            have hp := hp.below bq
            have B := B.trans (bq.mono B.size)
            clear bq
            have HC := Lib.hid (is_told (by have := HT.out; omega) HY2.out HY16.out HS.out hp)
            go_wp2_with fail
            refine HC.out.mono ?_
            rintro e W12 ⟨rfl, bq⟩
            clear HC
            have hp := hp.below bq
            have B := B.trans (bq.mono B.size)
            clear bq
            go_wp2_with fail
            go_ret
            exact ⟨rfl, B⟩
          · have q0 : (y != 2) = true := by rw [hb4]; rfl
            have q1 : (y != 8) = true := by rw [hb4]; rfl
            have q2 : (y != 10) = false := by rw [hb4]; rfl
            clear hb4
            have HC := Lib.hid (text_fun ha)
            go_wp2_with fail
            refine HC.out.mono ?_
            rintro e W1 ⟨rfl, bq⟩
            clear HC
            have ha := ha.below bq
            have hB := hB.below bq
            have B := B.trans (bq.mono B.size)
            clear bq
            have HC := Lib.hid (parse_told t y _ hB (by have := HT.out; omega) HY.out HS.out)
            go_wp2_with fail
            refine HC.out.mono ?_
            rintro e W2 ⟨hk, bq⟩
            clear HC
            have ha := ha.below bq
            have hB := hB.below bq
            have B := B.trans (bq.mono B.size)
            clear bq
            obtain ⟨px, pk, rfl, hp⟩ := hk.vals
            have HC := Lib.hid (of_num n W2 h0 h1)
            go_wp2_with fail
            refine HC.out.mono ?_
            rintro e W3 ⟨⟨o, rfl, ho⟩, bq⟩
            clear HC
            have ha := ha.below bq
            have hB := hB.below bq
            have hp := hp.below bq
            have B := B.trans (bq.mono B.size)
            clear bq
            have HC := Lib.hid (right_num ho)
            go_wp2_with fail
            refine HC.out.mono ?_
            rintro e w' ⟨rfl, rfl⟩
            clear HC
            have HC := Lib.hid (F1.out _ _ ho)
            go_wp2_with fail
            refine HC.out.mono ?_
            rintro e W4 ⟨rfl, bq⟩
            clear HC
            have ha := ha.below bq
            have hB := hB.below bq
            have hp := hp.below bq
            have ho := ho.below bq
            have B := B.trans (bq.mono B.size)
            clear bq
            clear ho
            have HC := Lib.hid (F2.out W4)
            go_wp2_with fail
            refine HC.out.mono ?_
            rintro e W5 ⟨rfl, bq⟩
            clear HC
            have ha := ha.below bq
            have hB := hB.below bq
            have hp := hp.below bq
            have B := B.trans (bq.mono B.size)
            clear bq
            have HC := Lib.hid (F3.out W5)
            go_wp2_with fail
            refine HC.out.mono ?_
            rintro e W6 ⟨⟨v2, rfl, h2⟩, bq⟩
            clear HC
            have ha := ha.below bq
            have hB := hB.below bq
            have hp := hp.below bq
            have B := B.trans (bq.mono B.size)
            clear bq
            have HC := Lib.hid (F4.out _ _ h2)
            go_wp2_with fail
            refine HC.out.mono ?_
            rintro e W7 ⟨rfl, bq⟩
            clear HC
            have ha := ha.below bq
            have hB := hB.below bq
            have hp := hp.below bq
            have h2 := h2.below bq
            have B := B.trans (bq.mono B.size)
            clear bq
            clear h2
            have HC := Lib.hid (F5.out W7)
            go_wp2_with fail
            refine HC.out.mono ?_
            rintro e W8 ⟨rfl, bq⟩
            clear HC
            have ha := ha.below bq
            have hB := hB.below bq
            have hp := hp.below bq
            have B := B.trans (bq.mono B.size)
            clear bq
            have HC := Lib.hid (alive_any _ hB)
            go_wp2_with fail
            refine HC.out.mono ?_
            rintro e W9 ⟨rfl, bq⟩
            clear HC
            have ha := ha.below bq
            have hB := hB.below bq
            have hp := hp.below bq
            have B := B.trans (bq.mono B.size)
            clear bq
            clear hB
            have HC := Lib.hid (refright_num ha)
            go_wp2_with fail
            refine HC.out.mono ?_
            rintro e w' ⟨rfl, rfl⟩
            clear HC
            have HC := Lib.hid (refright_num ha)
            go_wp2_with fail
            refine HC.out.mono ?_
            rintro e w' ⟨rfl, rfl⟩
            clear HC
            have HC := Lib.hid (reftext_fun ha)
            go_wp2_with fail
            refine HC.out.mono ?_
            rintro e W10 ⟨rfl, bq⟩
            clear HC
            have ha := ha.below bq
            have hp := hp.below bq
            have B := B.trans (bq.mono B.size)
            clear bq
            clear ha
            have HC := Lib.hid (refsyn_yes t y W10 (by have := HT.out; omega) (by have := HY16.out; omega) HS.out)
            go_wp2_with fail
            refine HC.out.mono ?_
            rintro e w' ⟨rfl, rfl⟩
            clear HC
            have HC := Lib.hid (refparse_fun t y W10 (by have := HT.out; omega) HY2.out HY16.out HS.out)
            go_wp2_with fail
            refine HC.out.mono ?_
            rintro e W11 ⟨rfl, bq⟩
            clear HC
            have hp := hp.below bq
            have B := B.trans (bq.mono B.size)
            clear bq
            have HC := Lib.hid (is_told (by have := HT.out; omega) HY2.out HY16.out HS.out hp)
            go_wp2_with fail
            refine HC.out.mono ?_
            rintro e W12 ⟨rfl, bq⟩
            clear HC
            have hp := hp.below bq
            have B := B.trans (bq.mono B.size)
            clear bq
            go_wp2_with fail
            go_ret
            exact ⟨rfl, B⟩
          · have q0 : (y != 2) = true := by rw [hb4]; rfl
            have q1 : (y != 8) = true := by rw [hb4]; rfl
            have q2 : (y != 10) = true := by rw [hb4]; rfl
            have q3 : (y != 16) = false := by rw [hb4]; rfl
            clear hb4
            have HC := Lib.hid (text_fun ha)
            go_wp2_with fail
            refine HC.out.mono ?_
            rintro e W1 ⟨rfl, bq⟩
            clear HC
            have ha := ha.below bq
            have hB := hB.below bq
            have B := B.trans (bq.mono B.size)
            clear bq
            have HC := Lib.hid (parse_told t y _ hB (by have := HT.out; omega) HY.out HS.out)
            go_wp2_with fail
            refine HC.out.mono ?_
            rintro e W2 ⟨hk, bq⟩
            clear HC
            have ha := ha.below bq
            have hB := hB.below bq
            have B := B.trans (bq.mono B.size)
            clear bq
            obtain ⟨px, pk, rfl, hp⟩ := hk.vals
            have HC := Lib.hid (of_num n W2 h0 h1)
            go_wp2_with fail
            refine HC.out.mono ?_
            rintro e W3 ⟨⟨o, rfl, ho⟩, bq⟩
            clear HC
            have ha := ha.below bq
            have hB := hB.below bq
            have hp := hp.below bq
            have B := B.trans (bq.mono B.size)
            clear bq
            have HC := Lib.hid (right_num ho)
            go_wp2_with fail
            refine HC.out.mono ?_
            rintro e w' ⟨rfl, rfl⟩
            clear HC
            have HC := Lib.hid (F1.out _ _ ho)
            go_wp2_with fail
            refine HC.out.mono ?_
            rintro e W4 ⟨rfl, bq⟩
            clear HC
            have ha := ha.below bq
            have hB := hB.below bq
            have hp := hp.below bq
            have ho := ho.below bq
            have B := B.trans (bq.mono B.size)
            clear bq
            clear ho
            have HC := Lib.hid (F2.out W4)
            go_wp2_with fail
            refine HC.out.mono ?_
            rintro e W5 ⟨rfl, bq⟩
            clear HC
            have ha := ha.below bq
            have hB := hB.below bq
            have hp := hp.below bq
            have B := B.trans (bq.mono B.size)
            clear bq
            have HC := Lib.hid (F3.out W5)
            go_wp2_with fail
            refine HC.out.mono ?_
            rintro e W6 ⟨⟨v2, rfl, h2⟩, bq⟩
            clear HC
            have ha := ha.below bq
            have hB := hB.below bq
            have hp := hp.below bq
            have B := B.trans (bq.mono B.size)
            clear bq
            have HC := Lib.hid (F4.out _ _ h2)
            go_wp2_with fail
            refine HC.out.mono ?_
            rintro e W7 ⟨rfl, bq⟩
            clear HC
            have ha := ha.below bq
            have hB := hB.below bq
            have hp := hp.below bq
            have h2 := h2.below bq
            have B := B.trans (bq.mono B.size)
            clear bq
            clear h2
            have HC := Lib.hid (F5.out W7)
            go_wp2_with fail
            refine HC.out.mono ?_
            rintro e W8 ⟨rfl, bq⟩
            clear HC
            have ha := ha.below bq
            have hB := hB.below bq
            have hp := hp.below bq
            have B := B.trans (bq.mono B.size)
            clear bq
            have HC := Lib.hid (alive_any _ hB)
            go_wp2_with fail
            refine HC.out.mono ?_
            rintro e W9 ⟨rfl, bq⟩
            clear HC
            have ha := ha.below bq
            have hB := hB.below bq
            have hp := hp.below bq
            have B := B.trans (bq.mono B.size)
            clear bq
            clear hB
            have HC := Lib.hid (refright_num ha)
            go_wp2_with fail
            refine HC.out.mono ?_
            rintro e w' ⟨rfl, rfl⟩
            clear HC
            have HC := Lib.hid (refright_num ha)
            go_wp2_with fail
            refine HC.out.mono ?_
            rintro e w' ⟨rfl, rfl⟩
            clear HC
            have HC := Lib.hid (reftext_fun ha)
            go_wp2_with fail
            refine HC.out.mono ?_
            rintro e W10 ⟨rfl, bq⟩
            clear HC
            have ha := ha.below bq
            have hp := hp.below bq
            have B := B.trans (bq.mono B.size)
            clear bq
            clear ha
            have HC := Lib.hid (refsyn_yes t y W10 (by have := HT.out; omega) (by have := HY16.out; omega) HS.out)
            go_wp2_with fail
            refine HC.out.mono ?_
            rintro e w' ⟨rfl, rfl⟩
            clear HC
            have HC := Lib.hid (refparse_fun t y W10 (by have := HT.out; omega) HY2.out HY16.out HS.out)
            go_wp2_with fail
            refine HC.out.mono ?_
            rintro e W11 ⟨rfl, bq⟩
            clear HC
            have hp := hp.below bq
            have B := B.trans (bq.mono B.size)
            clear bq
            have HC := Lib.hid (is_told (by have := HT.out; omega) HY2.out HY16.out HS.out hp)
            go_wp2_with fail
            refine HC.out.mono ?_
            rintro e W12 ⟨rfl, bq⟩
            clear HC
            have hp := hp.below bq
            have B := B.trans (bq.mono B.size)
            clear bq
            go_wp2_with fail
            go_ret
            exact ⟨rfl, B⟩
    · cases hy : baseB y
      · have HY := Lib.hid hy
        obtain ⟨q1, q2, q3, q4, q5, q6, q7, q8⟩ := base_not hy
        clear hy
        have HC := Lib.hid (text_bad _ _ ha)
        go_wp2_with fail
        refine HC.out.mono ?_
        rintro e w' ⟨rfl, rfl⟩
        clear HC
        have HC := Lib.hid (parse_not t y _ hB (by have := HT.out; omega) HY.out)
        go_wp2_with fail
        refine HC.out.mono ?_
        rintro e W1 ⟨rfl, bq⟩
        clear HC
        have ha := ha.below bq
        have hB := hB.below bq
        have B := B.trans (bq.mono B.size)
        clear bq
        have HC := Lib.hid (of_num n W1 h0 h1)
        go_wp2_with fail
        refine HC.out.mono ?_
        rintro e W2 ⟨⟨o, rfl, ho⟩, bq⟩
        clear HC
        have ha := ha.below bq
        have hB := hB.below bq
        have B := B.trans (bq.mono B.size)
        clear bq
        have HC := Lib.hid (right_num ho)
        go_wp2_with fail
        refine HC.out.mono ?_
        rintro e w' ⟨rfl, rfl⟩
        clear HC
        have HC := Lib.hid (F1.out _ _ ho)
        go_wp2_with fail
        refine HC.out.mono ?_
        rintro e W3 ⟨rfl, bq⟩
        clear HC
        have ha := ha.below bq
        have hB := hB.below bq
        have ho := ho.below bq
        have B := B.trans (bq.mono B.size)
        clear bq
        clear ho
        have HC := Lib.hid (F2.out W3)
        go_wp2_with fail
        refine HC.out.mono ?_
        rintro e W4 ⟨rfl, bq⟩
        clear HC
        have ha := ha.below bq
        have hB := hB.below bq
        have B := B.trans (bq.mono B.size)
        clear bq
        have HC := Lib.hid (F3.out W4)
        go_wp2_with fail
        refine HC.out.mono ?_
        rintro e W5 ⟨⟨v2, rfl, h2⟩, bq⟩
        clear HC
        have ha := ha.below bq
        have hB := hB.below bq
        have B := B.trans (bq.mono B.size)
        clear bq
        have HC := Lib.hid (F4.out _ _ h2)
        go_wp2_with fail
        refine HC.out.mono ?_
        rintro e W6 ⟨rfl, bq⟩
        clear HC
        have ha := ha.below bq
        have hB := hB.below bq
        have h2 := h2.below bq
        have B := B.trans (bq.mono B.size)
        clear bq
        clear h2
        have HC := Lib.hid (F5.out W6)
        go_wp2_with fail
        refine HC.out.mono ?_
        rintro e W7 ⟨rfl, bq⟩
        clear HC
        have ha := ha.below bq
        have hB := hB.below bq
        have B := B.trans (bq.mono B.size)
        clear bq
        have HC := Lib.hid (alive_any _ hB)
        go_wp2_with fail
        refine HC.out.mono ?_
        rintro e W8 ⟨rfl, bq⟩
        clear HC
        have ha := ha.below bq
        have hB := hB.below bq
        have B := B.trans (bq.mono B.size)
        clear bq
        clear hB
        have HC := Lib.hid (refright_bad ha)
        go_wp2_with fail
        refine HC.out.mono ?_
        rintro e w' ⟨rfl, rfl⟩
        clear HC
        have HC := Lib.hid (refright_bad ha)
        go_wp2_with fail
        refine HC.out.mono ?_
        rintro e w' ⟨rfl, rfl⟩
        clear HC
        clear ha
        go_wp2_with fail
        go_ret
        exact ⟨rfl, B⟩
      · have HY := Lib.hid hy
        have HY2 := Lib.hid (base_rng hy).1
        have HY16 := Lib.hid (base_rng hy).2
        have hb4 := baseB_iff.1 hy
        clear hy
        cases hs : toldB t y
        · have HS := Lib.hid hs
          clear hs
          rcases hb4 with hb4 | hb4 | hb4 | hb4
          · have q0 : (y != 2) = false := by rw [hb4]; rfl
            clear hb4
            have HC := Lib.hid (text_bad _ _ ha)
            go_wp2_with fail
            refine HC.out.mono ?_
            rintro e w' ⟨rfl, rfl⟩
            clear HC
            have HC := Lib.hid (parse_syn t y _ hB (by have := HT.out; omega) HY.out HS.out)
            go_wp2_with fail
            refine HC.out.mono ?_
            rintro e W1 ⟨rfl, bq⟩
            clear HC
            have ha := ha.below bq
            have hB := hB.below bq
            have B := B.trans (bq.mono B.size)
            clear bq
            have HC := Lib.hid (of_num n W1 h0 h1)
            go_wp2_with fail
            refine HC.out.mono ?_
            rintro e W2 ⟨⟨o, rfl, ho⟩, bq⟩
            clear HC
            have ha := ha.below bq
            have hB := hB.below bq
            have B := B.trans (bq.mono B.size)
            clear bq
            have HC := Lib.hid (right_num ho)
            go_wp2_with fail
            refine HC.out.mono ?_
            rintro e w' ⟨rfl, rfl⟩
            clear HC
            have HC := Lib.hid (F1.out _ _ ho)
            go_wp2_with fail
            refine HC.out.mono ?_
            rintro e W3 ⟨rfl, bq⟩
            clear HC
            have ha := ha.below bq
            have hB := hB.below bq
            have ho := ho.below bq
            have B := B.trans (bq.mono B.size)
            clear bq
            clear ho
            have HC := Lib.hid (F2.out W3)
            go_wp2_with fail
            refine HC.out.mono ?_
            rintro e W4 ⟨rfl, bq⟩
            clear HC
            have ha := ha.below bq
            have hB := hB.below bq
            have B := B.trans (bq.mono B.size)
            clear bq
            have HC := Lib.hid (F3.out W4)
            go_wp2_with fail
            refine HC.out.mono ?_
            rintro e W5 ⟨⟨v2, rfl, h2⟩, bq⟩
            clear HC
            have ha := ha.below bq
            have hB := hB.below bq
            have B := B.trans (bq.mono B.size)
            clear bq
            have HC := Lib.hid (F4.out _ _ h2)
            go_wp2_with fail
            refine HC.out.mono ?_
            rintro e W6 ⟨rfl, bq⟩
            clear HC
            have ha := ha.below bq
            have hB := hB.below bq
            have h2 := h2.below bq
            have B := B.trans (bq.mono B.size)
            clear bq
            clear h2
            have HC := Lib.hid (F5.out W6)
            go_wp2_with fail
            refine HC.out.mono ?_
            rintro e W7 ⟨rfl, bq⟩
            clear HC
            have ha := ha.below bq
            have hB := hB.below bq
            have B := B.trans (bq.mono B.size)
            clear bq
            have HC := Lib.hid (alive_any _ hB)
            go_wp2_with fail
            refine HC.out.mono ?_
            rintro e W8 ⟨rfl, bq⟩
            clear HC
            have ha := ha.below bq
            have hB := hB.below bq
            have B := B.trans (bq.mono B.size)
            clear bq
            clear hB
            have HC := Lib.hid (refright_bad ha)
            go_wp2_with fail
            refine HC.out.mono ?_
            rintro e w' ⟨rfl, rfl⟩
            clear HC
            have HC := Lib.hid (refright_bad ha)
            go_wp2_with fail
            refine HC.out.mono ?_
            rintro e w' ⟨rfl, rfl⟩
            clear HC
            clear ha
            have HC := Lib.hid (refsyn_no t y W8 (by have := HT.out; omega) (by have := HY16.out; omega) HS.out)
            go_wp2_with fail
            refine HC.out.mono ?_
            rintro e w' ⟨rfl, rfl⟩
            clear HC
            go_wp2_with fail
            go_ret
            exact ⟨rfl, B⟩
          · have q0 : (y != 2) = true := by rw [hb4]; rfl
            have q1 : (y != 8) = false := by rw [hb4]; rfl
            clear hb4
            have HC := Lib.hid (text_bad _ _ ha)
            go_wp2_with fail
            refine HC.out.mono ?_
            rintro e w' ⟨rfl, rfl⟩
            clear HC
            have HC := Lib.hid (parse_syn t y _ hB (by have := HT.out; omega) HY.out HS.out)
            go_wp2_with fail
            refine HC.out.mono ?_
            rintro e W1 ⟨rfl, bq⟩
            clear HC
            have ha := ha.below bq
            have hB := hB.below bq
            have B := B.trans (bq.mono B.size)
            clear bq
            have HC := Lib.hid (of_num n W1 h0 h1)
            go_wp2_with fail
            refine HC.out.mono ?_
            rintro e W2 ⟨⟨o, rfl, ho⟩, bq⟩
            clear HC
            have ha := ha.below bq
            have hB := hB.below bq
            have B := B.trans (bq.mono B.size)
            clear bq
            have HC := Lib.hid (right_num ho)
            go_wp2_with fail
            refine HC.out.mono ?_
            rintro e w' ⟨rfl, rfl⟩
            clear HC
            have HC := Lib.hid (F1.out _ _ ho)
            go_wp2_with fail
            refine HC.out.mono ?_
            rintro e W3 ⟨rfl, bq⟩
            clear HC
            have ha := ha.below bq
            have hB := hB.below bq
            have ho := ho.below bq
            have B := B.trans (bq.mono B.size)
            clear bq
            clear ho
            have HC := Lib.hid (F2.out W3)
            go_wp2_with fail
            refine HC.out.mono ?_
            rintro e W4 ⟨rfl, bq⟩
            clear HC
            have ha := ha.below bq
            have hB := hB.below bq
            have B := B.trans (bq.mono B.size)
            clear bq
            have HC := Lib.hid (F3.out W4)
            go_wp2_with fail
            refine HC.out.mono ?_
            rintro e W5 ⟨⟨v2, rfl, h2⟩, bq⟩
            clear HC
            have ha := ha.below bq
            have hB := hB.below bq
            have B := B.trans (bq.mono B.size)
            clear bq
            have HC := Lib.hid (F4.out _ _ h2)
            go_wp2_with fail
            refine HC.out.mono ?_
            rintro e W6 ⟨rfl, bq⟩
            clear HC
            have ha := ha.below bq
            have hB := hB.below bq
            have h2 := h2.below bq
            have B := B.trans (bq.mono B.size)
            clear bq
            clear h2
            have HC := Lib.hid (F5.out W6)
            go_wp2_with fail
            refine HC.out.mono ?_
            rintro e W7 ⟨rfl, bq⟩
            clear HC
            have ha := ha.below bq
            have hB := hB.below bq
            have B := B.trans (bq.mono B.size)
            clear bq
            have HC := Lib.hid (alive_any _ hB)
            go_wp2_with fail
            refine HC.out.mono ?_
            rintro e W8 ⟨rfl, bq⟩
            clear HC
            have ha := ha.below bq
            have hB := hB.below bq
            have B := B.trans (bq.mono B.size)
            clear bq
            clear hB
            have HC := Lib.hid (refright_bad ha)
            go_wp2_with fail
            refine HC.out.mono ?_
            rintro e w' ⟨rfl, rfl⟩
            clear HC
            have HC := Lib.hid (refright_bad ha)
            go_wp2_with fail
            refine HC.out.mono ?_
            rintro e w' ⟨rfl, rfl⟩
            clear HC
            clear ha
            have HC := Lib.hid (refsyn_no t y W8 (by have := HT.out; omega) (by have := HY16.out; omega) HS.out)
            go_wp2_with fail
            refine HC.out.mono ?_
            rintro e w' ⟨rfl, rfl⟩
            clear HC
            go_wp2_with fail
            go_ret
            exact ⟨rfl, B⟩
          · have q0 : (y != 2) = true := by rw [hb4]; rfl
            have q1 : (y != 8) = true := by rw [hb4]; rfl
            have q2 : (y != 10) = false := by rw [hb4]; rfl
            clear hb4
            have HC := Lib.hid (text_bad _ _ ha)
            go_wp2_with fail
            refine HC.out.mono ?_
            rintro e w' ⟨rfl, rfl⟩
            clear HC
            have HC := Lib.hid (parse_syn t y _ hB (by have := HT.out; omega) HY.out HS.out)
            go_wp2_with fail
            refine HC.out.mono ?_
            rintro e W1 ⟨rfl, bq⟩
            clear HC
            have ha := ha.below bq
            have hB := hB.below bq
            have B := B.trans (bq.mono B.size)
            clear bq
            have HC := Lib.hid (of_num n W1 h0 h1)
            go_wp2_with fail
            refine HC.out.mono ?_
            rintro e W2 ⟨⟨o, rfl, ho⟩, bq⟩
            clear HC
            have ha := ha.below bq
            have hB := hB.below bq
            have B := B.trans (bq.mono B.size)
            clear bq
            have HC := Lib.hid (right_num ho)
            go_wp2_with fail
            refine HC.out.mono ?_
            rintro e w' ⟨rfl, rfl⟩
            clear HC
            have HC := Lib.hid (F1.out _ _ ho)
            go_wp2_with fail
            refine HC.out.mono ?_
            rintro e W3 ⟨rfl, bq⟩
            clear HC
            have ha := ha.below bq
            have hB := hB.below bq
            have ho := ho.below bq
            have B := B.trans (bq.mono B.size)
            clear bq
            clear ho
            have HC := Lib.hid (F2.out W3)
            go_wp2_with fail
            refine HC.out.mono ?_
            rintro e W4 ⟨rfl, bq⟩
            clear HC
            have ha := ha.below bq
            have hB := hB.below bq
            have B := B.trans (bq.mono B.size)
            clear bq
            have HC := Lib.hid (F3.out W4)
            go_wp2_with fail
            refine HC.out.mono ?_
            rintro e W5 ⟨⟨v2, rfl, h2⟩, bq⟩
            clear HC
            have ha := ha.below bq
            have hB := hB.below bq
            have B := B.trans (bq.mono B.size)
            clear bq
            have HC := Lib.hid (F4.out _ _ h2)
            go_wp2_with fail
            refine HC.out.mono ?_
            rintro e W6 ⟨rfl, bq⟩
            clear HC
            have ha := ha.below bq
            have hB := hB.below bq
            have h2 := h2.below bq
            have B := B.trans (bq.mono B.size)
            clear bq
            clear h2
            have HC := Lib.hid (F5.out W6)
            go_wp2_with fail
            refine HC.out.mono ?_
            rintro e W7 ⟨rfl, bq⟩
            clear HC
            have ha := ha.below bq
            have hB := hB.below bq
            have B := B.trans (bq.mono B.size)
            clear bq
            have HC := Lib.hid (alive_any _ hB)
            go_wp2_with fail
            refine HC.out.mono ?_
            rintro e W8 ⟨rfl, bq⟩
            clear HC
            have ha := ha.below bq
            have hB := hB.below bq
            have B := B.trans (bq.mono B.size)
            clear bq
            clear hB
            have HC := Lib.hid (refright_bad ha)
            go_wp2_with fail
            refine HC.out.mono ?_
            rintro e w' ⟨rfl, rfl⟩
            clear HC
            have HC := Lib.hid (refright_bad ha)
            go_wp2_with fail
            refine HC.out.mono ?_
            rintro e w' ⟨rfl, rfl⟩
            clear HC
            clear ha
            have HC := Lib.hid (refsyn_no t y W8 (by have := HT.out; omega) (by have := HY16.out; omega) HS.out)
            go_wp2_with fail
            refine HC.out.mono ?_
            rintro e w' ⟨rfl, rfl⟩
            clear HC
            go_wp2_with fail
            go_ret
            exact ⟨rfl, B⟩
          · have q0 : (y != 2) = true := by rw [hb4]; rfl
            have q1 : (y != 8) = true := by rw [hb4]; rfl
            have q2 : (y != 10) = true := by rw [hb4]; rfl
            have q3 : (y != 16) = false := by rw [hb4]; rfl
            clear hb4
            have HC := Lib.hid (text_bad _ _ ha)
            go_wp2_with fail
            refine HC.out.mono ?_
            rintro e w' ⟨rfl, rfl⟩
            clear HC
            have HC := Lib.hid (parse_syn t y _ hB (by have := HT.out; omega) HY.out HS.out)
            go_wp2_with fail
            refine HC.out.mono ?_
            rintro e W1 ⟨rfl, bq⟩
            clear HC
            have ha := ha.below bq
            have hB := hB.below bq
            have B := B.trans (bq.mono B.size)
            clear bq
            have HC := Lib.hid (of_num n W1 h0 h1)
            go_wp2_with fail
            refine HC.out.mono ?_
            rintro e W2 ⟨⟨o, rfl, ho⟩, bq⟩
            clear HC
            have ha := ha.below bq
            have hB := hB.below bq
            have B := B.trans (bq.mono B.size)
            clear bq
            have HC := Lib.hid (right_num ho)
            go_wp2_with fail
            refine HC.out.mono ?_
            rintro e w' ⟨rfl, rfl⟩
            clear HC
            have HC := Lib.hid (F1.out _ _ ho)
            go_wp2_with fail
            refine HC.out.mono ?_
            rintro e W3 ⟨rfl, bq⟩
            clear HC
            have ha := ha.below bq
            have hB := hB.below bq
            have ho := ho.below bq
            have B := B.trans (bq.mono B.size)
            clear bq
            clear ho
            have HC := Lib.hid (F2.out W3)
            go_wp2_with fail
            refine HC.out.mono ?_
            rintro e W4 ⟨rfl, bq⟩
            clear HC
            have ha := ha.below bq
            have hB := hB.below bq
            have B := B.trans (bq.mono B.size)
            clear bq
            have HC := Lib.hid (F3.out W4)
            go_wp2_with fail
            refine HC.out.mono ?_
            rintro e W5 ⟨⟨v2, rfl, h2⟩, bq⟩
            clear HC
            have ha := ha.below bq
            have hB := hB.below bq
            have B := B.trans (bq.mono B.size)
            clear bq
            have HC := Lib.hid (F4.out _ _ h2)
            go_wp2_with fail
            refine HC.out.mono ?_
            rintro e W6 ⟨rfl, bq⟩
            clear HC
            have ha := ha.below bq
            have hB := hB.below bq
            have h2 := h2.below bq
            have B := B.trans (bq.mono B.size)
            clear bq
            clear h2
            have HC := Lib.hid (F5.out W6)
            go_wp2_with fail
            refine HC.out.mono ?_
            rintro e W7 ⟨rfl, bq⟩
            clear HC
            have ha := ha.below bq
            have hB := hB.below bq
            have B := B.trans (bq.mono B.size)
            clear bq
            have HC := Lib.hid (alive_any _ hB)
            go_wp2_with fail
            refine HC.out.mono ?_
            rintro e W8 ⟨rfl, bq⟩
            clear HC
            have ha := ha.below bq
            have hB := hB.below bq
            have B := B.trans (bq.mono B.size)
            clear bq
            clear hB
            have HC := Lib.hid (refright_bad ha)
            go_wp2_with fail
            refine HC.out.mono ?_
            rintro e w' ⟨rfl, rfl⟩
            clear HC
            have HC := Lib.hid (refright_bad ha)
            go_wp2_with fail
            refine HC.out.mono ?_
            rintro e w' ⟨rfl, rfl⟩
            clear HC
            clear ha
            have HC := Lib.hid (refsyn_no t y W8 (by have := HT.out; omega) (by have := HY16.out; omega) HS.out)
            go_wp2_with fail
            refine HC.out.mono ?_
            rintro e w' ⟨rfl, rfl⟩
            clear HC
            go_wp2_with fail
            go_ret
            exact ⟨rfl, B⟩
        · have HS := Lib.hid hs
          clear hs
          rcases hb4 with hb4 | hb4 | hb4 | hb4
          · have q0 : (y != 2) = false := by rw [hb4]; rfl
            clear hb4
            have HC := Lib.hid (text_bad _ _ ha)
            go_wp2_with fail
            refine HC.out.mono ?_
            rintro e w' ⟨rfl, rfl⟩
            clear HC
            have HC := Lib.hid (parse_told t y _ hB (by have := HT.out; omega) HY.out HS.out)
            go_wp2_with fail
            refine HC.out.mono ?_
            rintro e W1 ⟨hk, bq⟩
            clear HC
            have ha := ha.below bq
            have hB := hB.below bq
            have B := B.trans (bq.mono B.size)
            clear bq
            obtain ⟨px, pk, rfl, hp⟩ := hk.vals
            have HC := Lib.hid (of_num n W1 h0 h1)
            go_wp2_with fail
            refine HC.out.mono ?_
            rintro e W2 ⟨⟨o, rfl, ho⟩, bq⟩
            clear HC
            have ha := ha.below bq
            have hB := hB.below bq
            have hp := hp.below bq
            have B := B.trans (bq.mono B.size)
            clear bq
            have HC := Lib.hid (right_num ho)
            go_wp2_with fail
            refine HC.out.mono ?_
            rintro e w' ⟨rfl, rfl⟩
            clear HC
            have HC := Lib.hid (F1.out _ _ ho)
            go_wp2_with fail
            refine HC.out.mono ?_
            rintro e W3 ⟨rfl, bq⟩
            clear HC
            have ha := ha.below bq
            have hB := hB.below bq
            have hp := hp.below bq
            have ho := ho.below bq
            have B := B.trans (bq.mono B.size)
            clear bq
            clear ho
            have HC := Lib.hid (F2.out W3)
            go_wp2_with fail
            refine HC.out.mono ?_
            rintro e W4 ⟨rfl, bq⟩
            clear HC
            have ha := ha.below bq
            have hB := hB.below bq
            have hp := hp.below bq
            have B := B.trans (bq.mono B.size)
            clear bq
            have HC := Lib.hid (F3.out W4)
            go_wp2_with fail
            refine HC.out.mono ?_
            rintro e W5 ⟨⟨v2, rfl, h2⟩, bq⟩
            clear HC
            have ha := ha.below bq
            have hB := hB.below bq
            have hp := hp.below bq
            have B := B.trans (bq.mono B.size)
            clear bq
            have HC := Lib.hid (F4.out _ _ h2)
            go_wp2_with fail
            refine HC.out.mono ?_
            rintro e W6 ⟨rfl, bq⟩
            clear HC
            have ha := ha.below bq
            have hB := hB.below bq
            have hp := hp.below bq
            have h2 := h2.below bq
            have B := B.trans (bq.mono B.size)
            clear bq
            clear h2
            have HC := Lib.hid (F5.out W6)
            go_wp2_with fail
            refine HC.out.mono ?_
            rintro e W7 ⟨rfl, bq⟩
            clear HC
            have ha := ha.below bq
            have hB := hB.below bq
            have hp := hp.below bq
            have B := B.trans (bq.mono B.size)
            clear bq
            have HC := Lib.hid (alive_any _ hB)
            go_wp2_with fail
            refine HC.out.mono ?_
            rintro e W8 ⟨rfl, bq⟩
            clear HC
            have ha := ha.below bq
            have hB := hB.below bq
            have hp := hp.below bq
            have B := B.trans (bq.mono B.size)
            clear bq
            clear hB
            have HC := Lib.hid (refright_bad ha)
            go_wp2_with fail
            refine HC.out.mono ?_
            rintro e w' ⟨rfl, rfl⟩
            clear HC
            have HC := Lib.hid (refright_bad ha)
            go_wp2_with fail
            refine HC.out.mono ?_
            rintro e w' ⟨rfl, rfl⟩
            clear HC
            clear ha
            have HC := Lib.hid (refsyn_yes t y W8 (by have := HT.out; omega) (by have := HY16.out; omega) HS.out)
            go_wp2_with fail
            refine HC.out.mono ?_
            rintro e w' ⟨rfl, rfl⟩
            clear HC
            have HC := Lib.hid (refparse_fun t y W8 (by have := HT.out; omega) HY2.out HY16.out HS.out)
            go_wp2_with fail
            refine HC.out.mono ?_
            rintro e W9 ⟨rfl, bq⟩
            clear HC
            have hp := hp.below bq
            have B := B.trans (bq.mono B.size)
            clear bq
            have HC := Lib.hid (is_told (by have := HT.out; omega) HY2.out HY16.out HS.out hp)
            go_wp2_with fail
            refine HC.out.mono ?_
            rintro e W10 ⟨rfl, bq⟩
            clear HC
            have hp := hp.below bq
            have B := B.trans (bq.mono B.size)
            clear bq
            go_wp2_with fail
            go_ret
            exact ⟨rfl, B⟩
          · have q0 : (y != 2) = true := by rw [hb4]; rfl
            have q1 : (y != 8) = false := by rw [hb4]; rfl
            clear hb4
            have HC := Lib.hid (text_bad _ _ ha)
            go_wp2_with fail
            refine HC.out.mono ?_
            rintro e w' ⟨rfl, rfl⟩
            clear HC
            have HC := Lib.hid (parse_told t y _ hB (by have := HT.out; omega) HY.out HS.out)
            go_wp2_with fail
            refine HC.out.mono ?_
            rintro e W1 ⟨hk, bq⟩
            clear HC
            have ha := ha.below bq
            have hB := hB.below bq
            have B := B.trans (bq.mono B.size)
            clear bq
            obtain ⟨px, pk, rfl, hp⟩ := hk.vals
            have HC := Lib.hid (of_num n W1 h0 h1)
            go_wp2_with fail
            refine HC.out.mono ?_
            rintro e W2 ⟨⟨o, rfl, ho⟩, bq⟩
            clear HC
            have ha := ha.below bq
            have hB := hB.below bq
            have hp := hp.below bq
            have B := B.trans (bq.mono B.size)
            clear bq
            have HC := Lib.hid (right_num ho)
            go_wp2_with fail
            refine HC.out.mono ?_
            rintro e w' ⟨rfl, rfl⟩
            clear HC
            have HC := Lib.hid (F1.out _ _ ho)
            go_wp2_with fail
            refine HC.out.mono ?_
            rintro e W3 ⟨rfl, bq⟩
            clear HC
            have ha := ha.below bq
            have hB := hB.below bq
            have hp := hp.below bq
            have ho := ho.below bq
            have B := B.trans (bq.mono B.size)
            clear bq
            clear ho
            have HC := Lib.hid (F2.out W3)
            go_wp2_with fail
            refine HC.out.mono ?_
            rintro e W4 ⟨rfl, bq⟩
            clear HC
            have ha := ha.below bq
            have hB := hB.below bq
            have hp := hp.below bq
            have B := B.trans (bq.mono B.size)
            clear bq
            have HC := Lib.hid (F3.out W4)
            go_wp2_with fail
            refine HC.out.mono ?_
            rintro e W5 ⟨⟨v2, rfl, h2⟩, bq⟩
            clear HC
            have ha := ha.below bq
            have hB := hB.below bq
            have hp := hp.below bq
            have B := B.trans (bq.mono B.size)
            clear bq
            have HC := Lib.hid (F4.out _ _ h2)
            go_wp2_with fail
            refine HC.out.mono ?_
            rintro e W6 ⟨rfl, bq⟩
            clear HC
            have ha := ha.below bq
            have hB := hB.below bq
            have hp := hp.below bq
            have h2 := h2.below bq
            have B := B.trans (bq.mono B.size)
            clear bq
            clear h2
            have HC := Lib.hid (F5.out W6)
            go_wp2_with fail
            refine HC.out.mono ?_
            rintro e W7 ⟨rfl, bq⟩
            clear HC
            have ha := ha.below bq
            have hB := hB.below bq
            have hp := hp.below bq
            have B := B.trans (bq.mono B.size)
            clear bq
            have HC := Lib.hid (alive_any _ hB)
            go_wp2_with fail
            refine HC.out.mono ?_
            rintro e W8 ⟨rfl, bq⟩
            clear HC
            have ha := ha.below bq
            have hB := hB.below bq
            have hp := hp.below bq
            have B := B.trans (bq.mono B.size)
            clear bq
            clear hB
            have HC := Lib.hid (refright_bad ha)
            go_wp2_with fail
            refine HC.out.mono ?_
            rintro e w' ⟨rfl, rfl⟩
            clear HC
            have HC := Lib.hid (refright_bad ha)
            go_wp2_with fail
            refine HC.out.mono ?_
            rintro e w' ⟨rfl, rfl⟩
            clear HC
            clear ha
            have HC := Lib.hid (refsyn_yes t y W8 (by have := HT.out; omega) (by have := HY16.out; omega) HS.out)
            go_wp2_with fail
            refine HC.out.mono ?_
            rintro e w' ⟨rfl, rfl⟩
            clear HC
            have HC := Lib.hid (refparse_fun t y W8 (by have := HT.out; omega) HY2.out HY16.out HS.out)
            go_wp2_with fail
            refine HC.out.mono ?_
            rintro e W9 ⟨rfl, bq⟩
            clear HC
            have hp := hp.below bq
            have B := B.trans (bq.mono B.size)
            clear bq
            have HC := Lib.hid (is_told (by have := HT.out; omega) HY2.out HY16.out HS.out hp)
            go_wp2_with fail
            refine HC.out.mono ?_
            rintro e W10 ⟨rfl, bq⟩
            clear HC
            have hp := hp.below bq
            have B := B.trans (bq.mono B.size)
            clear bq
            go_wp2_with fail
            go_ret
            exact ⟨rfl, B⟩
          · have q0 : (y != 2) = true := by rw [hb4]; rfl
            have q1 : (y != 8) = true := by rw [hb4]; rfl
            have q2 : (y != 10) = false := by rw [hb4]; rfl
            clear hb4
            have HC := Lib.hid (text_bad _ _ ha)
            go_wp2_with fail
            refine HC.out.mono ?_
            rintro e w' ⟨rfl, rfl⟩
            clear HC
            have HC := Lib.hid (parse_told t y _ hB (by have := HT.out; omega) HY.out HS.out)
            go_wp2_with fail
            refine HC.out.mono ?_
            rintro e W1 ⟨hk, bq⟩
            clear HC
            have ha := ha.below bq
            have hB := hB.below bq
            have B := B.trans (bq.mono B.size)
            clear bq
            obtain ⟨px, pk, rfl, hp⟩ := hk.vals
            have HC := Lib.hid (of_num n W1 h0 h1)
            go_wp2_with fail
            refine HC.out.mono ?_
            rintro e W2 ⟨⟨o, rfl, ho⟩, bq⟩
            clear HC
            have ha := ha.below bq
            have hB := hB.below bq
            have hp := hp.below bq
            have B := B.trans (bq.mono B.size)
            clear bq
            have HC := Lib.hid (right_num ho)
            go_wp2_with fail
            refine HC.out.mono ?_
            rintro e w' ⟨rfl, rfl⟩
            clear HC
            have HC := Lib.hid (F1.out _ _ ho)
            go_wp2_with fail
            refine HC.out.mono ?_
            rintro e W3 ⟨rfl, bq⟩
            clear HC
            have ha := ha.below bq
            have hB := hB.below bq
            have hp := hp.below bq
            have ho := ho.below bq
            have B := B.trans (bq.mono B.size)
            clear bq
            clear ho
            have HC := Lib.hid (F2.out W3)
            go_wp2_with fail
            refine HC.out.mono ?_
            rintro e W4 ⟨rfl, bq⟩
            clear HC
            have ha := ha.below bq
            have hB := hB.below bq
            have hp := hp.below bq
            have B := B.trans (bq.mono B.size)
            clear bq
            have HC := Lib.hid (F3.out W4)
            go_wp2_with fail
            refine HC.out.mono ?_
            rintro e W5 ⟨⟨v2, rfl, h2⟩, bq⟩
            clear HC
            have ha := ha.below bq
            have hB := hB.below bq
            have hp := hp.below bq
            have B := B.trans (bq.mono B.size)
            clear bq
            have HC := Lib.hid (F4.out _ _ h2)
            go_wp2_with fail
            refine HC.out.mono ?_
            rintro e W6 ⟨rfl, bq⟩
            clear HC
            have ha := ha.below bq
            have hB := hB.below bq
            have hp := hp.below bq
            have h2 := h2.below bq
            have B := B.trans (bq.mono B.size)
            clear bq
            clear h2
            have HC := Lib.hid (F5.out W6)
            go_wp2_with fail
            refine HC.out.mono ?_
            rintro e W7 ⟨rfl, bq⟩
            clear HC
            have ha := ha.below bq
            have hB := hB.below bq
            have hp := hp.below bq
            have B := B.trans (bq.mono B.size)
            clear bq
            have HC := Lib.hid (alive_any _ hB)
            go_wp2_with fail
            refine HC.out.mono ?_
            rintro e W8 ⟨rfl, bq⟩
            clear HC
            have ha := ha.below bq
            have hB := hB.below bq
            have hp := hp.below bq
            have B := B.trans (bq.mono B.size)
            clear bq
            clear hB
            have HC := Lib.hid (refright_bad ha)
            go_wp2_with fail
            refine HC.out.mono ?_
            rintro e w' ⟨rfl, rfl⟩
            clear HC
            have HC := Lib.hid (refright_bad ha)
            go_wp2_with fail
            refine HC.out.mono ?_
            rintro e w' ⟨rfl, rfl⟩
            clear HC
            clear ha
            have HC := Lib.hid (refsyn_yes t y W8 (by have := HT.out; omega) (by have := HY16.out; omega) HS.out)
            go_wp2_with fail
            refine HC.out.mono ?_
            rintro e w' ⟨rfl, rfl⟩
            clear HC
            have HC := Lib.hid (refparse_fun t y W8 (by have := HT.out; omega) HY2.out HY16.out HS.out)
            go_wp2_with fail
            refine HC.out.mono ?_
            rintro e W9 ⟨rfl, bq⟩
            clear HC
            have hp := hp.below bq
            have B := B.trans (bq.mono B.size)
            clear bq
            have HC := Lib.hid (is_told (by have := HT.out; omega) HY2.out HY16.out HS.out hp)
            go_wp2_with fail
            refine HC.out.mono ?_
            rintro e W10 ⟨rfl, bq⟩
            clear HC
            have hp := hp.below bq
            have B := B.trans (bq.mono B.size)
            clear bq
            go_wp2_with fail
            go_ret
            exact ⟨rfl, B⟩
          · have q0 : (y != 2) = true := by rw [hb4]; rfl
            have q1 : (y != 8) = true := by rw [hb4]; rfl
            have q2 : (y != 10) = true := by rw [hb4]; rfl
            have q3 : (y != 16) = false := by rw [hb4]; rfl
            clear hb4
            have HC := Lib.hid (text_bad _ _ ha)
            go_wp2_with fail
            refine HC.out.mono ?_
            rintro e w' ⟨rfl, rfl⟩
            clear HC
            have HC := Lib.hid (parse_told t y _ hB (by have := HT.out; omega) HY.out HS.out)
            go_wp2_with fail
            refine HC.out.mono ?_
            rintro e W1 ⟨hk, bq⟩
            clear HC
            have ha := ha.below bq
            have hB := hB.below bq
            have B := B.trans (bq.mono B.size)
            clear bq
            obtain ⟨px, pk, rfl, hp⟩ := hk.vals
            have HC := Lib.hid (of_num n W1 h0 h1)
            go_wp2_with fail
            refine HC.out.mono ?_
            rintro e W2 ⟨⟨o, rfl, ho⟩, bq⟩
            clear HC
            have ha := ha.below bq
            have hB := hB.below bq
            have hp := hp.below bq
            have B := B.trans (bq.mono B.size)
            clear bq
            have HC := Lib.hid (right_num ho)
            go_wp2_with fail
            refine HC.out.mono ?_
            rintro e w' ⟨rfl, rfl⟩
            clear HC
            have HC := Lib.hid (F1.out _ _ ho)
            go_wp2_with fail
            refine HC.out.mono ?_
            rintro e W3 ⟨rfl, bq⟩
            clear HC
            have ha := ha.below bq
            have hB := hB.below bq
            have hp := hp.below bq
            have ho := ho.below bq
            have B := B.trans (bq.mono B.size)
            clear bq
            clear ho
            have HC := Lib.hid (F2.out W3)
            go_wp2_with fail
            refine HC.out.mono ?_
            rintro e W4 ⟨rfl, bq⟩
            clear HC
            have ha := ha.below bq
            have hB := hB.below bq
            have hp := hp.below bq
            have B := B.trans (bq.mono B.size)
            clear bq
            have HC := Lib.hid (F3.out W4)
            go_wp2_with fail
            refine HC.out.mono ?_
            rintro e W5 ⟨⟨v2, rfl, h2⟩, bq⟩
            clear HC
            have ha := ha.below bq
            have hB := hB.below bq
            have hp := hp.below bq
            have B := B.trans (bq.mono B.size)
            clear bq
            have HC := Lib.hid (F4.out _ _ h2)
            go_wp2_with fail
            refine HC.out.mono ?_
            rintro e W6 ⟨rfl, bq⟩
            clear HC
            have ha := ha.below bq
            have hB := hB.below bq
            have hp := hp.below bq
            have h2 := h2.below bq
            have B := B.trans (bq.mono B.size)
            clear bq
            clear h2
            have HC := Lib.hid (F5.out W6)
            go_wp2_with fail
            refine HC.out.mono ?_
            rintro e W7 ⟨rfl, bq⟩
            clear HC
            have ha := ha.below bq
            have hB := hB.below bq
            have hp := hp.below bq
            have B := B.trans (bq.mono B.size)
            clear bq
            have HC := Lib.hid (alive_any _ hB)
            go_wp2_with fail
            refine HC.out.mono ?_
            rintro e W8 ⟨rfl, bq⟩
            clear HC
            have ha := ha.below bq
            have hB := hB.below bq
            have hp := hp.below bq
            have B := B.trans (bq.mono B.size)
            clear bq
            clear hB
            have HC := Lib.hid (refright_bad ha)
            go_wp2_with fail
            refine HC.out.mono ?_
            rintro e w' ⟨rfl, rfl⟩
            clear HC
            have HC := Lib.hid (refright_bad ha)
            go_wp2_with fail
            refine HC.out.mono ?_
            rintro e w' ⟨rfl, rfl⟩
            clear HC
            clear ha
            have HC := Lib.hid (refsyn_yes t y W8 (by have := HT.out; omega) (by have := HY16.out; omega) HS.out)
            go_wp2_with fail
            refine HC.out.mono ?_
            rintro e w' ⟨rfl, rfl⟩
            clear HC
            have HC := Lib.hid (refparse_fun t y W8 (by have := HT.out; omega) HY2.out HY16.out HS.out)
            go_wp2_with fail
            refine HC.out.mono ?_
            rintro e W9 ⟨rfl, bq⟩
            clear HC
            have hp := hp.below bq
            have B := B.trans (bq.mono B.size)
            clear bq
            have HC := Lib.hid (is_told (by have := HT.out; omega) HY2.out HY16.out HS.out hp)
            go_wp2_with fail
            refine HC.out.mono ?_
            rintro e W10 ⟨rfl, bq⟩
            clear HC
            have hp := hp.below bq
            have B := B.trans (bq.mono B.size)
            clear bq
            go_wp2_with fail
            go_ret
            exact ⟨rfl, B⟩
end Go.Proofs.YtondjnmpfpfpmaaDoor
