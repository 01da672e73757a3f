/- The program's scanner: its state; its closures; end. -/
import Derived.Test.YtjhgibdebcapfaaScanRow
import Derived.Test.YtjhgibdebcapfaaRegA
import Derived.BigQuiet
namespace Go.Proofs.Ytjhgibdebcapfaa
open Go.RowKit
set_option linter.unusedSimpArgs false
set_option linter.unusedVariables false

/-- The scanner's state: the text, the place, the tokens; its row is one of the call's own. -/
structure PS (w : World) (B pb : Nat) (s : ByteArray) (i : Nat) (l : List Tk) : Prop where
  ex : ∃ v, BlockAt w pb #[.string s, .int .i64 (i : Int), v] 36 ∧ Own w B v l ∧ v.ownBlock ≠ some pb
  low : B ≤ pb
theorem PS.below {w w' : World} {B pb : Nat} {s : ByteArray} {i : Nat} {l : List Tk} (h : PS w B pb s i l) (hb : Below w.heap.size w w') : PS w' B pb s i l := by
  obtain ⟨v, h1, h2, h3⟩ := h.ex
  exact ⟨⟨v, h1.below hb, h2.kept hb, h3⟩, h.low⟩
theorem PS.lt {w : World} {B pb : Nat} {s : ByteArray} {i : Nat} {l : List Tk} (h : PS w B pb s i l) : pb < w.heap.size := by
  obtain ⟨v, h1, h2, h3⟩ := h.ex
  exact h1.lt
theorem PS.cells {w : World} {B pb : Nat} {s : ByteArray} {i : Nat} {l : List Tk} (h : PS w B pb s i l) : w.cell? ⟨pb, 0, none⟩ = some (.string s) ∧ w.cell? ⟨pb, 1, none⟩ = some (.int .i64 (i : Int)) := by
  obtain ⟨v, h1, h2, h3⟩ := h.ex
  exact ⟨h1.cell 0, h1.cell 1⟩
def ptr (b : Nat) : Value := .pointer (some ⟨b, 0, none⟩)
set_option maxHeartbeats 4000000 in
theorem name1_any (s : ByteArray) (k q pb : Nat) (w : World) (hq : w.cell? ⟨q, 0, none⟩ = some (ptr pb)) (hp : w.cell? ⟨pb, 0, none⟩ = some (.string s)) (hk : k < s.size) :
    Calls Try.prog 42 #[.int .i64 k, ptr q] w fun e w' => e = .returned (.bool (inB (byteAt s k))) ∧ w = w' := by
  obtain ⟨c, hc⟩ : ∃ c : Int, (s[k].toNat : Int) = c := ⟨_, rfl⟩
  rw [(byteAt_eq hk).trans hc]
  have hL := letter_any c w
  have hD := digit_any c w
  unfold ptr at *
  unfold inB
  cases hl : letB c <;> rw [hl] at hL <;> have HL := Lib.hid hL <;> clear hL hl
  · cases hd : digB c <;> rw [hd] at hD <;> have HD := Lib.hid hD <;> clear hD hd
    all_goals
      go_enter Try.func42, Try.ntmps42
      go_wp2_with fail
      refine HL.out.mono ?_
      rintro x w' ⟨rfl, rfl⟩
      go_wp2_with fail
      refine HD.out.mono ?_
      rintro x w' ⟨rfl, rfl⟩
      go_wp2_with fail
      go_ret
      exact ⟨rfl, rfl⟩
  · clear hD
    go_enter Try.func42, Try.ntmps42
    go_wp2_with fail
    refine HL.out.mono ?_
    rintro x w' ⟨rfl, rfl⟩
    go_wp2_with fail
    go_ret
    exact ⟨rfl, rfl⟩
set_option maxHeartbeats 4000000 in
theorem raw1_any (s : ByteArray) (k q pb : Nat) (w : World) (hq : w.cell? ⟨q, 0, none⟩ = some (ptr pb)) (hp : w.cell? ⟨pb, 0, none⟩ = some (.string s)) (hk : k < s.size) :
    Calls Try.prog 48 #[.int .i64 k, ptr q] w fun e w' => e = .returned (.bool (!decide (byteAt s k = 96))) ∧ w = w' := by
  obtain ⟨c, hc⟩ : ∃ c : Int, (s[k].toNat : Int) = c := ⟨_, rfl⟩
  rw [(byteAt_eq hk).trans hc]
  unfold ptr at *
  have hn : (c != 96) = (!decide (c = 96)) := by
    by_cases h : c = 96
    · rw [h]; rfl
    · rw [decide_eq_false h]; simpa using h
  have HN := Lib.hid hn
  clear hn
  go_enter Try.func48, Try.ntmps48
  go_wp2_with fail
  go_ret
  exact ⟨ret_bool HN.out, rfl⟩
theorem upE_iff (c : Int) : upC c = 69 ↔ (c = 101 ∨ c = 69) := by unfold upC; split <;> omega
set_option maxHeartbeats 8000000 in
set_option maxRecDepth 100000 in
theorem number1_any (s : ByteArray) (i k q r pb : Nat) (hex : Bool) (w : World) (hq : w.cell? ⟨q, 0, none⟩ = some (ptr pb)) (hr : w.cell? ⟨r, 0, none⟩ = some (.bool hex)) (hp : w.cell? ⟨pb, 0, none⟩ = some (.string s)) (hik : i < k) (hk : k < s.size) (hs : s.size ≤ 4010) (hx : hex = decide (baseC s i = 88)) :
    Calls Try.prog 45 #[.int .i64 k, ptr q, ptr r] w fun e w' => e = .returned (.bool (numC s i k)) ∧ Below w.heap.size w w' := by
  obtain ⟨m, hm⟩ : ∃ m, k = m + 1 := ⟨k - 1, by omega⟩
  have hms : m < s.size := by omega
  obtain ⟨c, hc⟩ : ∃ c : Int, (s[k].toNat : Int) = c := ⟨_, rfl⟩
  obtain ⟨p, hpv⟩ : ∃ c : Int, (s[m].toNat : Int) = c := ⟨_, rfl⟩
  have hN : numC s i k = (inB c || decide (c = 46) || (decide ((p = 101 ∨ p = 69) ∧ hex = false) && decide (c = 43 ∨ c = 45))) := by
    unfold numC
    rw [(byteAt_eq hk).trans hc, show k - 1 = m by omega, (byteAt_eq hms).trans hpv]
    have : decide (i < k ∧ upC p = 69 ∧ ¬ baseC s i = 88) = decide ((p = 101 ∨ p = 69) ∧ hex = false) := by
      rw [decide_eq_decide, upE_iff, hx]
      constructor
      · rintro ⟨_, h1, h2⟩; exact ⟨h1, decide_eq_false h2⟩
      · rintro ⟨h1, h2⟩; exact ⟨hik, h1, of_decide_eq_false h2⟩
    rw [this]
  have HNN := Lib.hid hN
  have hsub : (k : Int) - 1 = (m : Int) := by omega
  have hwr : IntKind.i64.wrap (m : Int) = (m : Int) := by rw [IntWalk.i64_in _ (by omega)]
  have BQ : ∀ n, Below w.heap.size w (w.drewN n) := fun n => ⟨rfl, rfl, rfl, Nat.le_refl _, fun _ _ => rfl⟩
  have HBQ := Lib.hid BQ
  have hL := fun w' => letter_any c w'
  have hD := fun w' => digit_any c w'
  unfold ptr at *
  clear hx hN BQ hm
  by_cases h43 : c = 43 ∨ c = 45
  · have hin : (inB c || decide (c = 46)) = false := by
      rcases h43 with h | h <;> (rw [h]; rfl)
    have HM := Lib.hid (show numC s i k = decide ((p = 101 ∨ p = 69) ∧ hex = false) by rw [HNN.out, hin, decide_eq_true h43]; simp)
    clear hin HNN hL hD
    have WALK : True := trivial
    rcases h43 with h | h
    · have g43 : (c == 43) = true := by rw [h]; rfl
      clear h
      cases hex
      · by_cases h1 : p = 101
        · have g1 : (p == 101) = true := by rw [h1]; rfl
          have HO := Lib.hid (show numC s i k = true by rw [HM.out, decide_eq_true ⟨.inl h1, rfl⟩])
          clear h1
          go_enter Try.func45, Try.ntmps45
          go_wp2_with fail
          go_quiet (fail)
          go_wp2_with fail
          go_ret
          exact ⟨ret_bool HO.out.symm, HBQ.out _⟩
        · have g1 : (p == 101) = false := by rw [beq_eq_false_iff_ne]; exact h1
          by_cases h2 : p = 69
          · have g2 : (p == 69) = true := by rw [h2]; rfl
            have HO := Lib.hid (show numC s i k = true by rw [HM.out, decide_eq_true ⟨.inr h2, rfl⟩])
            clear h1 h2
            go_enter Try.func45, Try.ntmps45
            go_wp2_with fail
            go_quiet (fail)
            go_wp2_with fail
            go_ret
            exact ⟨ret_bool HO.out.symm, HBQ.out _⟩
          · have g2 : (p == 69) = false := by rw [beq_eq_false_iff_ne]; exact h2
            have HO := Lib.hid (show numC s i k = false by rw [HM.out, decide_eq_false (by rintro ⟨h | h, _⟩ <;> contradiction)])
            clear h1 h2
            go_enter Try.func45, Try.ntmps45
            go_wp2_with fail
            go_quiet (fail)
            go_wp2_with fail
            go_ret
            exact ⟨ret_bool HO.out.symm, HBQ.out _⟩
      · have HO := Lib.hid (show numC s i k = false by rw [HM.out, decide_eq_false (by rintro ⟨_, h⟩; cases h)])
        go_enter Try.func45, Try.ntmps45
        go_wp2_with fail
        go_quiet (fail)
        go_wp2_with fail
        go_ret
        exact ⟨ret_bool HO.out.symm, HBQ.out _⟩
    · have g43 : (c == 43) = false := by rw [h]; rfl
      have g45 : (c == 45) = true := by rw [h]; rfl
      clear h
      cases hex
      · by_cases h1 : p = 101
        · have g1 : (p == 101) = true := by rw [h1]; rfl
          have HO := Lib.hid (show numC s i k = true by rw [HM.out, decide_eq_true ⟨.inl h1, rfl⟩])
          clear h1
          go_enter Try.func45, Try.ntmps45
          go_wp2_with fail
          go_quiet (fail)
          go_wp2_with fail
          go_ret
          exact ⟨ret_bool HO.out.symm, HBQ.out _⟩
        · have g1 : (p == 101) = false := by rw [beq_eq_false_iff_ne]; exact h1
          by_cases h2 : p = 69
          · have g2 : (p == 69) = true := by rw [h2]; rfl
            have HO := Lib.hid (show numC s i k = true by rw [HM.out, decide_eq_true ⟨.inr h2, rfl⟩])
            clear h1 h2
            go_enter Try.func45, Try.ntmps45
            go_wp2_with fail
            go_quiet (fail)
            go_wp2_with fail
            go_ret
            exact ⟨ret_bool HO.out.symm, HBQ.out _⟩
          · have g2 : (p == 69) = false := by rw [beq_eq_false_iff_ne]; exact h2
            have HO := Lib.hid (show numC s i k = false by rw [HM.out, decide_eq_false (by rintro ⟨h | h, _⟩ <;> contradiction)])
            clear h1 h2
            go_enter Try.func45, Try.ntmps45
            go_wp2_with fail
            go_quiet (fail)
            go_wp2_with fail
            go_ret
            exact ⟨ret_bool HO.out.symm, HBQ.out _⟩
      · have HO := Lib.hid (show numC s i k = false by rw [HM.out, decide_eq_false (by rintro ⟨_, h⟩; cases h)])
        go_enter Try.func45, Try.ntmps45
        go_wp2_with fail
        go_quiet (fail)
        go_wp2_with fail
        go_ret
        exact ⟨ret_bool HO.out.symm, HBQ.out _⟩
  · have g43 : (c == 43) = false := by rw [beq_eq_false_iff_ne]; omega
    have g45 : (c == 45) = false := by rw [beq_eq_false_iff_ne]; omega
    have hN2 : numC s i k = (inB c || decide (c = 46)) := by rw [HNN.out, decide_eq_false h43, Bool.and_false, Bool.or_false]
    unfold inB at hN2
    clear h43 HNN
    cases hl : letB c <;> (try simp only [hl] at hL hN2) <;> have HL := Lib.hid hL <;> clear hL hl
    · cases hd : digB c <;> (try simp only [hd] at hD hN2) <;> have HD := Lib.hid hD <;> clear hD hd
      · by_cases h46 : c = 46
        · have g46 : (c == 46) = true := by rw [h46]; rfl
          have HM := Lib.hid (show numC s i k = true by rw [hN2, decide_eq_true h46]; rfl)
          clear hN2 h46
          go_enter Try.func45, Try.ntmps45
          go_wp2_with fail
          go_quiet (fail)
          go_wp2_with fail
          refine (HL.out _).mono ?_
          rintro x w' ⟨rfl, rfl⟩
          go_wp2_with fail
          refine (HD.out _).mono ?_
          rintro x w' ⟨rfl, rfl⟩
          go_wp2_with fail
          go_ret
          exact ⟨ret_bool HM.out.symm, HBQ.out _⟩
        · have g46 : (c == 46) = false := by rw [beq_eq_false_iff_ne]; exact h46
          have HM := Lib.hid (show numC s i k = false by rw [hN2, decide_eq_false h46]; rfl)
          clear hN2 h46
          go_enter Try.func45, Try.ntmps45
          go_wp2_with fail
          go_quiet (fail)
          go_wp2_with fail
          refine (HL.out _).mono ?_
          rintro x w' ⟨rfl, rfl⟩
          go_wp2_with fail
          refine (HD.out _).mono ?_
          rintro x w' ⟨rfl, rfl⟩
          go_wp2_with fail
          go_ret
          exact ⟨ret_bool HM.out.symm, HBQ.out _⟩
      · have HM := Lib.hid (show numC s i k = true by rw [hN2]; rfl)
        clear hN2
        go_enter Try.func45, Try.ntmps45
        go_wp2_with fail
        go_quiet (fail)
        go_wp2_with fail
        refine (HL.out _).mono ?_
        rintro x w' ⟨rfl, rfl⟩
        go_wp2_with fail
        refine (HD.out _).mono ?_
        rintro x w' ⟨rfl, rfl⟩
        go_wp2_with fail
        go_ret
        exact ⟨ret_bool HM.out.symm, HBQ.out _⟩
    · have HM := Lib.hid (show numC s i k = true by rw [hN2]; rfl)
      clear hN2
      go_enter Try.func45, Try.ntmps45
      go_wp2_with fail
      go_quiet (fail)
      go_wp2_with fail
      refine (HL.out _).mono ?_
      rintro x w' ⟨rfl, rfl⟩
      go_wp2_with fail
      go_ret
      exact ⟨ret_bool HM.out.symm, HBQ.out _⟩
set_option maxHeartbeats 4000000 in
set_option maxRecDepth 100000 in
theorem end_name (s : ByteArray) (i pb q : Nat) (w : World) (hq : w.cell? ⟨q, 0, none⟩ = some (ptr pb)) (hp : w.cell? ⟨pb, 0, none⟩ = some (.string s)) (ha : w.cell? ⟨pb, 1, none⟩ = some (.int .i64 (i : Int))) (hs : s.size ≤ 4010) (hi : i < s.size) :
    Calls Try.prog 41 #[ptr pb, .func (.func 42) #[] #[ptr q]] w fun e w' => e = .returned (.int .i64 (run (fun k => inB (byteAt s k)) s.size (i + 1) : Nat)) ∧ w = w' := by
  have HCC := Lib.hid (fun k (hk : k < s.size) (hik : i < k) => name1_any s k q pb w hq hp hk)
  obtain ⟨e, he⟩ : ∃ e, run (fun k => inB (byteAt s k)) s.size (i + 1) = e := ⟨_, rfl⟩
  have HE := Lib.hid he
  have e1 : i + 1 ≤ e := by rw [← he]; exact le_run
  have e2 : e ≤ s.size := by rw [← he]; exact run_le (by omega)
  have HR := Lib.hid he
  rw [he]
  clear he
  unfold ptr at *
  go_enter Try.func41, Try.ntmps41
  go_wp2_with fail
  go_loop [5] (fun v => ∃ k : Nat, i < k ∧ k ≤ e ∧ v = .int .i64 k ∧ Hid (run (fun k => inB (byteAt s k)) s.size k = e)) (fun v => s.size - (intOf v).toNat)
  case atStart => exact ⟨i + 1, by omega, e1, by go_num, HE⟩
  case round =>
    obtain ⟨k, hik, hke, rfl, Hrun⟩ := hrel
    by_cases hlt : k < s.size
    · have HC0 := HCC.out k hlt hik
      obtain ⟨b, hb⟩ : ∃ b, (fun k => inB (byteAt s k)) k = b := ⟨_, rfl⟩
      have HB := Lib.hid hb
      have hb2 := hb
      (try simp only at hb2)
      rw [hb2] at HC0
      have HC := Lib.hid HC0
      clear HC0 hb hb2
      cases b
      · have hke2 : k = e := by rw [← Hrun.out]; exact (run_stop (fun h => absurd (HB.out.symm.trans h.2) (by decide))).symm
        subst hke2
        go_wp2_with fail
        refine HC.out.mono ?_
        rintro x w' ⟨rfl, rfl⟩
        go_wp2_with fail
        go_ret
        exact ⟨rfl, rfl⟩
      · have Hnx := Lib.hid (show run (fun k => inB (byteAt s k)) s.size (k + 1) = e by rw [← Hrun.out]; exact (run_step hlt HB.out).symm)
        have hke2 : k + 1 ≤ e := by rw [← Hnx.out]; exact le_run
        go_wp2_with fail
        refine HC.out.mono ?_
        rintro x w' ⟨rfl, rfl⟩
        go_wp2_with fail
        go_round
        case rel => exact ⟨k + 1, by omega, hke2, by go_num, Hnx⟩
        case measure => simp [intOf]; omega
    · have hke2 : k = e := by omega
      subst hke2
      go_wp2_with fail
      go_ret
      exact ⟨rfl, rfl⟩
set_option maxHeartbeats 4000000 in
set_option maxRecDepth 100000 in
theorem end_raw (s : ByteArray) (i pb q : Nat) (w : World) (hq : w.cell? ⟨q, 0, none⟩ = some (ptr pb)) (hp : w.cell? ⟨pb, 0, none⟩ = some (.string s)) (ha : w.cell? ⟨pb, 1, none⟩ = some (.int .i64 (i : Int))) (hs : s.size ≤ 4010) (hi : i < s.size) :
    Calls Try.prog 41 #[ptr pb, .func (.func 48) #[] #[ptr q]] w fun e w' => e = .returned (.int .i64 (run (fun k => !decide (byteAt s k = 96)) s.size (i + 1) : Nat)) ∧ w = w' := by
  have HCC := Lib.hid (fun k (hk : k < s.size) (hik : i < k) => raw1_any s k q pb w hq hp hk)
  obtain ⟨e, he⟩ : ∃ e, run (fun k => !decide (byteAt s k = 96)) s.size (i + 1) = e := ⟨_, rfl⟩
  have HE := Lib.hid he
  have e1 : i + 1 ≤ e := by rw [← he]; exact le_run
  have e2 : e ≤ s.size := by rw [← he]; exact run_le (by omega)
  have HR := Lib.hid he
  rw [he]
  clear he
  unfold ptr at *
  go_enter Try.func41, Try.ntmps41
  go_wp2_with fail
  go_loop [5] (fun v => ∃ k : Nat, i < k ∧ k ≤ e ∧ v = .int .i64 k ∧ Hid (run (fun k => !decide (byteAt s k = 96)) s.size k = e)) (fun v => s.size - (intOf v).toNat)
  case atStart => exact ⟨i + 1, by omega, e1, by go_num, HE⟩
  case round =>
    obtain ⟨k, hik, hke, rfl, Hrun⟩ := hrel
    by_cases hlt : k < s.size
    · have HC0 := HCC.out k hlt hik
      obtain ⟨b, hb⟩ : ∃ b, (fun k => !decide (byteAt s k = 96)) k = b := ⟨_, rfl⟩
      have HB := Lib.hid hb
      have hb2 := hb
      (try simp only at hb2)
      rw [hb2] at HC0
      have HC := Lib.hid HC0
      clear HC0 hb hb2
      cases b
      · have hke2 : k = e := by rw [← Hrun.out]; exact (run_stop (fun h => absurd (HB.out.symm.trans h.2) (by decide))).symm
        subst hke2
        go_wp2_with fail
        refine HC.out.mono ?_
        rintro x w' ⟨rfl, rfl⟩
        go_wp2_with fail
        go_ret
        exact ⟨rfl, rfl⟩
      · have Hnx := Lib.hid (show run (fun k => !decide (byteAt s k = 96)) s.size (k + 1) = e by rw [← Hrun.out]; exact (run_step hlt HB.out).symm)
        have hke2 : k + 1 ≤ e := by rw [← Hnx.out]; exact le_run
        go_wp2_with fail
        refine HC.out.mono ?_
        rintro x w' ⟨rfl, rfl⟩
        go_wp2_with fail
        go_round
        case rel => exact ⟨k + 1, by omega, hke2, by go_num, Hnx⟩
        case measure => simp [intOf]; omega
    · have hke2 : k = e := by omega
      subst hke2
      go_wp2_with fail
      go_ret
      exact ⟨rfl, rfl⟩
set_option maxHeartbeats 4000000 in
set_option maxRecDepth 100000 in
theorem end_number (s : ByteArray) (i pb q r : Nat) (w : World) (hex : Bool) (hq : w.cell? ⟨q, 0, none⟩ = some (ptr pb)) (hr : w.cell? ⟨r, 0, none⟩ = some (.bool hex)) (hx : hex = decide (baseC s i = 88)) (hp : w.cell? ⟨pb, 0, none⟩ = some (.string s)) (ha : w.cell? ⟨pb, 1, none⟩ = some (.int .i64 (i : Int))) (hs : s.size ≤ 4010) (hi : i < s.size) :
    Calls Try.prog 41 #[ptr pb, .func (.func 45) #[] #[ptr q, ptr r]] w fun e w' => e = .returned (.int .i64 (run (numC s i) s.size (i + 1) : Nat)) ∧ Below w.heap.size w w' := by
  have HCC := Lib.hid (fun k w' (hb : Below w.heap.size w w') (hk : k < s.size) (hik : i < k) => number1_any s i k q r pb hex w' ((hb.cell (p := ⟨q, 0, none⟩) (World.block_lt_of_cell? _ _ hq)).trans hq) ((hb.cell (p := ⟨r, 0, none⟩) (World.block_lt_of_cell? _ _ hr)).trans hr) ((hb.cell (p := ⟨pb, 0, none⟩) (World.block_lt_of_cell? _ _ hp)).trans hp) hik hk hs hx)
  obtain ⟨e, he⟩ : ∃ e, run (numC s i) s.size (i + 1) = e := ⟨_, rfl⟩
  have HE := Lib.hid he
  have e1 : i + 1 ≤ e := by rw [← he]; exact le_run
  have e2 : e ≤ s.size := by rw [← he]; exact run_le (by omega)
  have HR := Lib.hid he
  rw [he]
  clear he
  unfold ptr at *
  go_enter Try.func41, Try.ntmps41
  go_wp2_with fail
  go_loopw [5] (fun v wr => ∃ k : Nat, i < k ∧ k ≤ e ∧ v = .int .i64 k ∧ Hid (run (numC s i) s.size k = e) ∧ Hid (Below w.heap.size w wr)) (fun v _ => s.size - (intOf v).toNat)
  case atStart => exact ⟨i + 1, by omega, e1, by go_num, HE, Lib.hid (Below.refl _ _)⟩
  case round =>
    obtain ⟨k, hik, hke, rfl, Hrun, BR⟩ := hrel
    have hp := (BR.out.cell (p := ⟨pb, 0, none⟩) (World.block_lt_of_cell? _ _ hp)).trans hp
    by_cases hlt : k < s.size
    · have HC0 := HCC.out k wr BR.out hlt hik
      obtain ⟨b, hb⟩ : ∃ b, (numC s i) k = b := ⟨_, rfl⟩
      have HB := Lib.hid hb
      have hb2 := hb
      (try simp only at hb2)
      rw [hb2] at HC0
      have HC := Lib.hid HC0
      clear HC0 hb hb2
      cases b
      · have hke2 : k = e := by rw [← Hrun.out]; exact (run_stop (fun h => absurd (HB.out.symm.trans h.2) (by decide))).symm
        subst hke2
        go_wp2_with fail
        refine HC.out.mono ?_
        rintro x w' ⟨rfl, bb⟩
        have BR2 := Lib.hid (BR.out.trans (bb.mono BR.out.size))
        clear bb
        go_wp2_with fail
        go_ret
        exact ⟨rfl, BR2.out⟩
      · have Hnx := Lib.hid (show run (numC s i) s.size (k + 1) = e by rw [← Hrun.out]; exact (run_step hlt HB.out).symm)
        have hke2 : k + 1 ≤ e := by rw [← Hnx.out]; exact le_run
        go_wp2_with fail
        refine HC.out.mono ?_
        rintro x w' ⟨rfl, bb⟩
        have BR2 := Lib.hid (BR.out.trans (bb.mono BR.out.size))
        clear bb
        go_wp2_with fail
        go_roundw
        case rel => exact ⟨k + 1, by omega, hke2, by go_num, Hnx, BR2⟩
        case measure => simp [intOf]; omega
    · have hke2 : k = e := by omega
      subst hke2
      go_wp2_with fail
      go_ret
      exact ⟨rfl, BR.out⟩
end Go.Proofs.Ytjhgibdebcapfaa
