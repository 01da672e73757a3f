/- The program's token. -/
import Derived.Test.YtjhgibdebcapfaaScanPK
import Derived.Test.YtjhgibdebcapfaaScanPO
import Derived.Test.YtjhgibdebcapfaaScanPU
namespace Go.Proofs.Ytjhgibdebcapfaa
open Go.RowKit
set_option linter.unusedSimpArgs false
set_option linter.unusedVariables false

theorem quo_rawrun (s : ByteArray) : ∀ m k, s.size - k = m → k ≤ s.size → quo s 96 k = if run (fun k => !decide (byteAt s k = 96)) s.size k = s.size then none else some (run (fun k => !decide (byteAt s k = 96)) s.size k + 1)
  | 0, k, hm, hk => by
    have he : k = s.size := by omega
    subst he
    rw [quo_end (Nat.le_refl _), run_stop (fun h => Nat.lt_irrefl _ h.1), if_pos rfl]
  | m + 1, k, hm, hk => by
    have hlt : k < s.size := by omega
    by_cases h96 : byteAt s k = 96
    · rw [quo_hit hlt h96, run_stop (fun h => by have h2 := h.2; rw [decide_eq_true h96] at h2; cases h2), if_neg (by omega)]
    · rw [quo_raw hlt h96 rfl, quo_rawrun s m (k + 1) (by omega) (by omega), ← run_step (p := fun k => !decide (byteAt s k = 96)) hlt (by rw [decide_eq_false h96]; rfl)]
theorem quoted_raw {s : ByteArray} {i : Nat} (hi : i < s.size) : quoG 96 (quo s 96 (i + 1)) = if run (fun k => !decide (byteAt s k = 96)) s.size (i + 1) = s.size then ⟨0, 0, 5⟩ else ⟨5, run (fun k => !decide (byteAt s k = 96)) s.size (i + 1) + 1, 0⟩ := by
  rw [quo_rawrun s _ (i + 1) rfl (by omega)]
  split <;> rfl
theorem num_first {s : ByteArray} {i : Nat} (h : isNum s i = true) : numC s i i = true := by
  unfold isNum at h
  unfold numC inB
  rcases Bool.or_eq_true_iff.1 h with h1 | h1
  · rw [h1]; simp
  · rw [Bool.and_eq_true_iff] at h1
    rw [h1.1]; simp
set_option maxHeartbeats 16000000 in
set_option maxRecDepth 100000 in
theorem ptoken_any (w : World) (B pb : Nat) (s : ByteArray) (i : Nat) (l : List Tk) (h : PS w B pb s i l) (hs : s.size ≤ 4010) (hi : i < s.size) (hl : l.length ≤ 20000) :
    Calls Try.prog 14 #[ptr pb] w fun en w' => TokP w w' B pb s i l (tokT s i) en := by
  have hlow := h.low
  have hpl := h.lt
  have c0 := h.cells.1
  have c1 := h.cells.2
  have HP := Lib.hid h
  have BD := Lib.hid (fun n => (show Below w.heap.size w (w.drewN n) from ⟨rfl, rfl, rfl, Nat.le_refl _, fun _ _ => rfl⟩))
  have BD2 := Lib.hid (fun n m => (show Below w.heap.size w ((w.drewN n).drewN m) from ⟨rfl, rfl, rfl, Nat.le_refl _, fun _ _ => rfl⟩))
  obtain ⟨c, hc⟩ : ∃ c : Int, (s[i].toNat : Int) = c := ⟨_, rfl⟩
  have hbc := (byteAt_eq hi).trans hc
  have HBC := Lib.hid hbc
  have HT : tokT s i = if letB c = true then nameT s i else if isNum s i = true then numberT s i else if isQuo s i = true then quotedT s i else operT s i := by unfold tokT; rw [hbc]
  have HL := fun w' => letter_any c w'
  have HD := fun w' => digit_any c w'
  unfold ptr
  clear h
  cases hlet : letB c <;> simp only [hlet] at HL <;> rw [hlet] at HT <;> have HLL := Lib.hid HL <;> clear HL
  rotate_left
  · have HN := fun w' (h : PS w' B pb s i l) => pname_any w' B pb s i l h hs hi hl (by rw [hbc]; unfold inB; rw [hlet]; rfl)
    rw [if_pos rfl] at HT
    have HTT := Lib.hid HT
    obtain ⟨⟨gk, gs, ge⟩, hg⟩ : ∃ g, nameT s i = g := ⟨_, rfl⟩
    rw [hg] at HN
    unfold ptr at HN
    have HNN := Lib.hid HN
    have HG := Lib.hid hg
    clear HT HN hg hlet HD hbc
    go_enter Try.func14, Try.ntmps14
    go_wp2_with fail
    go_quiet (fail)
    go_wp2_with fail
    refine (HLL.out _).mono ?_
    rintro x w' ⟨rfl, rfl⟩
    go_wp2_with fail
    refine (HNN.out _ (HP.out.below (BD.out _))).mono ?_
    rintro x w2 ⟨he, hp1, hp2, hb⟩
    subst he
    have F := Lib.hid (And.intro hp1 (And.intro hp2 hb))
    clear hp1 hp2 hb
    go_wp2_with fail
    go_ret
    unfold TokP
    rw [HTT.out, HG.out]
    exact ⟨rfl, F.out.1, F.out.2.1, ((BD.out _).mono (Nat.le_trans hlow (Nat.le_of_lt hpl))).trans F.out.2.2⟩
  rw [if_neg (by decide)] at HT
  have HDQ := HD
  cases hdig : digB c <;> simp only [hdig] at HD <;> have HDD := Lib.hid HD <;> clear HD HDQ
  rotate_left
  · have hnum : isNum s i = true := by unfold isNum; rw [hbc, hdig]; rfl
    rw [if_pos hnum] at HT
    have HN := fun w' (h : PS w' B pb s i l) => pnumber_any w' B pb s i l h hs hi hl (num_first hnum)
    have HTT := Lib.hid HT
    have hge : (numberT s i).err = 0 := rfl
    obtain ⟨⟨gk, gs, ge⟩, hg⟩ : ∃ g, numberT s i = g := ⟨_, rfl⟩
    rw [hg] at HN hge
    simp only at hge
    unfold ptr at HN
    have HNN := Lib.hid HN
    have HG := Lib.hid hg
    subst hge
    clear HT HN hg hlet hbc hdig
    go_enter Try.func14, Try.ntmps14
    go_wp2_with fail
    go_quiet (fail)
    go_wp2_with fail
    refine (HLL.out _).mono ?_
    rintro x w' ⟨rfl, rfl⟩
    go_wp2_with fail
    refine (HDD.out _).mono ?_
    rintro x w' ⟨rfl, rfl⟩
    go_wp2_with fail
    refine (HNN.out _ (HP.out.below (by first | exact BD.out _ | exact BD2.out _ _))).mono ?_
    rintro x w2 ⟨rfl, hp1, hb⟩
    have F := Lib.hid (And.intro hp1 hb)
    clear hp1 hb
    go_wp2_with fail
    go_ret
    unfold TokP
    rw [HTT.out, HG.out]
    exact ⟨rfl, fun _ => F.out.1, fun h => absurd rfl h, (Below.mono (by first | exact BD.out _ | exact BD2.out _ _) (Nat.le_trans hlow (Nat.le_of_lt hpl))).trans F.out.2⟩
  by_cases h46 : c = 46
  · have g46 : (c == 46) = true := by rw [h46]; rfl
    have n39 : (c == 39) = false := by rw [h46]; rfl
    have n34 : (c == 34) = false := by rw [h46]; rfl
    have n96 : (c == 96) = false := by rw [h46]; rfl
    by_cases h1 : i + 1 < s.size
    · obtain ⟨j, hj⟩ : ∃ j, i + 1 = j := ⟨_, rfl⟩
      have hjs : j < s.size := by omega
      obtain ⟨d, hd⟩ : ∃ d : Int, (s[j].toNat : Int) = d := ⟨_, rfl⟩
      have hbd : byteAt s (i + 1) = d := by rw [hj]; exact (byteAt_eq hjs).trans hd
      have HE := fun w' => (digit_any d w').mono (fun en w2 (hh : en = .returned (.bool (digB d)) ∧ w' = w2) => (show en = .returned (.bool (digB d)) ∧ w2 = w' from ⟨hh.1, hh.2.symm⟩))
      have hwr : IntKind.i64.wrap ((i : Int) + 1) = (j : Int) := by rw [IntWalk.i64_in _ (by omega)]; omega
      have hsum : (i : Int) + 1 = (j : Int) := by omega
      have hwj : IntKind.i64.wrap (j : Int) = (j : Int) := by rw [IntWalk.i64_in _ (by omega)]
      cases hdd : digB d <;> simp only [hdd] at HE <;> have HEE := Lib.hid HE <;> clear HE
      rotate_left
      · have hnum : isNum s i = true := by unfold isNum; rw [hbc, hbd, hdd, decide_eq_true h46]; simp
        rw [if_pos hnum] at HT
        have HN := fun w' (h : PS w' B pb s i l) => pnumber_any w' B pb s i l h hs hi hl (num_first hnum)
        have HTT := Lib.hid HT
        have hge : (numberT s i).err = 0 := rfl
        obtain ⟨⟨gk, gs, ge⟩, hg⟩ : ∃ g, numberT s i = g := ⟨_, rfl⟩
        rw [hg] at HN hge
        simp only at hge
        unfold ptr at HN
        have HNN := Lib.hid HN
        have HG := Lib.hid hg
        subst hge
        clear HT HN hg hlet hbc hdig h46 hbd hdd hj h1
        go_enter Try.func14, Try.ntmps14
        go_wp2_with fail
        go_quiet (fail)
        go_wp2_with fail
        refine (HLL.out _).mono ?_
        rintro x w' ⟨rfl, rfl⟩
        go_wp2_with fail
        refine (HDD.out _).mono ?_
        rintro x w' ⟨rfl, rfl⟩
        go_wp2_with fail
        go_quiet ((refine (HEE.out _).mono ?_; rintro _ _ ⟨rfl, rfl⟩; exact ⟨rfl, _, rfl⟩))
        go_wp2_with fail
        refine (HNN.out _ (HP.out.below (by first | exact BD.out _ | exact BD2.out _ _))).mono ?_
        rintro x w2 ⟨rfl, hp1, hb⟩
        have F := Lib.hid (And.intro hp1 hb)
        clear hp1 hb
        go_wp2_with fail
        go_ret
        unfold TokP
        rw [HTT.out, HG.out]
        exact ⟨rfl, fun _ => F.out.1, fun h => absurd rfl h, (Below.mono (by first | exact BD.out _ | exact BD2.out _ _) (Nat.le_trans hlow (Nat.le_of_lt hpl))).trans F.out.2⟩
      · have hnn : isNum s i = false := by unfold isNum; rw [hbc, hdig, hbd, hdd, Bool.and_false]; rfl
        have hnq : isQuo s i = false := by unfold isQuo; rw [hbc]; exact decide_eq_false (by omega)
        rw [if_neg (by rw [hnn]; decide), if_neg (by rw [hnq]; decide)] at HT
        have HN := fun w' (h : PS w' B pb s i l) => pop_any w' B pb s i l h hs hi hl
        have HTT := Lib.hid HT
        obtain ⟨⟨gk, gs, ge⟩, hg⟩ : ∃ g, operT s i = g := ⟨_, rfl⟩
        rw [hg] at HN
        unfold ptr at HN
        have HNN := Lib.hid HN
        have HG := Lib.hid hg
        clear HT HN hg hlet hbc hdig h46 hbd hdd hj h1 hnn hnq
        go_enter Try.func14, Try.ntmps14
        go_wp2_with fail
        go_quiet (fail)
        go_wp2_with fail
        refine (HLL.out _).mono ?_
        rintro x w' ⟨rfl, rfl⟩
        go_wp2_with fail
        refine (HDD.out _).mono ?_
        rintro x w' ⟨rfl, rfl⟩
        go_wp2_with fail
        go_quiet ((refine (HEE.out _).mono ?_; rintro _ _ ⟨rfl, rfl⟩; exact ⟨rfl, _, rfl⟩))
        go_wp2_with fail
        refine (HNN.out _ (HP.out.below (by first | exact BD.out _ | exact BD2.out _ _))).mono ?_
        rintro x w2 ⟨he, hp1, hp2, hb⟩
        subst he
        have F := Lib.hid (And.intro hp1 (And.intro hp2 hb))
        clear hp1 hp2 hb
        go_wp2_with fail
        go_ret
        unfold TokP
        rw [HTT.out, HG.out]
        exact ⟨rfl, F.out.1, F.out.2.1, (Below.mono (by first | exact BD.out _ | exact BD2.out _ _) (Nat.le_trans hlow (Nat.le_of_lt hpl))).trans F.out.2.2⟩
    · have hnn : isNum s i = false := by unfold isNum; rw [hbc, hdig, byteAt_none h1]; simp [digB]
      have hnq : isQuo s i = false := by unfold isQuo; rw [hbc]; exact decide_eq_false (by omega)
      have hwr : IntKind.i64.wrap ((i : Int) + 1) = (i : Int) + 1 := by rw [IntWalk.i64_in _ (by omega)]
      have h1D : decide ((i : Int) + 1 < (s.size : Int)) = false := decide_eq_false (by omega)
      have h1N : ¬ (i : Int) + 1 < (s.size : Int) := by omega
      rw [if_neg (by rw [hnn]; decide), if_neg (by rw [hnq]; decide)] at HT
      have HN := fun w' (h : PS w' B pb s i l) => pop_any w' B pb s i l h hs hi hl
      have HTT := Lib.hid HT
      obtain ⟨⟨gk, gs, ge⟩, hg⟩ : ∃ g, operT s i = g := ⟨_, rfl⟩
      rw [hg] at HN
      unfold ptr at HN
      have HNN := Lib.hid HN
      have HG := Lib.hid hg
      clear HT HN hg hlet hbc hdig h46 hnn hnq
      go_enter Try.func14, Try.ntmps14
      go_wp2_with fail
      go_quiet (fail)
      go_wp2_with fail
      refine (HLL.out _).mono ?_
      rintro x w' ⟨rfl, rfl⟩
      go_wp2_with fail
      refine (HDD.out _).mono ?_
      rintro x w' ⟨rfl, rfl⟩
      go_wp2_with fail
      go_quiet (fail)
      go_wp2_with fail
      refine (HNN.out _ (HP.out.below (by first | exact BD.out _ | exact BD2.out _ _))).mono ?_
      rintro x w2 ⟨he, hp1, hp2, hb⟩
      subst he
      have F := Lib.hid (And.intro hp1 (And.intro hp2 hb))
      clear hp1 hp2 hb
      go_wp2_with fail
      go_ret
      unfold TokP
      rw [HTT.out, HG.out]
      exact ⟨rfl, F.out.1, F.out.2.1, (Below.mono (by first | exact BD.out _ | exact BD2.out _ _) (Nat.le_trans hlow (Nat.le_of_lt hpl))).trans F.out.2.2⟩
  have g46 : (c == 46) = false := by rw [beq_eq_false_iff_ne]; exact h46
  have hnn : isNum s i = false := by unfold isNum; rw [hbc, hdig, decide_eq_false h46]; rfl
  by_cases h39 : c = 39
  · have g39 : (c == 39) = true := by rw [h39]; rfl
    have hbq : byteAt s i = 39 := hbc.trans h39
    rw [if_neg (by rw [hnn]; decide), if_pos (by unfold isQuo; rw [hbc]; exact decide_eq_true (.inl h39))] at HT
    have HN := fun w' (h : PS w' B pb s i l) => pquoted_any w' B pb s i l h hs hi hl 39 4 hbq (by decide) (by decide) rfl
    unfold quotedT at HT
    rw [hbq] at HT
    have HTT := Lib.hid HT
    obtain ⟨⟨gk, gs, ge⟩, hg⟩ : ∃ g, quoG 39 (quo s 39 (i + 1)) = g := ⟨_, rfl⟩
    rw [hg] at HN
    unfold ptr at HN
    have HNN := Lib.hid HN
    have HG := Lib.hid hg
    clear HT HN hg hlet hbc hdig h46 hnn h39 hbq
    go_enter Try.func14, Try.ntmps14
    go_wp2_with fail
    go_quiet (fail)
    go_wp2_with fail
    refine (HLL.out _).mono ?_
    rintro x w' ⟨rfl, rfl⟩
    go_wp2_with fail
    refine (HDD.out _).mono ?_
    rintro x w' ⟨rfl, rfl⟩
    go_wp2_with fail
    go_quiet (fail)
    go_wp2_with fail
    refine (HNN.out _ (HP.out.below (by first | exact BD.out _ | exact BD2.out _ _))).mono ?_
    rintro x w2 ⟨he, hp1, hp2, hb⟩
    subst he
    have F := Lib.hid (And.intro hp1 (And.intro hp2 hb))
    clear hp1 hp2 hb
    go_wp2_with fail
    go_ret
    unfold TokP
    rw [HTT.out, HG.out]
    exact ⟨rfl, F.out.1, F.out.2.1, (Below.mono (by first | exact BD.out _ | exact BD2.out _ _) (Nat.le_trans hlow (Nat.le_of_lt hpl))).trans F.out.2.2⟩
  have g39 : (c == 39) = false := by rw [beq_eq_false_iff_ne]; exact h39
  by_cases h34 : c = 34
  · have g34 : (c == 34) = true := by rw [h34]; rfl
    have hbq : byteAt s i = 34 := hbc.trans h34
    rw [if_neg (by rw [hnn]; decide), if_pos (by unfold isQuo; rw [hbc]; exact decide_eq_true (.inr (.inl h34)))] at HT
    have HN := fun w' (h : PS w' B pb s i l) => pquoted_any w' B pb s i l h hs hi hl 34 5 hbq (by decide) (by decide) rfl
    unfold quotedT at HT
    rw [hbq] at HT
    have HTT := Lib.hid HT
    obtain ⟨⟨gk, gs, ge⟩, hg⟩ : ∃ g, quoG 34 (quo s 34 (i + 1)) = g := ⟨_, rfl⟩
    rw [hg] at HN
    unfold ptr at HN
    have HNN := Lib.hid HN
    have HG := Lib.hid hg
    clear HT HN hg hlet hbc hdig h46 hnn h39 h34 hbq
    go_enter Try.func14, Try.ntmps14
    go_wp2_with fail
    go_quiet (fail)
    go_wp2_with fail
    refine (HLL.out _).mono ?_
    rintro x w' ⟨rfl, rfl⟩
    go_wp2_with fail
    refine (HDD.out _).mono ?_
    rintro x w' ⟨rfl, rfl⟩
    go_wp2_with fail
    go_quiet (fail)
    go_wp2_with fail
    refine (HNN.out _ (HP.out.below (by first | exact BD.out _ | exact BD2.out _ _))).mono ?_
    rintro x w2 ⟨he, hp1, hp2, hb⟩
    subst he
    have F := Lib.hid (And.intro hp1 (And.intro hp2 hb))
    clear hp1 hp2 hb
    go_wp2_with fail
    go_ret
    unfold TokP
    rw [HTT.out, HG.out]
    exact ⟨rfl, F.out.1, F.out.2.1, (Below.mono (by first | exact BD.out _ | exact BD2.out _ _) (Nat.le_trans hlow (Nat.le_of_lt hpl))).trans F.out.2.2⟩
  have g34 : (c == 34) = false := by rw [beq_eq_false_iff_ne]; exact h34
  by_cases h96 : c = 96
  · have g96 : (c == 96) = true := by rw [h96]; rfl
    have hbq : byteAt s i = 96 := hbc.trans h96
    rw [if_neg (by rw [hnn]; decide), if_pos (by unfold isQuo; rw [hbc]; exact decide_eq_true (.inr (.inr h96)))] at HT
    have HN := fun w' (h : PS w' B pb s i l) => praw_any w' B pb s i l h hs hi hl _ rfl
    unfold quotedT at HT
    rw [hbq, quoted_raw hi] at HT
    have HTT := Lib.hid HT
    obtain ⟨⟨gk, gs, ge⟩, hg⟩ : ∃ g : Got, (if run (fun k => !decide (byteAt s k = 96)) s.size (i + 1) = s.size then ⟨0, 0, 5⟩ else ⟨5, run (fun k => !decide (byteAt s k = 96)) s.size (i + 1) + 1, 0⟩) = g := ⟨_, rfl⟩
    rw [hg] at HN
    unfold ptr at HN
    have HNN := Lib.hid HN
    have HG := Lib.hid hg
    clear HT HN hg hlet hbc hdig h46 hnn h39 h34 h96 hbq
    go_enter Try.func14, Try.ntmps14
    go_wp2_with fail
    go_quiet (fail)
    go_wp2_with fail
    refine (HLL.out _).mono ?_
    rintro x w' ⟨rfl, rfl⟩
    go_wp2_with fail
    refine (HDD.out _).mono ?_
    rintro x w' ⟨rfl, rfl⟩
    go_wp2_with fail
    go_quiet (fail)
    go_wp2_with fail
    refine (HNN.out _ (HP.out.below (by first | exact BD.out _ | exact BD2.out _ _))).mono ?_
    rintro x w2 ⟨he, hp1, hp2, hb⟩
    subst he
    have F := Lib.hid (And.intro hp1 (And.intro hp2 hb))
    clear hp1 hp2 hb
    go_wp2_with fail
    go_ret
    unfold TokP
    rw [HTT.out, HG.out]
    exact ⟨rfl, F.out.1, F.out.2.1, (Below.mono (by first | exact BD.out _ | exact BD2.out _ _) (Nat.le_trans hlow (Nat.le_of_lt hpl))).trans F.out.2.2⟩
  have g96 : (c == 96) = false := by rw [beq_eq_false_iff_ne]; exact h96
  have hnq : isQuo s i = false := by unfold isQuo; rw [hbc]; exact decide_eq_false (by omega)
  rw [if_neg (by rw [hnn]; decide), if_neg (by rw [hnq]; decide)] at HT
  have HN := fun w' (h : PS w' B pb s i l) => pop_any w' B pb s i l h hs hi hl
  have HTT := Lib.hid HT
  obtain ⟨⟨gk, gs, ge⟩, hg⟩ : ∃ g, operT s i = g := ⟨_, rfl⟩
  rw [hg] at HN
  unfold ptr at HN
  have HNN := Lib.hid HN
  have HG := Lib.hid hg
  clear HT HN hg hlet hbc hdig h46 hnn hnq h39 h34 h96
  go_enter Try.func14, Try.ntmps14
  go_wp2_with fail
  go_quiet (fail)
  go_wp2_with fail
  refine (HLL.out _).mono ?_
  rintro x w' ⟨rfl, rfl⟩
  go_wp2_with fail
  refine (HDD.out _).mono ?_
  rintro x w' ⟨rfl, rfl⟩
  go_wp2_with fail
  go_quiet (fail)
  go_wp2_with fail
  refine (HNN.out _ (HP.out.below (by first | exact BD.out _ | exact BD2.out _ _))).mono ?_
  rintro x w2 ⟨he, hp1, hp2, hb⟩
  subst he
  have F := Lib.hid (And.intro hp1 (And.intro hp2 hb))
  clear hp1 hp2 hb
  go_wp2_with fail
  go_ret
  unfold TokP
  rw [HTT.out, HG.out]
  exact ⟨rfl, F.out.1, F.out.2.1, (Below.mono (by first | exact BD.out _ | exact BD2.out _ _) (Nat.le_trans hlow (Nat.le_of_lt hpl))).trans F.out.2.2⟩
end Go.Proofs.Ytjhgibdebcapfaa
