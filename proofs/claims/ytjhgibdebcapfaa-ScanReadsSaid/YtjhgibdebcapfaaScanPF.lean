/- The program's skip. -/
import Derived.Test.YtjhgibdebcapfaaScanPE
import Derived.Deep.LoopGhost
import Derived.WalkMore
namespace Go.Proofs.Ytjhgibdebcapfaa
open Go.RowKit
set_option linter.unusedSimpArgs false
set_option linter.unusedVariables false

/-- What skip leaves: R is what the reckoning from here on gives. -/
def SkipP (w' : World) (B pb : Nat) (s : ByteArray) (i0 : Nat) (R : Res) (en : Ending) : Prop :=
  (∃ i l e, en = .returned (.int .i64 e) ∧ e ≠ 0 ∧ PS w' B pb s i l ∧ R = ⟨[], i, e⟩) ∨
  (∃ l, en = .returned (.int .i64 0) ∧ PS w' B pb s s.size (lineT true s.size l) ∧ R = closeT s l ∧ GoodL l ∧ l.length ≤ 2 * s.size) ∨
  (∃ i l, en = .returned (.int .i64 0) ∧ i0 ≤ i ∧ i < s.size ∧ PS w' B pb s i l ∧ R = scanR s i l ∧ (skipT s i).err = 0 ∧ ¬ i < (skipT s i).stop ∧ GoodL l ∧ l.length ≤ 2 * i)
set_option maxHeartbeats 16000000 in
set_option maxRecDepth 100000 in
theorem pskip_any (w : World) (B pb : Nat) (s : ByteArray) (i : Nat) (l : List Tk) (h : PS w B pb s i l) (hg : GoodL l) (hM : MaxAt w) (hs : s.size ≤ 4000) (hi : i ≤ s.size) (hl : l.length ≤ 2 * i) (hMB : 0 < B) :
    Calls Try.prog 13 #[ptr pb] w fun en w' => SkipP w' B pb s i (scanR s i l) en ∧ Below B w w' := by
  obtain ⟨R, hR⟩ : ∃ R, scanR s i l = R := ⟨_, rfl⟩
  have HR := Lib.hid hR
  have HP0 := Lib.hid h
  have HG0 := Lib.hid hg
  have HM := Lib.hid hM
  have HMx : ∀ w', Below B w w' → MaxAt w' := fun w' hb => by
    obtain ⟨m, hm⟩ := hM
    exact ⟨m, (hb.cell (p := ⟨0, 0, none⟩) hMB).trans hm⟩
  have HMM := Lib.hid HMx
  rw [hR]
  unfold ptr
  clear h hg hM hR HMx
  go_enter Try.func13, Try.ntmps13
  go_wp2_with fail
  go_step3
  go_wp2_with fail
  go_step3
  go_wp2_with fail
  go_loopg [] (s.size - i) (fun k wr => ∃ (j : Nat) (m : List Tk), j + k = s.size ∧ i ≤ j ∧ m.length ≤ 2 * j ∧ Hid (scanR s j m = R) ∧ Hid (PS wr B pb s j m) ∧ Hid (GoodL m) ∧ Hid (Below B w wr))
  case atStart => exact ⟨i, l, by omega, Nat.le_refl _, hl, HR, HP0, HG0, Lib.hid (Below.refl _ _)⟩
  case round =>
    obtain ⟨j, m, hjk, hij, hml, Hsc, HP, HG, BR⟩ := hrel
    have c0 := HP.out.cells.1
    have c1 := HP.out.cells.2
    have BQ := Lib.hid (fun n => (show Below wr.heap.size wr (wr.drewN n) from ⟨rfl, rfl, rfl, Nat.le_refl _, fun _ _ => rfl⟩))
    have hlw := Nat.le_trans HP.out.low (Nat.le_of_lt HP.out.lt)
    by_cases hlt : j < s.size
    · have hltI : (j : Int) < (s.size : Int) := by omega
      obtain ⟨c, hc⟩ : ∃ c : Int, (s[j].toNat : Int) = c := ⟨_, rfl⟩
      have HC := Lib.hid ((byteAt_eq hlt).trans hc)
      obtain ⟨vv, b1, b2, b3⟩ := HP.out.ex
      have fr1 := b1.free 1
      clear b1 b2 b3
      by_cases hbl : c = 9 ∨ c = 13 ∨ c = 32
      · have hk := skip_blank HC.out hbl
        have HNX := Lib.hid (show scanR s (j + 1) m = R by rw [← Hsc.out, scanR_skip hlt (by rw [hk]) (by rw [hk]; exact Nat.lt_succ_self _), hk, lineT_no])
        clear hk
        rcases hbl with h | h | h
        · have g9 : (c == 9) = true := by rw [h]; rfl
          clear h
          go_wp2_with fail
          go_quiet (fail)
          go_wp2_with fail
          go_quiet (fail)
          go_wp2_with fail
          go_roundg (s.size - (j + 1))
          case rel => exact ⟨j + 1, m, by omega, by omega, by omega, HNX, Lib.hid ((HP.out.below (BQ.out _)).moved (j + 1)), HG, Lib.hid ((BR.out.trans ((BQ.out _).mono hlw)).setCell HP.out.low (p := ⟨pb, 1, none⟩) _)⟩
          case measure => omega
        · have g9 : (c == 9) = false := by rw [h]; rfl
          have g13 : (c == 13) = true := by rw [h]; rfl
          clear h
          go_wp2_with fail
          go_quiet (fail)
          go_wp2_with fail
          go_quiet (fail)
          go_wp2_with fail
          go_roundg (s.size - (j + 1))
          case rel => exact ⟨j + 1, m, by omega, by omega, by omega, HNX, Lib.hid ((HP.out.below (BQ.out _)).moved (j + 1)), HG, Lib.hid ((BR.out.trans ((BQ.out _).mono hlw)).setCell HP.out.low (p := ⟨pb, 1, none⟩) _)⟩
          case measure => omega
        · have g9 : (c == 9) = false := by rw [h]; rfl
          have g13 : (c == 13) = false := by rw [h]; rfl
          have g32 : (c == 32) = true := by rw [h]; rfl
          clear h
          go_wp2_with fail
          go_quiet (fail)
          go_wp2_with fail
          go_quiet (fail)
          go_wp2_with fail
          go_roundg (s.size - (j + 1))
          case rel => exact ⟨j + 1, m, by omega, by omega, by omega, HNX, Lib.hid ((HP.out.below (BQ.out _)).moved (j + 1)), HG, Lib.hid ((BR.out.trans ((BQ.out _).mono hlw)).setCell HP.out.low (p := ⟨pb, 1, none⟩) _)⟩
          case measure => omega
      · have g9 : (c == 9) = false := by rw [beq_eq_false_iff_ne]; omega
        have g13 : (c == 13) = false := by rw [beq_eq_false_iff_ne]; omega
        have g32 : (c == 32) = false := by rw [beq_eq_false_iff_ne]; omega
        by_cases h10 : c = 10
        · have hk := skip_nl (HC.out.trans h10)
          have g10 : (c == 10) = true := by rw [h10]; rfl
          have HNX := Lib.hid (show scanR s (j + 1) (lineT true j m) = R by rw [← Hsc.out, scanR_skip hlt (by rw [hk]) (by rw [hk]; exact Nat.lt_succ_self _), hk])
          have hll := lineT_len true j m
          have HLL := Lib.hid hll
          have HLN := fun n => line_any (wr.drewN n) B pb s j m (HP.out.below (BQ.out n)) HG.out (by omega) (by omega)
          unfold ptr at HLN
          have HLN2 := Lib.hid HLN
          clear hk h10 hbl HLN hll
          go_wp2_with fail
          go_quiet (fail)
          go_wp2_with fail
          go_quiet (fail)
          go_wp2_with fail
          refine (HLN2.out _).mono ?_
          rintro x w3 ⟨rfl, hp3, hb3⟩
          have HP3 := Lib.hid hp3
          have B3 := Lib.hid ((BR.out.trans ((BQ.out _).mono hlw)).trans hb3)
          clear hp3 hb3 c0 c1 fr1
          have c1 := HP3.out.cells.2
          obtain ⟨vv, b1, b2, b3⟩ := HP3.out.ex
          have fr1 := b1.free 1
          clear b1 b2 b3
          go_wp2_with fail
          go_roundg (s.size - (j + 1))
          case rel => exact ⟨j + 1, lineT true j m, by omega, by omega, by have := HLL.out; omega, HNX, Lib.hid (HP3.out.moved (j + 1)), Lib.hid (HG.out.nl j), Lib.hid (B3.out.setCell HP3.out.low (p := ⟨pb, 1, none⟩) _)⟩
          case measure => omega
        have g10 : (c == 10) = false := by rw [beq_eq_false_iff_ne]; exact h10
        by_cases h47 : c = 47
        · have g47 : (c == 47) = true := by rw [h47]; rfl
          have HCM := fun n => pcomment_any (wr.drewN n) B pb s j m (HP.out.below (BQ.out n)) HG.out (HMM.out _ (BR.out.trans ((BQ.out n).mono hlw))) (by omega) hlt (by omega) (HC.out.trans h47)
          obtain ⟨⟨ks, kl, ke⟩, hk⟩ : ∃ k, skipT s j = k := ⟨_, rfl⟩
          rw [hk] at HCM
          unfold ptr at HCM
          simp only at HCM
          have HK := Lib.hid hk
          by_cases hke : ke = 0
          · subst hke
            have hsl := skip_le (s := s) hlt (by rw [hk])
            rw [hk] at hsl
            simp only at hsl
            by_cases hks : j < ks
            · simp only [decide_eq_true (show (0 : Int) = 0 ∧ j < ks from ⟨rfl, hks⟩)] at HCM
              have HCC := Lib.hid HCM
              have HNX := Lib.hid (show scanR s ks (lineT kl j m) = R by rw [← Hsc.out, scanR_skip hlt (by rw [hk]) (by rw [hk]; exact hks), hk])
              have HLL := Lib.hid (lineT_len kl j m)
              have HGG := Lib.hid (show GoodL (lineT kl j m) from match kl with | false => (lineT_no j m).symm ▸ HG.out | true => HG.out.nl j)
              clear HCM hk h47 h10 hbl
              go_wp2_with fail
              go_quiet (fail)
              go_wp2_with fail
              go_quiet (fail)
              go_wp2_with fail
              refine (HCC.out _).mono ?_
              rintro x w3 ⟨rfl, hp3, hp4, hb3⟩
              have B3 := Lib.hid ((BR.out.trans ((BQ.out _).mono hlw)).trans hb3)
              have HP3 := Lib.hid (And.intro hp3 hp4)
              clear hp3 hp4 hb3
              go_wp2_with fail
              go_roundg (s.size - ks)
              case rel => exact ⟨ks, lineT kl j m, by omega, by omega, by have := HLL.out; omega, HNX, Lib.hid (HP3.out.1 (by trivial)), HGG, B3⟩
              case measure => omega
            · simp only [decide_eq_false (show ¬ ((0 : Int) = 0 ∧ j < ks) from fun hh => hks hh.2)] at HCM
              have HCC := Lib.hid HCM
              have HLN := Lib.hid (show kl = false by have := skip_line (s := s) (i := j) (by rw [hk]) (by rw [hk]; exact hks); rw [hk] at this; exact this)
              have HKS := Lib.hid (show ks = j by
                have h1 : j ≤ ks := by
                  have h5 : (skipT s j).stop = ks := by rw [hk]
                  rcases Nat.lt_or_ge ks j with h6 | h6
                  · exfalso
                    unfold skipT at hk
                    rw [HC.out.trans h47, if_neg (by decide), if_neg (by decide), if_neg (by decide)] at hk
                    split at hk
                    · injection hk with a1; have := le_run (p := fun k => !decide (byteAt s k = 10)) (n := s.size) (i := j + 2); omega
                    · split at hk
                      · injection hk with a1; omega
                      · simp only at hk
                        split at hk
                        · injection hk with a1 a2 a3; exact absurd a3 (by decide)
                        · injection hk with a1; have := le_run (p := comC s) (n := s.size) (i := j + 2); omega
                  · exact h6
                omega)
              clear HCM hk h47 h10 hbl
              go_wp2_with fail
              go_quiet (fail)
              go_wp2_with fail
              go_quiet (fail)
              go_wp2_with fail
              refine (HCC.out _).mono ?_
              rintro x w3 ⟨rfl, hp3, hp4, hb3⟩
              have B3 := Lib.hid ((BR.out.trans ((BQ.out _).mono hlw)).trans hb3)
              have HP3 := Lib.hid (And.intro hp3 hp4)
              clear hp3 hp4 hb3
              go_wp2_with fail
              try simp only [Exit.inBlock, Exit.then, Exit.noGoto]
              refine bodyPost_ret (results_tmp rfl _ _ _) rfl ?_
              refine ⟨.inr (.inr ⟨j, m, rfl, hij, hlt, ?_, Hsc.out.symm, by rw [HK.out], by rw [HK.out]; exact hks, HG.out, hml⟩), B3.out⟩
              have := HP3.out.1 (by trivial)
              rw [HLN.out, lineT_no, HKS.out] at this
              exact this
          · simp only [decide_eq_false (show ¬ (ke = 0 ∧ j < ks) from fun hh => hke hh.1)] at HCM
            have HCC := Lib.hid HCM
            have n0 : (ke == 0) = false := by rw [beq_eq_false_iff_ne]; exact hke
            have n1 : (ke != 0) = true := by rw [bne, n0]; rfl
            have HRB := Lib.hid (show R = ⟨[], j, ke⟩ by rw [← Hsc.out, scanR_bad hlt (by rw [hk]; exact hke), hk])
            have HKE := Lib.hid hke
            clear HCM hk h47 h10 hbl hke
            go_wp2_with fail
            go_quiet (fail)
            go_wp2_with fail
            go_quiet (fail)
            go_wp2_with fail
            refine (HCC.out _).mono ?_
            rintro x w3 ⟨rfl, hp3, hp4, hb3⟩
            have B3 := Lib.hid ((BR.out.trans ((BQ.out _).mono hlw)).trans hb3)
            have HP3 := Lib.hid (And.intro hp3 hp4)
            clear hp3 hp4 hb3
            go_wp2_with fail
            try simp only [Exit.inBlock, Exit.then, Exit.noGoto]
            refine bodyPost_ret (results_tmp rfl _ _ _) rfl ?_
            exact ⟨.inl ⟨j, m, ke, rfl, HKE.out, HP3.out.2 HKE.out, HRB.out⟩, B3.out⟩
        have g47 : (c == 47) = false := by rw [beq_eq_false_iff_ne]; exact h47
        have HK := Lib.hid (skip_no HC.out hbl h10 h47)
        clear hbl h10 h47
        go_wp2_with fail
        go_quiet (fail)
        go_wp2_with fail
        go_quiet (fail)
        go_wp2_with fail
        try simp only [Exit.inBlock, Exit.then, Exit.noGoto]
        refine bodyPost_ret (results_tmp rfl _ _ _) rfl ?_
        exact ⟨.inr (.inr ⟨j, m, rfl, hij, hlt, HP.out.below (BQ.out _), Hsc.out.symm, by rw [HK.out], by rw [HK.out]; exact Nat.lt_irrefl _, HG.out, hml⟩), BR.out.trans ((BQ.out _).mono hlw)⟩
    · have hje : j = s.size := by omega
      have hltI : ¬ (j : Int) < (s.size : Int) := by omega
      have HRR := Lib.hid (show R = closeT s m by rw [← Hsc.out, hje]; exact scanR_end (Nat.le_refl _))
      have HLN := Lib.hid (fun n => line_any (wr.drewN n) B pb s j m (HP.out.below (BQ.out n)) HG.out (by omega) (by omega))
      have HLN2 := HLN.out
      unfold ptr at HLN2
      go_wp2_with fail
      go_quiet (fail)
      go_wp2_with fail
      refine (HLN2 _).mono ?_
      rintro x w3 ⟨rfl, hp3, hb3⟩
      have HP3 := Lib.hid hp3
      have B3 := Lib.hid ((BR.out.trans ((BQ.out _).mono hlw)).trans hb3)
      clear hp3 hb3
      go_wp2_with fail
      try simp only [Exit.inBlock, Exit.then, Exit.noGoto]
      refine bodyPost_ret (results_tmp rfl _ _ _) rfl ?_
      refine ⟨.inr (.inl ⟨m, rfl, ?_, HRR.out, HG.out, by omega⟩), B3.out⟩
      have hp := HP3.out
      rw [hje] at hp
      exact hp
end Go.Proofs.Ytjhgibdebcapfaa
