/- The reference's Right, same, Like. -/
import Derived.Test.YtbdhmelebedpiaaGreatDoorSemRefCmp
namespace Go.Proofs.YtbdhmelebedpiaaGreatDoor
open Go.RowKit
set_option linter.unusedSimpArgs false
set_option linter.unusedVariables false

def okRef (s : ByteArray) : Bool := wordB s && !decide (40 < s.size) && (!numB s || (isnumB s && !greatB s))
def okBld (s : ByteArray) : Bool := wordB s && !decide (40 < s.size)
def refRightB (v : Vr) : Bool := decide (0 ≤ v.ma) && decide (0 ≤ v.mi) && decide (0 ≤ v.pa) && decide (v.pre.length ≤ 8) && decide (v.build.length ≤ 8) && v.pre.all okRef && v.build.all okBld
theorem okRef_eq (s : ByteArray) : okRef s = (okPre s && !longWord s) := by
  unfold okRef okPre preB longWord
  cases hn : numB s
  · simp
  · cases hi : isnumB s
    · simp
    · have h := numRes_val hi
      rw [h.1]
      cases wordB s <;> cases greatB s <;> simp
theorem all_and {p q : ByteArray → Bool} (l : List ByteArray) : l.all (fun s => p s && q s) = (l.all p && l.all q) := by
  induction l with
  | nil => rfl
  | cons a r ih => rw [List.all_cons, List.all_cons, List.all_cons, ih]; cases p a <;> cases q a <;> simp
theorem not_any {p : ByteArray → Bool} (l : List ByteArray) : (!l.any p) = l.all (fun s => !p s) := by
  induction l with
  | nil => rfl
  | cons a r ih => rw [List.any_cons, List.all_cons, ← ih]; cases p a <;> simp
theorem refRight_eq (v : Vr) : refRightB v = rightB v := by
  have h1 : v.pre.all okRef = (v.pre.all okPre && !v.pre.any longWord) := by
    rw [not_any, ← all_and]
    exact congrArg (List.all v.pre) (funext okRef_eq)
  have h2 : v.build.all okBld = ((!v.build.any badWord) && !v.build.any longWord) := by
    rw [not_any, not_any, ← all_and]
    exact congrArg (List.all v.build) (funext fun s => by unfold okBld badWord longWord; simp)
  unfold refRightB rightB fewB
  rw [h1, h2]
  generalize decide (0 ≤ v.ma) = a1
  generalize decide (0 ≤ v.mi) = a2
  generalize decide (0 ≤ v.pa) = a3
  generalize decide (v.pre.length ≤ 8) = a4
  generalize decide (v.build.length ≤ 8) = a5
  generalize v.pre.all okPre = a6
  generalize v.pre.any longWord = a7
  generalize v.build.any badWord = a8
  generalize v.build.any longWord = a9
  cases a1 <;> cases a2 <;> cases a3 <;> cases a4 <;> cases a5 <;> cases a6 <;> cases a7 <;> cases a8 <;> cases a9 <;> rfl
theorem refright_neg {V : Vr} (h : V.ma < 0 ∨ V.mi < 0 ∨ V.pa < 0 ∨ 8 < V.pre.length ∨ 8 < V.build.length ∨ V.pre.all okRef = false ∨ V.build.all okBld = false) : refRightB V = false := by
  rw [Bool.eq_false_iff]
  intro ha
  unfold refRightB at ha
  simp only [Bool.and_eq_true, decide_eq_true_eq] at ha
  obtain ⟨⟨⟨⟨⟨⟨a, b⟩, c⟩, d⟩, e⟩, f⟩, g⟩ := ha
  rcases h with h | h | h | h | h | h | h
  · omega
  · omega
  · omega
  · omega
  · omega
  · rw [f] at h; cases h
  · rw [g] at h; cases h
theorem refright_yes {V : Vr} (a : 0 ≤ V.ma) (b : 0 ≤ V.mi) (c : 0 ≤ V.pa) (d : V.pre.length ≤ 8) (e : V.build.length ≤ 8) (f : V.pre.all okRef = true) (g : V.build.all okBld = true) : refRightB V = true := by
  unfold refRightB
  rw [decide_eq_true a, decide_eq_true b, decide_eq_true c, decide_eq_true d, decide_eq_true e, f, g]
  rfl
set_option maxHeartbeats 16000000 in
set_option maxRecDepth 100000 in
theorem refright_any (V : Vr) (po bo : Option Addr) (pc bc : Nat) (w : World) (hv : VerC w po bo V) :
    Calls Tryz.prog 8 #[verV V po pc bo bc] w fun e w' => e = .returned (.bool (rightB V)) ∧ Below w.heap.size w w' := by
  rw [← refRight_eq]
  unfold verV
  have hlp := hv.pl
  have hlb := hv.bl
  have HV := Lib.hid hv
  clear hv
  by_cases c1 : V.ma < 0
  · have Hn := Lib.hid (refright_neg (V := V) (.inl c1))
    go_enter Tryz.func8, Tryz.ntmps8
    go_wp2_with fail
    go_ret
    exact ⟨ret_bool Hn.out.symm, (Below.refl _ _).alloc (Nat.le_refl _) _⟩
  by_cases c2 : V.mi < 0
  · have Hn := Lib.hid (refright_neg (V := V) (.inr (.inl c2)))
    go_enter Tryz.func8, Tryz.ntmps8
    go_wp2_with fail
    go_ret
    exact ⟨ret_bool Hn.out.symm, (Below.refl _ _).alloc (Nat.le_refl _) _⟩
  by_cases c3 : V.pa < 0
  · have Hn := Lib.hid (refright_neg (V := V) (.inr (.inr (.inl c3))))
    go_enter Tryz.func8, Tryz.ntmps8
    go_wp2_with fail
    go_ret
    exact ⟨ret_bool Hn.out.symm, (Below.refl _ _).alloc (Nat.le_refl _) _⟩
  by_cases c4 : 8 < V.pre.length
  · have Hn := Lib.hid (refright_neg (V := V) (.inr (.inr (.inr (.inl c4)))))
    have c4I : (8 : Int) < (V.pre.length : Int) := by omega
    go_enter Tryz.func8, Tryz.ntmps8
    go_wp2_with fail
    go_ret
    exact ⟨ret_bool Hn.out.symm, (Below.refl _ _).alloc (Nat.le_refl _) _⟩
  by_cases c5 : 8 < V.build.length
  · have Hn := Lib.hid (refright_neg (V := V) (.inr (.inr (.inr (.inr (.inl c5))))))
    have c5I : (8 : Int) < (V.build.length : Int) := by omega
    go_enter Tryz.func8, Tryz.ntmps8
    go_wp2_with fail
    go_ret
    exact ⟨ret_bool Hn.out.symm, (Below.refl _ _).alloc (Nat.le_refl _) _⟩
  have d1 : 0 ≤ V.ma := by omega
  have d2 : 0 ≤ V.mi := by omega
  have d3 : 0 ≤ V.pa := by omega
  have d4 : V.pre.length ≤ 8 := by omega
  have d5 : V.build.length ≤ 8 := by omega
  have d4n : ¬ (8 : Int) < (V.pre.length : Int) := by omega
  have d5n : ¬ (8 : Int) < (V.build.length : Int) := by omega
  have D1 := Lib.hid (And.intro d1 (And.intro d2 (And.intro d3 (And.intro d4 d5))))
  clear c1 c2 c3 hlp hlb
  obtain ⟨w1, hw1⟩ : ∃ w1, w.alloc (.cells #[.int .i64 V.ma, .int .i64 V.mi, .int .i64 V.pa, .slice po V.pre.length pc, .slice bo V.build.length bc] 24) = w1 := ⟨_, rfl⟩
  obtain ⟨bw, hz, x0, x1, x2, x3, x4⟩ := box5 hw1
  have BW := Lib.hid bw
  have RP := Lib.hid (HV.out.pre.below bw)
  have RB := Lib.hid (HV.out.build.below bw)
  have X4 := Lib.hid x4
  clear bw hz
  go_enter Tryz.func8, Tryz.ntmps8
  go_wp2_with fail
  clear hw1 x0 x1 x2 x3 x4 d1 d2 d3 d4n d5n c4 c5
  go_loop [35] (fun i => ∃ k : Nat, k ≤ V.pre.length ∧ i = .int .i64 k ∧ Hid (∀ j (hj : j < V.pre.length), j < k → okRef V.pre[j] = true)) (fun i => V.pre.length - (intOf i).toNat)
  case atStart => exact ⟨0, Nat.zero_le _, rfl, Lib.hid (fun j _ hj => absurd hj (Nat.not_lt_zero _))⟩
  case round =>
    obtain ⟨k, hk, rfl, Hok⟩ := hrel
    by_cases hlt : k < V.pre.length
    · have hsz := HV.out.ps _ (List.getElem_mem hlt)
      obtain ⟨b, off, rfl, hb, hc⟩ := RP.out.cells (by omega)
      have hck := hc k hlt
      clear hc
      obtain ⟨s, hs⟩ : ∃ s, V.pre[k] = s := ⟨_, rfl⟩
      have HS := Lib.hid hs
      rw [hs] at hck hsz
      clear hs
      have HW := Lib.hid (refWord_any s w1 (by omega))
      have HN := Lib.hid (refNumeric_any s w1 (by omega))
      have HI := Lib.hid (refnumber_any s w1 (by omega))
      have HG := Lib.hid (great_any s w1 (by omega))
      have Hnot := Lib.hid (show okRef s = false → refRightB V = false from fun h => refright_neg (.inr (.inr (.inr (.inr (.inr (.inl (all_no hlt (by rw [HS.out]; exact h)))))))))
      have Hyes := Lib.hid (show okRef s = true → ∀ j (hj : j < V.pre.length), j < k + 1 → okRef V.pre[j] = true from fun h j hj hjk => by
        rcases Nat.lt_or_eq_of_le (Nat.le_of_lt_succ hjk) with h1 | h1
        · exact Hok.out j hj h1
        · subst h1; rw [HS.out]; exact h)
      have hdef : okRef s = (wordB s && !decide (40 < s.size) && (!numB s || (isnumB s && !greatB s))) := rfl
      have HD := Lib.hid hdef
      clear hdef
      cases hw : wordB s <;> rw [hw] at HW HD <;> clear hw
      · have Hr := Lib.hid (Hnot.out (by rw [HD.out]; rfl))
        go_wp2_with fail
        refine HW.out.mono ?_
        rintro e w' ⟨rfl, rfl⟩
        go_wp2_with fail
        go_ret
        exact ⟨ret_bool Hr.out.symm, BW.out⟩
      by_cases h40 : 40 < s.size
      · have Hr := Lib.hid (Hnot.out (by rw [HD.out, decide_eq_true h40]; rfl))
        have h41 : (40 : Int) < (s.size : Int) := by omega
        go_wp2_with fail
        refine HW.out.mono ?_
        rintro e w' ⟨rfl, rfl⟩
        go_wp2_with fail
        go_ret
        exact ⟨ret_bool Hr.out.symm, BW.out⟩
      have HD2 := Lib.hid (show okRef s = (!numB s || (isnumB s && !greatB s)) by rw [HD.out, decide_eq_false h40]; simp)
      have h41 : ¬ (40 : Int) < (s.size : Int) := by omega
      clear HD
      cases hn : numB s <;> rw [hn] at HN HD2 <;> clear hn
      · have Hx := Lib.hid (Hyes.out (by rw [HD2.out]; rfl))
        go_wp2_with fail
        refine HW.out.mono ?_
        rintro e w' ⟨rfl, rfl⟩
        go_wp2_with fail
        refine HN.out.mono ?_
        rintro e w' ⟨rfl, rfl⟩
        go_wp2_with fail
        go_round
        case rel => exact ⟨k + 1, by omega, by go_num, Hx⟩
        case measure => simp [intOf]; omega
      cases hi : isnumB s <;> rw [hi] at HI HD2 <;> clear hi
      · have Hr := Lib.hid (Hnot.out (by rw [HD2.out]; rfl))
        go_wp2_with fail
        refine HW.out.mono ?_
        rintro e w' ⟨rfl, rfl⟩
        go_wp2_with fail
        refine HN.out.mono ?_
        rintro e w' ⟨rfl, rfl⟩
        go_wp2_with fail
        refine HI.out.mono ?_
        rintro e w' ⟨rfl, rfl⟩
        go_wp2_with fail
        go_ret
        exact ⟨ret_bool Hr.out.symm, BW.out⟩
      cases hg : greatB s <;> rw [hg] at HG HD2 <;> clear hg
      · have Hx := Lib.hid (Hyes.out (by rw [HD2.out]; rfl))
        go_wp2_with fail
        refine HW.out.mono ?_
        rintro e w' ⟨rfl, rfl⟩
        go_wp2_with fail
        refine HN.out.mono ?_
        rintro e w' ⟨rfl, rfl⟩
        go_wp2_with fail
        refine HI.out.mono ?_
        rintro e w' ⟨rfl, rfl⟩
        go_wp2_with fail
        refine HG.out.mono ?_
        rintro e w' ⟨rfl, rfl⟩
        go_wp2_with fail
        go_round
        case rel => exact ⟨k + 1, by omega, by go_num, Hx⟩
        case measure => simp [intOf]; omega
      · have Hr := Lib.hid (Hnot.out (by rw [HD2.out]; rfl))
        go_wp2_with fail
        refine HW.out.mono ?_
        rintro e w' ⟨rfl, rfl⟩
        go_wp2_with fail
        refine HN.out.mono ?_
        rintro e w' ⟨rfl, rfl⟩
        go_wp2_with fail
        refine HI.out.mono ?_
        rintro e w' ⟨rfl, rfl⟩
        go_wp2_with fail
        refine HG.out.mono ?_
        rintro e w' ⟨rfl, rfl⟩
        go_wp2_with fail
        go_ret
        exact ⟨ret_bool Hr.out.symm, BW.out⟩
    · obtain rfl : k = V.pre.length := by omega
      have Hpre := Lib.hid (all_yes fun j hj => Hok.out j hj hj)
      clear Hok
      have x4 := X4.out
      go_wp2_with fail
      clear x4
      go_loop [64] (fun i => ∃ k : Nat, k ≤ V.build.length ∧ i = .int .i64 k ∧ Hid (∀ j (hj : j < V.build.length), j < k → okBld V.build[j] = true)) (fun i => V.build.length - (intOf i).toNat)
      case atStart => exact ⟨0, Nat.zero_le _, rfl, Lib.hid (fun j _ hj => absurd hj (Nat.not_lt_zero _))⟩
      case round =>
        obtain ⟨k, hk, rfl, Hok⟩ := hrel
        by_cases hlt : k < V.build.length
        · have hsz := HV.out.bs _ (List.getElem_mem hlt)
          obtain ⟨b, off, rfl, hb, hc⟩ := RB.out.cells (by omega)
          have hck := hc k hlt
          clear hc
          obtain ⟨s, hs⟩ : ∃ s, V.build[k] = s := ⟨_, rfl⟩
          have HS := Lib.hid hs
          rw [hs] at hck hsz
          clear hs
          have HW := Lib.hid (refWord_any s w1 (by omega))
          have Hnot := Lib.hid (show okBld s = false → refRightB V = false from fun h => refright_neg (.inr (.inr (.inr (.inr (.inr (.inr (all_no hlt (by rw [HS.out]; exact h)))))))))
          have Hyes := Lib.hid (show okBld s = true → ∀ j (hj : j < V.build.length), j < k + 1 → okBld V.build[j] = true from fun h j hj hjk => by
            rcases Nat.lt_or_eq_of_le (Nat.le_of_lt_succ hjk) with h1 | h1
            · exact Hok.out j hj h1
            · subst h1; rw [HS.out]; exact h)
          have hdef : okBld s = (wordB s && !decide (40 < s.size)) := rfl
          have HD := Lib.hid hdef
          clear hdef
          cases hw : wordB s <;> rw [hw] at HW HD <;> clear hw
          · have Hr := Lib.hid (Hnot.out (by rw [HD.out]; rfl))
            go_wp2_with fail
            refine HW.out.mono ?_
            rintro e w' ⟨rfl, rfl⟩
            go_wp2_with fail
            go_ret
            exact ⟨ret_bool Hr.out.symm, BW.out⟩
          by_cases h40 : 40 < s.size
          · have Hr := Lib.hid (Hnot.out (by rw [HD.out, decide_eq_true h40]; rfl))
            have h41 : (40 : Int) < (s.size : Int) := by omega
            go_wp2_with fail
            refine HW.out.mono ?_
            rintro e w' ⟨rfl, rfl⟩
            go_wp2_with fail
            go_ret
            exact ⟨ret_bool Hr.out.symm, BW.out⟩
          have Hx := Lib.hid (Hyes.out (by rw [HD.out, decide_eq_false h40]; rfl))
          have h41 : ¬ (40 : Int) < (s.size : Int) := by omega
          go_wp2_with fail
          refine HW.out.mono ?_
          rintro e w' ⟨rfl, rfl⟩
          go_wp2_with fail
          go_round
          case rel => first | exact ⟨k + 1, by omega, by go_num, Hx⟩ | ((repeat apply Exists.intro); exact ⟨⟨k + 1, by omega, by go_num, Hx⟩, rfl⟩)
          case measure => simp [intOf]; omega
        · obtain rfl : k = V.build.length := by omega
          have Hr := Lib.hid (refright_yes D1.out.1 D1.out.2.1 D1.out.2.2.1 D1.out.2.2.2.1 D1.out.2.2.2.2 Hpre.out (all_yes fun j hj => Hok.out j hj hj))
          go_wp2_with fail
          go_ret
          exact ⟨ret_bool Hr.out.symm, BW.out⟩
end Go.Proofs.YtbdhmelebedpiaaGreatDoor
