/- The program's op. -/
import Derived.Test.YtjhgibdebcapfaaScanPN
import Derived.Test.YtjhgibdebcapfaaScanRefTok
namespace Go.Proofs.Ytjhgibdebcapfaa
open Go.RowKit
set_option linter.unusedSimpArgs false
set_option linter.unusedVariables false

set_option maxHeartbeats 16000000 in
set_option maxRecDepth 100000 in
theorem pop_any (w : World) (B pb : Nat) (s : ByteArray) (i : Nat) (l : List Tk) (h : PS w B pb s i l) (hs : s.size ≤ 4010) (hi : i < s.size) (hl : l.length ≤ 20000) :
    Calls Try.prog 28 #[ptr pb] w fun en w' => TokP w w' B pb s i l (operT s i) en := by
  have hlow := h.low
  have HP0 := Lib.hid h
  have HO3 := Lib.hid (oper_three s i)
  unfold ptr
  clear h
  go_enter Try.func28, Try.ntmps28
  go_wp2_with fail
  go_loopw [3] (fun v wr => ∃ n : Nat, n ≤ 3 ∧ v = .int .i64 n ∧ Hid (operN s i n = operT s i) ∧ Hid (PS wr B pb s i l) ∧ Hid (Below B w wr)) (fun v _ => (intOf v).toNat)
  case atStart => exact ⟨3, Nat.le_refl _, rfl, HO3, HP0, Lib.hid (Below.refl _ _)⟩
  case round =>
    obtain ⟨n, hn3, rfl, HOp, HP, BR⟩ := hrel
    cases n with
    | zero =>
      have HN := Lib.hid (show operT s i = ⟨0, 0, 12⟩ by rw [← HOp.out]; rfl)
      go_wp2_with fail
      go_ret
      unfold TokP
      rw [HN.out]
      exact ⟨rfl, fun h => absurd h (by decide), fun _ => HP.out, BR.out⟩
    | succ n =>
      have HD4 := Lib.hid (show operN s i (n + 1) = if i + (n + 1) ≤ s.size ∧ opB (s.extract i (i + (n + 1))) = true then ⟨6, i + (n + 1), 0⟩ else operN s i n from rfl)
      have hpos : 0 < n + 1 := by omega
      have hsub : ((n + 1 : Nat) : Int) - 1 = (n : Int) := by omega
      obtain ⟨m, hm⟩ : ∃ m, n + 1 = m := ⟨_, rfl⟩
      have Hm := Lib.hid hm
      rw [hm] at HD4 hpos hsub ⊢
      rw [hm] at hn3 HOp
      clear hm
      have hwr : IntKind.i64.wrap ((i : Int) + (m : Int)) = (i : Int) + (m : Int) := by rw [IntWalk.i64_in _ (by omega)]
      have htn : ((i : Int) + (m : Int)).toNat = i + m := by omega
      have hlo : (i : Int) ≤ (i : Int) + (m : Int) := by omega
      have c0 := HP.out.cells.1
      have c1 := HP.out.cells.2
      by_cases hle : i + m ≤ s.size
      · have hleI : (i : Int) + (m : Int) ≤ (s.size : Int) := by omega
        have hleD : decide ((i : Int) + (m : Int) ≤ (s.size : Int)) = true := decide_eq_true hleI
        have hP := fun w' => op_any (s.extract i (i + m)) w'
        go_wp2_with fail
        refine GoG.start [(29, ⟨pb, 0, none⟩, .string s), (29, ⟨pb, 1, none⟩, .int .i64 (i : Int))] (by kernel_rfl) ?_ ?_
        · exact Keeps.cons (by first | assumption | simp [*]) (Keeps.cons (by first | assumption | simp [*]) (Keeps.nil))
        refine GoG.take (i := 0) (v := ?_) [] rfl (by kernel_rfl) (by kernel_rfl) (by kernel_rfl) (by kernel_rfl) (by kernel_rfl) (by kernel_rfl) (fun _ _ _ h => h) (yields_free (by rfl) (fun w => ?_)) ?_
        rotate_left
        · go_simp; try (with_reducible rfl)
        try simp only [Act.put, List.getElem_toArray, List.getElem_cons_succ, List.getElem_cons_zero, List.setIfInBounds_toArray, List.set_cons_zero, List.set_cons_succ]
        refine GoG.take (i := 1) (v := ?_) [] rfl (by kernel_rfl) (by kernel_rfl) (by kernel_rfl) (by kernel_rfl) (by kernel_rfl) (by kernel_rfl) (fun _ _ _ h => h) (yields_free (by rfl) (fun w => ?_)) ?_
        rotate_left
        · go_simp; try (with_reducible rfl)
        try simp only [Act.put, List.getElem_toArray, List.getElem_cons_succ, List.getElem_cons_zero, List.setIfInBounds_toArray, List.set_cons_zero, List.set_cons_succ]
        refine GoG.take (i := 2) (v := ?_) [] rfl (by kernel_rfl) (by kernel_rfl) (by kernel_rfl) (by kernel_rfl) (by kernel_rfl) (by kernel_rfl) (fun _ _ _ h => h) (yields_free (by rfl) (fun w => ?_)) ?_
        rotate_left
        · go_simp; try (with_reducible rfl)
        try simp only [Act.put, List.getElem_toArray, List.getElem_cons_succ, List.getElem_cons_zero, List.setIfInBounds_toArray, List.set_cons_zero, List.set_cons_succ]
        refine GoG.take (i := 3) (v := ?_) [5, 11, 12, 29] rfl (by kernel_rfl) (by kernel_rfl) (by kernel_rfl) (by kernel_rfl) (by kernel_rfl) (by kernel_rfl) (fun _ _ _ h => h) (yields_load 29 ⟨pb, 1, none⟩ (.int .i64 (i : Int)) (by simp) (by decide) (by rfl) (fun w hw => ?_)) ?_
        rotate_left
        · go_simp; try (with_reducible rfl)
        try simp only [Act.put, List.getElem_toArray, List.getElem_cons_succ, List.getElem_cons_zero, List.setIfInBounds_toArray, List.set_cons_zero, List.set_cons_succ]
        refine GoG.take (i := 4) (v := ?_) [] rfl (by kernel_rfl) (by kernel_rfl) (by kernel_rfl) (by kernel_rfl) (by kernel_rfl) (by kernel_rfl) (fun _ _ _ h => h) (yields_free (by rfl) (fun w => ?_)) ?_
        rotate_left
        · go_simp; try (with_reducible rfl)
        try simp only [Act.put, List.getElem_toArray, List.getElem_cons_succ, List.getElem_cons_zero, List.setIfInBounds_toArray, List.set_cons_zero, List.set_cons_succ]
        refine GoG.take (i := 5) (v := ?_) [] rfl (by kernel_rfl) (by kernel_rfl) (by kernel_rfl) (by kernel_rfl) (by kernel_rfl) (by kernel_rfl) (fun _ _ _ h => h) (yields_free (by rfl) (fun w => ?_)) ?_
        rotate_left
        · go_simp; try (with_reducible rfl)
        try simp only [Act.put, List.getElem_toArray, List.getElem_cons_succ, List.getElem_cons_zero, List.setIfInBounds_toArray, List.set_cons_zero, List.set_cons_succ]
        refine GoG.take (i := 6) (v := ?_) [] rfl (by kernel_rfl) (by kernel_rfl) (by kernel_rfl) (by kernel_rfl) (by kernel_rfl) (by kernel_rfl) (fun _ _ _ h => h) (yields_free (by rfl) (fun w => ?_)) ?_
        rotate_left
        · go_simp; try (with_reducible rfl)
        try simp only [Act.put, List.getElem_toArray, List.getElem_cons_succ, List.getElem_cons_zero, List.setIfInBounds_toArray, List.set_cons_zero, List.set_cons_succ]
        refine GoG.take (i := 7) (v := ?_) [] rfl (by kernel_rfl) (by kernel_rfl) (by kernel_rfl) (by kernel_rfl) (by kernel_rfl) (by kernel_rfl) (fun _ _ _ h => h) (yields_free (by rfl) (fun w => ?_)) ?_
        rotate_left
        · go_simp; try (with_reducible rfl)
        try simp only [Act.put, List.getElem_toArray, List.getElem_cons_succ, List.getElem_cons_zero, List.setIfInBounds_toArray, List.set_cons_zero, List.set_cons_succ]
        refine GoG.take (i := 8) (v := ?_) [] rfl (by kernel_rfl) (by kernel_rfl) (by kernel_rfl) (by kernel_rfl) (by kernel_rfl) (by kernel_rfl) (fun _ _ _ h => h) (yields_free (by rfl) (fun w => ?_)) ?_
        rotate_left
        · go_simp; try (with_reducible rfl)
        try simp only [Act.put, List.getElem_toArray, List.getElem_cons_succ, List.getElem_cons_zero, List.setIfInBounds_toArray, List.set_cons_zero, List.set_cons_succ]
        refine GoG.take (i := 9) (v := ?_) [10, 11, 12, 29] rfl (by kernel_rfl) (by kernel_rfl) (by kernel_rfl) (by kernel_rfl) (by kernel_rfl) (by kernel_rfl) (fun _ _ _ h => h) (yields_load 29 ⟨pb, 0, none⟩ (.string s) (by simp) (by decide) (by rfl) (fun w hw => ?_)) ?_
        rotate_left
        · go_simp; try (with_reducible rfl)
        try simp only [Act.put, List.getElem_toArray, List.getElem_cons_succ, List.getElem_cons_zero, List.setIfInBounds_toArray, List.set_cons_zero, List.set_cons_succ]
        refine GoG.take (i := 10) (v := ?_) [] rfl (by kernel_rfl) (by kernel_rfl) (by kernel_rfl) (by kernel_rfl) (by kernel_rfl) (by kernel_rfl) (fun _ _ _ h => h) (yields_free (by rfl) (fun w => ?_)) ?_
        rotate_left
        · go_simp; try (with_reducible rfl)
        try simp only [Act.put, List.getElem_toArray, List.getElem_cons_succ, List.getElem_cons_zero, List.setIfInBounds_toArray, List.set_cons_zero, List.set_cons_succ]
        refine GoG.take (i := 11) (v := ?_) [] rfl (by kernel_rfl) (by kernel_rfl) (by kernel_rfl) (by kernel_rfl) (by kernel_rfl) (by kernel_rfl) (fun _ _ _ h => h) (yields_free (by rfl) (fun w => ?_)) ?_
        rotate_left
        · go_simp; try (with_reducible rfl)
        try simp only [Act.put, List.getElem_toArray, List.getElem_cons_succ, List.getElem_cons_zero, List.setIfInBounds_toArray, List.set_cons_zero, List.set_cons_succ]
        refine GoG.take (i := 12) (v := ?_) [] rfl (by kernel_rfl) (by kernel_rfl) (by kernel_rfl) (by kernel_rfl) (by kernel_rfl) (by kernel_rfl) (fun _ _ _ h => h) (yields_free (by rfl) (fun w => ?_)) ?_
        rotate_left
        · go_simp; try (with_reducible rfl)
        try simp only [Act.put, List.getElem_toArray, List.getElem_cons_succ, List.getElem_cons_zero, List.setIfInBounds_toArray, List.set_cons_zero, List.set_cons_succ]
        refine GoG.take (i := 13) (v := ?_) [] rfl (by kernel_rfl) (by kernel_rfl) (by kernel_rfl) (by kernel_rfl) (by kernel_rfl) (by kernel_rfl) (fun _ _ _ h => h) (yields_free (by rfl) (fun w => ?_)) ?_
        rotate_left
        · go_simp; try (with_reducible rfl)
        try simp only [Act.put, List.getElem_toArray, List.getElem_cons_succ, List.getElem_cons_zero, List.setIfInBounds_toArray, List.set_cons_zero, List.set_cons_succ]
        refine GoG.take (i := 14) (v := ?_) [] rfl (by kernel_rfl) (by kernel_rfl) (by kernel_rfl) (by kernel_rfl) (by kernel_rfl) (by kernel_rfl) (fun _ _ _ h => h) (yields_free (by rfl) (fun w => ?_)) ?_
        rotate_left
        · go_simp; try (with_reducible rfl)
        try simp only [Act.put, List.getElem_toArray, List.getElem_cons_succ, List.getElem_cons_zero, List.setIfInBounds_toArray, List.set_cons_zero, List.set_cons_succ]
        refine GoG.take (i := 15) (v := ?_) [] rfl (by kernel_rfl) (by kernel_rfl) (by kernel_rfl) (by kernel_rfl) (by kernel_rfl) (by kernel_rfl) (fun _ _ _ h => h) (yields_free (by rfl) (fun w => ?_)) ?_
        rotate_left
        · go_simp; try (with_reducible rfl)
        try simp only [Act.put, List.getElem_toArray, List.getElem_cons_succ, List.getElem_cons_zero, List.setIfInBounds_toArray, List.set_cons_zero, List.set_cons_succ]
        refine GoG.take (i := 16) (v := ?_) [27, 28, 29] rfl (by kernel_rfl) (by kernel_rfl) (by kernel_rfl) (by kernel_rfl) (by kernel_rfl) (by kernel_rfl) (fun _ _ _ h => h) (yields_load 29 ⟨pb, 0, none⟩ (.string s) (by simp) (by decide) (by rfl) (fun w hw => ?_)) ?_
        rotate_left
        · go_simp; try (with_reducible rfl)
        try simp only [Act.put, List.getElem_toArray, List.getElem_cons_succ, List.getElem_cons_zero, List.setIfInBounds_toArray, List.set_cons_zero, List.set_cons_succ]
        refine GoG.take (i := 17) (v := ?_) [] rfl (by kernel_rfl) (by kernel_rfl) (by kernel_rfl) (by kernel_rfl) (by kernel_rfl) (by kernel_rfl) (fun _ _ _ h => h) (yields_free (by rfl) (fun w => ?_)) ?_
        rotate_left
        · go_simp; try (with_reducible rfl)
        try simp only [Act.put, List.getElem_toArray, List.getElem_cons_succ, List.getElem_cons_zero, List.setIfInBounds_toArray, List.set_cons_zero, List.set_cons_succ]
        refine GoG.take (i := 18) (v := ?_) [] rfl (by kernel_rfl) (by kernel_rfl) (by kernel_rfl) (by kernel_rfl) (by kernel_rfl) (by kernel_rfl) (fun _ _ _ h => h) (yields_free (by rfl) (fun w => ?_)) ?_
        rotate_left
        · go_simp; try (with_reducible rfl)
        try simp only [Act.put, List.getElem_toArray, List.getElem_cons_succ, List.getElem_cons_zero, List.setIfInBounds_toArray, List.set_cons_zero, List.set_cons_succ]
        refine GoG.take (i := 19) (v := ?_) [] rfl (by kernel_rfl) (by kernel_rfl) (by kernel_rfl) (by kernel_rfl) (by kernel_rfl) (by kernel_rfl) (fun _ _ _ h => h) (yields_free (by rfl) (fun w => ?_)) ?_
        rotate_left
        · go_simp; try (with_reducible rfl)
        try simp only [Act.put, List.getElem_toArray, List.getElem_cons_succ, List.getElem_cons_zero, List.setIfInBounds_toArray, List.set_cons_zero, List.set_cons_succ]
        refine GoG.take (i := 20) (v := ?_) [27, 28, 29] rfl (by kernel_rfl) (by kernel_rfl) (by kernel_rfl) (by kernel_rfl) (by kernel_rfl) (by kernel_rfl) (fun _ _ _ h => h) (yields_load 29 ⟨pb, 1, none⟩ (.int .i64 (i : Int)) (by simp) (by decide) (by rfl) (fun w hw => ?_)) ?_
        rotate_left
        · go_simp; try (with_reducible rfl)
        try simp only [Act.put, List.getElem_toArray, List.getElem_cons_succ, List.getElem_cons_zero, List.setIfInBounds_toArray, List.set_cons_zero, List.set_cons_succ]
        refine GoG.take (i := 21) (v := ?_) [] rfl (by kernel_rfl) (by kernel_rfl) (by kernel_rfl) (by kernel_rfl) (by kernel_rfl) (by kernel_rfl) (fun _ _ _ h => h) (yields_free (by rfl) (fun w => ?_)) ?_
        rotate_left
        · go_simp; try (with_reducible rfl)
        try simp only [Act.put, List.getElem_toArray, List.getElem_cons_succ, List.getElem_cons_zero, List.setIfInBounds_toArray, List.set_cons_zero, List.set_cons_succ]
        refine GoG.take (i := 22) (v := ?_) [] rfl (by kernel_rfl) (by kernel_rfl) (by kernel_rfl) (by kernel_rfl) (by kernel_rfl) (by kernel_rfl) (fun _ _ _ h => h) (yields_free (by rfl) (fun w => ?_)) ?_
        rotate_left
        · go_simp; try (with_reducible rfl)
        try simp only [Act.put, List.getElem_toArray, List.getElem_cons_succ, List.getElem_cons_zero, List.setIfInBounds_toArray, List.set_cons_zero, List.set_cons_succ]
        refine GoG.take (i := 23) (v := ?_) [] rfl (by kernel_rfl) (by kernel_rfl) (by kernel_rfl) (by kernel_rfl) (by kernel_rfl) (by kernel_rfl) (fun _ _ _ h => h) (yields_free (by rfl) (fun w => ?_)) ?_
        rotate_left
        · go_simp; try (with_reducible rfl)
        try simp only [Act.put, List.getElem_toArray, List.getElem_cons_succ, List.getElem_cons_zero, List.setIfInBounds_toArray, List.set_cons_zero, List.set_cons_succ]
        refine GoG.take (i := 24) (v := ?_) [26, 27, 28, 29] rfl (by kernel_rfl) (by kernel_rfl) (by kernel_rfl) (by kernel_rfl) (by kernel_rfl) (by kernel_rfl) (fun _ _ _ h => h) (yields_load 29 ⟨pb, 1, none⟩ (.int .i64 (i : Int)) (by simp) (by decide) (by rfl) (fun w hw => ?_)) ?_
        rotate_left
        · go_simp; try (with_reducible rfl)
        try simp only [Act.put, List.getElem_toArray, List.getElem_cons_succ, List.getElem_cons_zero, List.setIfInBounds_toArray, List.set_cons_zero, List.set_cons_succ]
        refine GoG.take (i := 25) (v := ?_) [] rfl (by kernel_rfl) (by kernel_rfl) (by kernel_rfl) (by kernel_rfl) (by kernel_rfl) (by kernel_rfl) (fun _ _ _ h => h) (yields_free (by rfl) (fun w => ?_)) ?_
        rotate_left
        · go_simp; try (with_reducible rfl)
        try simp only [Act.put, List.getElem_toArray, List.getElem_cons_succ, List.getElem_cons_zero, List.setIfInBounds_toArray, List.set_cons_zero, List.set_cons_succ]
        refine GoG.take (i := 26) (v := ?_) [] rfl (by kernel_rfl) (by kernel_rfl) (by kernel_rfl) (by kernel_rfl) (by kernel_rfl) (by kernel_rfl) (fun _ _ _ h => h) (yields_free (by rfl) (fun w => ?_)) ?_
        rotate_left
        · go_simp; try (with_reducible rfl)
        try simp only [Act.put, List.getElem_toArray, List.getElem_cons_succ, List.getElem_cons_zero, List.setIfInBounds_toArray, List.set_cons_zero, List.set_cons_succ]
        refine GoG.take (i := 27) (v := ?_) [] rfl (by kernel_rfl) (by kernel_rfl) (by kernel_rfl) (by kernel_rfl) (by kernel_rfl) (by kernel_rfl) (fun _ _ _ h => h) (yields_free (by rfl) (fun w => ?_)) ?_
        rotate_left
        · go_simp; try (with_reducible rfl)
        try simp only [Act.put, List.getElem_toArray, List.getElem_cons_succ, List.getElem_cons_zero, List.setIfInBounds_toArray, List.set_cons_zero, List.set_cons_succ]
        have HPD := Lib.hid (HP.out.below ((Below.refl _ _).drew))
        have BRD := Lib.hid BR.out.drew
        cases hop : opB (s.extract i (i + m)) <;> simp only [hop] at hP <;> have HPP := Lib.hid hP <;> clear hP
        · have HNX := Lib.hid (show operN s i n = operT s i by rw [← HOp.out, HD4.out, if_neg (fun h => by rw [hop] at h; cases h.2)])
          clear hop
          refine GoG.one (i := 28) rfl (by kernel_rfl) (fun K hK => ?_)
          go_simp
          refine (HPP.out _).mono ?_
          rintro x w' ⟨rfl, rfl⟩
          refine hK.out _ _ (Keeps.cons (by first | assumption | simp [*]) (Keeps.cons (by first | assumption | simp [*]) Keeps.nil)) ?_
          clear hK K
          refine GoG.one (i := 29) rfl (by kernel_rfl) (fun K hK => ?_)
          go_simp
          refine hK.out _ _ (Keeps.up (by rfl) (Keeps.up (by rfl) Keeps.nil)) ?_
          clear hK K c0 c1
          refine GoG.done (by kernel_rfl) ?_ _
          go_wp2_with fail
          go_roundw
          case rel => exact ⟨n, by omega, by go_num, HNX, HPD, BRD⟩
          case measure => have := Hm.out; simp [intOf]; omega
        · have HN := Lib.hid (show operT s i = ⟨6, i + m, 0⟩ by rw [← HOp.out, HD4.out, if_pos ⟨hle, hop⟩])
          clear hop
          refine GoG.one (i := 28) rfl (by kernel_rfl) (fun K hK => ?_)
          go_simp
          refine (HPP.out _).mono ?_
          rintro x w' ⟨rfl, rfl⟩
          refine hK.out _ _ (Keeps.cons (by first | assumption | simp [*]) (Keeps.cons (by first | assumption | simp [*]) Keeps.nil)) ?_
          clear hK K
          refine GoG.one (i := 29) rfl (by kernel_rfl) (fun K hK => ?_)
          go_simp
          refine hK.out _ _ (Keeps.up (by rfl) (Keeps.up (by rfl) Keeps.nil)) ?_
          clear hK K c0 c1
          refine GoG.done (by kernel_rfl) ?_ _
          have TK := fun w' (h : PS w' B pb s i l) => take_any w' B pb s i l h 6 (i + m) (by omega) hle hs hl
          have hcast : ((i + m : Nat) : Int) = (i : Int) + (m : Int) := by omega
          unfold ptr at TK
          simp only [hcast] at TK
          have TKK := Lib.hid TK
          clear TK hcast
          have c0 := HPD.out.cells.1
          have c1 := HPD.out.cells.2
          go_wp2_with fail
          refine (TKK.out _ HPD.out).mono ?_
          rintro x w3 ⟨rfl, hp3, hb3⟩
          have HP3 := Lib.hid hp3
          have B3 := Lib.hid (BRD.out.trans hb3)
          clear hp3 hb3
          go_wp2_with fail
          go_ret
          unfold TokP
          rw [HN.out]
          exact ⟨rfl, fun _ => HP3.out, fun h => absurd rfl h, B3.out⟩
      · have hleI : ¬ (i : Int) + (m : Int) ≤ (s.size : Int) := by omega
        have hleD : decide ((i : Int) + (m : Int) ≤ (s.size : Int)) = false := decide_eq_false hleI
        have HNX := Lib.hid (show operN s i n = operT s i by rw [← HOp.out, HD4.out, if_neg (fun h => hle h.1)])
        go_wp2_with fail
        first | go_quiet (fail) | skip
        go_wp2_with fail
        go_roundw
        case rel => exact ⟨n, by omega, by go_num, HNX, Lib.hid (HP.out.below ⟨rfl, rfl, rfl, Nat.le_refl _, fun _ _ => rfl⟩), Lib.hid (BR.out.trans ⟨rfl, rfl, rfl, Nat.le_refl _, fun _ _ => rfl⟩)⟩
        case measure => have := Hm.out; simp [intOf]; omega
end Go.Proofs.Ytjhgibdebcapfaa
