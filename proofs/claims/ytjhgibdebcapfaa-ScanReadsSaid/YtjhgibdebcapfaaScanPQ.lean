/- The program's quoted: its closure, and end over it. -/
import Derived.Test.YtjhgibdebcapfaaScanPN
import Derived.Test.YtjhgibdebcapfaaScanRefQ
namespace Go.Proofs.Ytjhgibdebcapfaa
open Go.RowKit
set_option linter.unusedSimpArgs false
set_option linter.unusedVariables false

def stopB (Q c : Int) (f : Bool) : Bool := decide (c = 10) || (decide (c = Q) && !f)
def flagB (c : Int) (f : Bool) : Bool := decide (c = 92) && !f
set_option maxHeartbeats 8000000 in
set_option maxRecDepth 100000 in
theorem quoted1_any (s : ByteArray) (k q a b pb : Nat) (Q : Int) (f : Bool) (w : World) (hq : w.cell? ⟨q, 0, none⟩ = some (ptr pb)) (ha : w.cell? ⟨a, 0, none⟩ = some (.int .u8 Q)) (hb : BlockAt w b #[.bool f] 4) (hp : w.cell? ⟨pb, 0, none⟩ = some (.string s)) (hk : k < s.size) :
    Calls Try.prog 47 #[.int .i64 k, ptr q, ptr a, ptr b] w fun e w' => e = .returned (.bool (!stopB Q (byteAt s k) f)) ∧ w' = w.setCell ⟨b, 0, none⟩ (.bool (flagB (byteAt s k) f)) := by
  obtain ⟨c, hc⟩ : ∃ c : Int, (s[k].toNat : Int) = c := ⟨_, rfl⟩
  rw [(byteAt_eq hk).trans hc]
  have b0 := hb.cell 0
  simp only [List.getElem?_toArray, List.getElem?_cons_zero] at b0
  have fr := hb.free 0
  unfold ptr at *
  obtain ⟨st, hst⟩ : ∃ st, stopB Q c f = st := ⟨_, rfl⟩
  obtain ⟨fl, hfl⟩ : ∃ fl, flagB c f = fl := ⟨_, rfl⟩
  have HST := Lib.hid hst
  have HFL := Lib.hid hfl
  rw [hst, hfl]
  clear hst hfl hb
  by_cases h10 : c = 10
  · have g10 : (c == 10) = true := by rw [h10]; rfl
    have g92 : (c == 92) = false := by rw [h10]; rfl
    have S := Lib.hid (show true = st by rw [← HST.out]; unfold stopB; rw [decide_eq_true h10]; rfl)
    have F := Lib.hid (show false = fl by rw [← HFL.out]; unfold flagB; rw [decide_eq_false (by omega)]; rfl)
    clear h10
    go_enter Try.func47, Try.ntmps47
    go_wp2_with fail
    go_ret
    exact ⟨ret_bool (by rw [← S.out]; rfl), by rw [← F.out]⟩
  have g10 : (c == 10) = false := by rw [beq_eq_false_iff_ne]; exact h10
  cases f
  · by_cases hQ : c = Q
    · have gQ : (c == Q) = true := by rw [beq_iff_eq]; exact hQ
      have S := Lib.hid (show true = st by rw [← HST.out]; unfold stopB; rw [decide_eq_false h10, decide_eq_true hQ]; rfl)
      by_cases h92 : c = 92
      · have g92 : (c == 92) = true := by rw [h92]; rfl
        have F := Lib.hid (show true = fl by rw [← HFL.out]; unfold flagB; rw [decide_eq_true h92]; rfl)
        clear h10 hQ h92
        go_enter Try.func47, Try.ntmps47
        go_wp2_with fail
        go_ret
        exact ⟨ret_bool (by rw [← S.out]; rfl), by rw [← F.out]⟩
      · have g92 : (c == 92) = false := by rw [beq_eq_false_iff_ne]; exact h92
        have F := Lib.hid (show false = fl by rw [← HFL.out]; unfold flagB; rw [decide_eq_false h92]; rfl)
        clear h10 hQ h92
        go_enter Try.func47, Try.ntmps47
        go_wp2_with fail
        go_ret
        exact ⟨ret_bool (by rw [← S.out]; rfl), by rw [← F.out]⟩
    · have gQ : (c == Q) = false := by rw [beq_eq_false_iff_ne]; exact hQ
      have S := Lib.hid (show false = st by rw [← HST.out]; unfold stopB; rw [decide_eq_false h10, decide_eq_false hQ]; rfl)
      by_cases h92 : c = 92
      · have g92 : (c == 92) = true := by rw [h92]; rfl
        have F := Lib.hid (show true = fl by rw [← HFL.out]; unfold flagB; rw [decide_eq_true h92]; rfl)
        clear h10 hQ h92
        go_enter Try.func47, Try.ntmps47
        go_wp2_with fail
        go_ret
        exact ⟨ret_bool (by rw [← S.out]; rfl), by rw [← F.out]⟩
      · have g92 : (c == 92) = false := by rw [beq_eq_false_iff_ne]; exact h92
        have F := Lib.hid (show false = fl by rw [← HFL.out]; unfold flagB; rw [decide_eq_false h92]; rfl)
        clear h10 hQ h92
        go_enter Try.func47, Try.ntmps47
        go_wp2_with fail
        go_ret
        exact ⟨ret_bool (by rw [← S.out]; rfl), by rw [← F.out]⟩
  · have S := Lib.hid (show false = st by rw [← HST.out]; unfold stopB; rw [decide_eq_false h10]; simp)
    have F := Lib.hid (show false = fl by rw [← HFL.out]; unfold flagB; simp)
    cases gQ : (c == Q)
    · cases g92 : (c == 92)
      · clear h10
        go_enter Try.func47, Try.ntmps47
        go_wp2_with fail
        go_ret
        exact ⟨ret_bool (by rw [← S.out]; rfl), by rw [← F.out]⟩
      · clear h10
        go_enter Try.func47, Try.ntmps47
        go_wp2_with fail
        go_ret
        exact ⟨ret_bool (by rw [← S.out]; rfl), by rw [← F.out]⟩
    · cases g92 : (c == 92)
      · clear h10
        go_enter Try.func47, Try.ntmps47
        go_wp2_with fail
        go_ret
        exact ⟨ret_bool (by rw [← S.out]; rfl), by rw [← F.out]⟩
      · clear h10
        go_enter Try.func47, Try.ntmps47
        go_wp2_with fail
        go_ret
        exact ⟨ret_bool (by rw [← S.out]; rfl), by rw [← F.out]⟩
/-- What is left behind place k, where f tells that a backslash stands ahead. -/
def restQ (s : ByteArray) (Q : Int) (k : Nat) (f : Bool) : Option Nat := if f = true then (if byteAt s k = 10 then none else quo s Q (k + 1)) else quo s Q k
theorem rest_end {s : ByteArray} {Q : Int} {k : Nat} {f : Bool} (h : s.size ≤ k) : restQ s Q k f = none := by
  unfold restQ
  split
  · rw [byteAt_none (by omega), if_neg (by decide), quo_end (by omega)]
  · exact quo_end h
theorem rest_nl {s : ByteArray} {Q : Int} {k : Nat} {f : Bool} (h : k < s.size) (hQ : Q ≠ 10) (h96 : Q ≠ 96) (hc : byteAt s k = 10) : restQ s Q k f = none := by
  unfold restQ
  cases f
  rotate_left
  · rw [if_pos rfl, if_pos hc]
  · rw [if_neg (by decide), quo_one h (by rw [hc]; exact fun e => hQ e.symm) h96 (by rw [hc]; decide), if_pos hc]
theorem rest_hit {s : ByteArray} {Q : Int} {k : Nat} (h : k < s.size) (hc : byteAt s k = Q) : restQ s Q k false = some (k + 1) := by
  unfold restQ
  rw [if_neg (by decide), quo_hit h hc]
theorem rest_go {s : ByteArray} {Q : Int} {k : Nat} {f : Bool} (h : k < s.size) (h96 : Q ≠ 96) (hs : stopB Q (byteAt s k) f = false) : restQ s Q k f = restQ s Q (k + 1) (flagB (byteAt s k) f) := by
  unfold stopB at hs
  simp only [Bool.or_eq_false_iff, decide_eq_false_iff_not, Bool.and_eq_false_iff] at hs
  obtain ⟨h10, h2⟩ := hs
  cases f
  · have hq : byteAt s k ≠ Q := by
      rcases h2 with h2 | h2
      · exact h2
      · cases h2
    by_cases h92 : byteAt s k = 92
    · unfold restQ flagB
      rw [if_neg (by decide), decide_eq_true h92, quo_esc h hq h96 h92]
      rfl
    · unfold restQ flagB
      rw [if_neg (by decide), decide_eq_false h92, quo_one h hq h96 h92, if_neg h10]
      rfl
  · unfold restQ flagB
    rw [if_pos rfl, if_neg h10, Bool.not_true, Bool.and_false, if_neg (by decide)]
set_option maxHeartbeats 8000000 in
set_option maxRecDepth 100000 in
theorem end_quoted (s : ByteArray) (i q a b pb : Nat) (Q : Int) (R : Option Nat) (w : World) (hq : w.cell? ⟨q, 0, none⟩ = some (ptr pb)) (ha : BlockAt w a #[.int .u8 Q] 5) (hb : BlockAt w b #[.bool false] 4) (hp : w.cell? ⟨pb, 0, none⟩ = some (.string s)) (hpa : w.cell? ⟨pb, 1, none⟩ = some (.int .i64 (i : Int)))
    (hqb : q < b) (hab : a ≠ b) (hpb : pb < b) (X : Nat) (hX : X ≤ b) (hs : s.size ≤ 4010) (hi : i < s.size) (h10 : Q ≠ 10) (h96 : Q ≠ 96) (hR : quo s Q (i + 1) = R) :
    Calls Try.prog 41 #[ptr pb, .func (.func 47) #[] #[ptr q, ptr a, ptr b]] w fun en w' => (∃ e : Nat, en = .returned (.int .i64 e) ∧ e ≤ s.size ∧ i < e ∧ ((e = s.size ∧ R = none) ∨ (e < s.size ∧ byteAt s e = 10 ∧ R = none) ∨ (e < s.size ∧ byteAt s e ≠ 10 ∧ R = some (e + 1)))) ∧ Below X w w' := by
  have HQ := Lib.hid hq
  have HA := Lib.hid ha
  have HP := Lib.hid hp
  have HPA := Lib.hid hpa
  have HB := Lib.hid hb
  have HR := Lib.hid (show restQ s Q (i + 1) false = R from hR)
  unfold ptr at *
  have hNE := Lib.hid (And.intro hqb (And.intro hab hpb))
  clear hq ha hb hR
  go_enter Try.func41, Try.ntmps41
  go_wp2_with fail
  go_loopw [5] (fun v wr => ∃ (k : Nat) (f : Bool), i < k ∧ k ≤ s.size ∧ v = .int .i64 k ∧ Hid (restQ s Q k f = R) ∧ Hid (BlockAt wr b #[.bool f] 4) ∧ Hid (wr.cell? ⟨q, 0, none⟩ = some (.pointer (some ⟨pb, 0, none⟩))) ∧ Hid (BlockAt wr a #[.int .u8 Q] 5) ∧ Hid (wr.cell? ⟨pb, 0, none⟩ = some (.string s)) ∧ Hid (Below X w wr)) (fun v _ => s.size - (intOf v).toNat)
  case atStart => exact ⟨i + 1, false, by omega, by omega, by go_num, HR, HB, HQ, HA, HP, Lib.hid (Below.refl _ _)⟩
  case round =>
    obtain ⟨k, f, hik, hks, rfl, Hrun, KB, KQ, KA, KP, BR⟩ := hrel
    have hp := KP.out
    by_cases hlt : k < s.size
    · have HC0 := quoted1_any s k q a b pb Q f wr KQ.out (KA.out.cell 0) KB.out KP.out hlt
      unfold ptr at HC0
      cases hst : stopB Q (byteAt s k) f <;> rw [hst] at HC0 <;> have HC := Lib.hid HC0 <;> clear HC0
      · have Hnx := Lib.hid (show restQ s Q (k + 1) (flagB (byteAt s k) f) = R by rw [← Hrun.out]; exact (rest_go hlt h96 hst).symm)
        obtain ⟨f2, hf2⟩ : ∃ f2, flagB (byteAt s k) f = f2 := ⟨_, rfl⟩
        have Hn2 := Hnx.out
        have HC2 := HC.out
        rw [hf2] at Hn2 HC2
        have Hnx := Lib.hid Hn2
        have HC := Lib.hid HC2
        clear Hn2 HC2 hf2 hst
        have KB2 := Lib.hid (show BlockAt (wr.setCell ⟨b, 0, none⟩ (.bool f2)) b #[.bool f2] 4 from KB.out.set 0 (.bool f2))
        have KQ2 := Lib.hid (show (wr.setCell ⟨b, 0, none⟩ (.bool f2)).cell? ⟨q, 0, none⟩ = _ from (((Below.refl b wr).setCell (Nat.le_refl b) (p := ⟨b, 0, none⟩) (.bool f2)).cell (p := ⟨q, 0, none⟩) hNE.out.1).trans KQ.out)
        have KA2 := Lib.hid (KA.out.other hNE.out.2.1 0 (.bool f2))
        have KP2 := Lib.hid (show (wr.setCell ⟨b, 0, none⟩ (.bool f2)).cell? ⟨pb, 0, none⟩ = _ from (((Below.refl b wr).setCell (Nat.le_refl b) (p := ⟨b, 0, none⟩) (.bool f2)).cell (p := ⟨pb, 0, none⟩) hNE.out.2.2).trans KP.out)
        have BR2 := Lib.hid (BR.out.setCell hX (p := ⟨b, 0, none⟩) (.bool f2))
        go_wp2_with fail
        refine HC.out.mono ?_
        rintro x w' ⟨rfl, rfl⟩
        go_wp2_with fail
        go_roundw
        case rel => exact ⟨k + 1, f2, by omega, by omega, by go_num, Hnx, KB2, KQ2, KA2, KP2, BR2⟩
        case measure => simp [intOf]; omega
      · have Hres := Lib.hid (show (byteAt s k = 10 ∧ R = none) ∨ (byteAt s k ≠ 10 ∧ R = some (k + 1)) by
          by_cases hc : byteAt s k = 10
          · exact .inl ⟨hc, by rw [← Hrun.out]; exact rest_nl hlt h10 h96 hc⟩
          · refine .inr ⟨hc, ?_⟩
            unfold stopB at hst
            rw [decide_eq_false hc, Bool.false_or, Bool.and_eq_true, decide_eq_true_eq, Bool.not_eq_true'] at hst
            have h1 := Hrun.out
            rw [hst.2] at h1
            rw [← h1]
            exact rest_hit hlt hst.1)
        have BR2 := Lib.hid (BR.out.setCell hX (p := ⟨b, 0, none⟩) (.bool (flagB (byteAt s k) f)))
        clear hst
        go_wp2_with fail
        refine HC.out.mono ?_
        rintro x w' ⟨rfl, rfl⟩
        go_wp2_with fail
        go_ret
        refine ⟨⟨k, rfl, hks, hik, ?_⟩, BR2.out⟩
        rcases Hres.out with ⟨h1, h2⟩ | ⟨h1, h2⟩
        · exact .inr (.inl ⟨hlt, h1, h2⟩)
        · exact .inr (.inr ⟨hlt, h1, h2⟩)
    · have hke : k = s.size := by omega
      have Hres := Lib.hid (show R = none by rw [← Hrun.out]; exact rest_end (by omega))
      go_wp2_with fail
      go_ret
      exact ⟨⟨k, rfl, hks, hik, .inl ⟨hke, Hres.out⟩⟩, BR.out⟩
end Go.Proofs.Ytjhgibdebcapfaa
