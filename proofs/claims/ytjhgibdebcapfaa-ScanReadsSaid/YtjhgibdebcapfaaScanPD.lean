/- The program's comment: one between its marks. -/
import Derived.Test.YtjhgibdebcapfaaScanPC
namespace Go.Proofs.Ytjhgibdebcapfaa
open Go.RowKit
set_option linter.unusedSimpArgs false
set_option linter.unusedVariables false

theorem nl_block {s : ByteArray} {i n : Nat} (h0 : byteAt s i = 47) (h1 : byteAt s (i + 1) = 42) (h2 : byteAt s (i + 2 + n) = 42) (h3 : byteAt s (i + 2 + n + 1) = 47) : (List.range' i (n + 4)).any (fun k => decide (byteAt s k = 10)) = nlIn s (i + 2) (i + 2 + n) := by
  have e1 : List.range' i (n + 4) = i :: (i + 1) :: (List.range' (i + 2) n ++ [i + 2 + n, i + 2 + n + 1]) := by
    rw [List.range'_succ, List.range'_succ, List.range'_concat, List.range'_concat, List.append_assoc]
    simp
    omega
  rw [e1, List.any_cons, List.any_cons, List.any_append, h0, h1]
  simp only [List.any_cons, List.any_nil, h2, h3]
  unfold nlIn
  rw [show i + 2 + n - (i + 2) = n by omega]
  simp
theorem runF_not {p : Nat → Bool} {n : Nat} : ∀ f i, n - i ≤ f → runF p n f i < n → p (runF p n f i) = false
  | 0, i, h, hr => by
    have e : runF p n 0 i = i := rfl
    rw [e] at hr
    omega
  | f + 1, i, h, hr => by
    have e : runF p n (f + 1) i = if i < n ∧ p i = true then runF p n f (i + 1) else i := rfl
    rw [e] at hr ⊢
    by_cases hc : i < n ∧ p i = true
    · rw [if_pos hc] at hr ⊢
      exact runF_not f (i + 1) (by omega) hr
    · rw [if_neg hc] at hr ⊢
      cases hp : p i
      · rfl
      · exact absurd ⟨hr, hp⟩ hc
def MaxAt (w : World) : Prop := ∃ m : Int, w.cell? ⟨0, 0, none⟩ = some (.int .i64 m)
theorem MaxAt.drewN {w : World} (h : MaxAt w) (n : Nat) : MaxAt (w.drewN n) := h
theorem index_any (t : ByteArray) (w : World) (ht : t.size ≤ 4010) (h : MaxAt w) :
    Calls Try.prog 38 #[.string t, .string ⟨#[42, 47]⟩] w fun e w2 => e = .returned (.int .i64 (Lib.index t.data.toList [42, 47])) ∧ w2 = w := by
  obtain ⟨m, hm⟩ := h
  exact Try.strings_Index t ⟨#[42, 47]⟩ m w (by omega) hm
set_option maxHeartbeats 16000000 in
set_option maxRecDepth 100000 in
theorem pcomment_block (w : World) (B pb : Nat) (s : ByteArray) (i : Nat) (l : List Tk) (h : PS w B pb s i l) (hg : GoodL l) (hM : MaxAt w) (hs : s.size ≤ 4010) (hi : i < s.size) (hl : l.length ≤ 20000) (h0 : byteAt s i = 47) (h1 : byteAt s (i + 1) = 42) :
    Calls Try.prog 21 #[ptr pb] w fun en w' => ((s.size ≤ run (comC s) s.size (i + 2) + 1 ∧ en = .returned (.tuple #[.bool false, .int .i64 5]) ∧ PS w' B pb s i l) ∨
      (run (comC s) s.size (i + 2) + 1 < s.size ∧ en = .returned (.tuple #[.bool true, .int .i64 0]) ∧ PS w' B pb s (run (comC s) s.size (i + 2) + 2) (lineT (nlIn s (i + 2) (run (comC s) s.size (i + 2))) i l))) ∧ Below B w w' := by
  have c0 := h.cells.1
  have c1 := h.cells.2
  have hlow := Nat.le_trans h.low (Nat.le_of_lt h.lt)
  have hlp := h.low
  have HP := Lib.hid h
  have hi1 : i + 1 < s.size := byte_lt (by rw [h1]; decide)
  obtain ⟨t, ht⟩ : ∃ t, s.extract i s.size = t := ⟨_, rfl⟩
  have htz : t.size = s.size - i := by rw [← ht, ByteArray.size_extract]; omega
  obtain ⟨u, hu⟩ : ∃ u, t.extract 2 (s.size - i) = u := ⟨_, rfl⟩
  have huz : u.size ≤ 4010 := by rw [← hu, ByteArray.size_extract]; omega
  have hul : u.data.toList = s.data.toList.drop (i + 2) := by rw [← hu, ← htz, ext_end, ← ht, ext_end, List.drop_drop]
  have hIX := idx2_run s _ (i + 2) rfl (by omega)
  rw [← hul] at hIX
  have H1 : Hid (∀ w', Calls Try.prog 19 #[.string t, .string ⟨#[47, 47]⟩] w' fun e w2 => e = .returned (.bool false) ∧ w2 = w') := Lib.hid (fun w' => by have := pre_any s i ⟨#[47, 47]⟩ w'; rw [pre_line, decide_eq_false (show ¬ byteAt s (i + 1) = 47 by rw [h1]; decide), Bool.and_false, ht] at this; exact this)
  have H2 : Hid (∀ w', Calls Try.prog 19 #[.string t, .string ⟨#[47, 42]⟩] w' fun e w2 => e = .returned (.bool true) ∧ w2 = w') := Lib.hid (fun w' => by have := pre_any s i ⟨#[47, 42]⟩ w'; rw [pre_com, decide_eq_true h0, decide_eq_true h1, ht] at this; exact this)
  have HIX := fun n => index_any u (w.drewN n) huz (hM.drewN n)
  have hiI : (i : Int) ≤ (s.size : Int) := by omega
  have h2t : (2 : Int) ≤ (t.size : Int) := by omega
  have htc : (t.size : Int) = ((s.size - i : Nat) : Int) := by omega
  unfold ptr
  rcases hIX with ⟨q1, q2⟩ | ⟨n, q1, q2, q3⟩
  · simp only [q1] at HIX
    have HI := Lib.hid HIX
    have HQ := Lib.hid q2
    clear HIX q1 q2 h h0 h1 hg hM htc
    go_enter Try.func21, Try.ntmps21
    go_wp2_with fail
    go_quiet (fail)
    have BD := Lib.hid (show Below w.heap.size w (w.drewN nq) from ⟨rfl, rfl, rfl, Nat.le_refl _, fun _ _ => rfl⟩)
    go_wp2_with fail
    refine (H1.out _).mono ?_
    rintro x w' ⟨rfl, rfl⟩
    go_wp2_with fail
    refine (H2.out _).mono ?_
    rintro x w' ⟨rfl, rfl⟩
    go_wp2_with fail
    refine (HI.out _).mono ?_
    rintro x w' ⟨rfl, rfl⟩
    go_wp2_with fail
    go_ret2
    exact ⟨.inl ⟨HQ.out, rfl, HP.out.below BD.out⟩, BD.out.mono hlow⟩
  · have hcm := runF_not (p := comC s) (n := s.size) (s.size - (i + 2)) (i + 2) (Nat.le_refl _) (show run (comC s) s.size (i + 2) < s.size by rw [q2]; omega)
    rw [show runF (comC s) s.size (s.size - (i + 2)) (i + 2) = i + 2 + n from q2] at hcm
    unfold comC at hcm
    rw [decide_eq_true (show i + 2 + n + 1 < s.size from q3), Bool.true_and, Bool.not_eq_false', Bool.and_eq_true, decide_eq_true_eq, decide_eq_true_eq] at hcm
    have hnl := nl_block h0 h1 hcm.1 hcm.2
    simp only [q1] at HIX
    have HI := Lib.hid HIX
    obtain ⟨v, hv⟩ : ∃ v, t.extract 0 (n + 4) = v := ⟨_, rfl⟩
    have hvz : v.size = n + 4 := by rw [← hv, ByteArray.size_extract]; omega
    have hvl : decide (0 ≤ Lib.indexByte v.data.toList 10) = nlIn s (i + 2) (i + 2 + n) := by
      rw [(idxB_any 10 _).1, ← hnl, any_bytes s (fun c => decide (c = 10)) (n + 4) i (by omega), ← hv, ext_list, ← ht, ext_end, List.drop_zero, Nat.sub_zero]
      congr 1
      funext b
      exact u8_val (b := b) (n := 10) (by omega)
    have HV := fun n => Try.strings_Contains_one v 10 (w.drewN n)
    simp only [hvl] at HV
    have hnt : (n : Int) + 4 ≤ (t.size : Int) := by omega
    have hn4 : ((n : Int) + 4).toNat = n + 4 := by omega
    rw [q2]
    obtain ⟨nl, hnlv⟩ : ∃ nl, nlIn s (i + 2) (i + 2 + n) = nl := ⟨_, rfl⟩
    simp only [hnlv] at HV
    rw [hnlv]
    have HVV := Lib.hid HV
    have HQ := Lib.hid q3
    have hsum : (i : Int) + ((n : Int) + 4) = ((i + 2 + n + 2 : Nat) : Int) := by omega
    have HLN := Lib.hid (fun n => line_any (w.drewN n) B pb s i l (h.below ⟨rfl, rfl, rfl, Nat.le_refl _, fun _ _ => rfl⟩) hg hs hl)
    have hwn : IntKind.i64.wrap ((n : Int) + 4) = (n : Int) + 4 := by rw [IntWalk.i64_in _ (by omega)]
    clear HIX q1 q2 q3 h h0 h1 hg hM htc HV hnlv hvl hnl hcm
    cases nl
    · go_enter Try.func21, Try.ntmps21
      go_wp2_with fail
      go_quiet (fail)
      have BD := Lib.hid (show Below w.heap.size w (w.drewN nq) from ⟨rfl, rfl, rfl, Nat.le_refl _, fun _ _ => rfl⟩)
      have HP2 := Lib.hid (HP.out.below BD.out)
      go_wp2_with fail
      refine (H1.out _).mono ?_
      rintro x w' ⟨rfl, rfl⟩
      go_wp2_with fail
      refine (H2.out _).mono ?_
      rintro x w' ⟨rfl, rfl⟩
      go_wp2_with fail
      refine (HI.out _).mono ?_
      rintro x w' ⟨rfl, rfl⟩
      go_wp2_with fail
      refine (HVV.out _).mono ?_
      rintro x w' ⟨rfl, rfl⟩
      obtain ⟨vv, b1, b2, b3⟩ := HP.out.ex
      have fr1 := b1.free 1
      clear b1 b2 b3
      go_wp2_with fail
      go_ret2
      have HP3 := Lib.hid HP2.out
      have B3 := Lib.hid (BD.out.mono hlow)
      refine ⟨.inr ⟨HQ.out, rfl, ?_⟩, ?_⟩
      · have hm := HP3.out.moved (i + 2 + n + 2)
        rw [lineT_no]
        first | exact hm | (rw [show (i : Int) + ((n : Int) + 4) = ((i + 2 + n + 2 : Nat) : Int) by omega]; exact hm) | (rw [show (i : Int) + ((n + 4 : Nat) : Int) = ((i + 2 + n + 2 : Nat) : Int) by omega]; exact hm)
      · exact B3.out.setCell hlp (p := ⟨pb, 1, none⟩) _
    · go_enter Try.func21, Try.ntmps21
      go_wp2_with fail
      go_quiet (fail)
      have BD := Lib.hid (show Below w.heap.size w (w.drewN nq) from ⟨rfl, rfl, rfl, Nat.le_refl _, fun _ _ => rfl⟩)
      go_wp2_with fail
      refine (H1.out _).mono ?_
      rintro x w' ⟨rfl, rfl⟩
      go_wp2_with fail
      refine (H2.out _).mono ?_
      rintro x w' ⟨rfl, rfl⟩
      go_wp2_with fail
      refine (HI.out _).mono ?_
      rintro x w' ⟨rfl, rfl⟩
      go_wp2_with fail
      refine (HVV.out _).mono ?_
      rintro x w' ⟨rfl, rfl⟩
      have HLN2 := HLN.out
      unfold ptr at HLN2
      go_wp2_with fail
      refine (HLN2 _).mono ?_
      rintro x w3 ⟨rfl, hp3, hb3⟩
      have HP3 := Lib.hid hp3
      have B3 := Lib.hid ((BD.out.mono hlow).trans hb3)
      clear hp3 hb3 c0 c1
      have c1 := HP3.out.cells.2
      obtain ⟨vv, b1, b2, b3⟩ := HP3.out.ex
      have fr1 := b1.free 1
      clear b1 b2 b3
      go_wp2_with fail
      go_ret2
      refine ⟨.inr ⟨HQ.out, rfl, ?_⟩, ?_⟩
      · have hm := HP3.out.moved (i + 2 + n + 2)
        first | exact hm | (rw [show (i : Int) + ((n : Int) + 4) = ((i + 2 + n + 2 : Nat) : Int) by omega]; exact hm) | (rw [show (i : Int) + ((n + 4 : Nat) : Int) = ((i + 2 + n + 2 : Nat) : Int) by omega]; exact hm)
      · exact B3.out.setCell hlp (p := ⟨pb, 1, none⟩) _
end Go.Proofs.Ytjhgibdebcapfaa
