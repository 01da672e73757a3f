/- The program's comment: where none stands; one of one line. -/
import Derived.Test.YtjhgibdebcapfaaScanPU
import Derived.Test.YtjhgibdebcapfaaScanPL
namespace Go.Proofs.Ytjhgibdebcapfaa
open Go.RowKit
set_option linter.unusedSimpArgs false
set_option linter.unusedVariables false

theorem pre_any (s : ByteArray) (i : Nat) (t : ByteArray) (w : World) :
    Calls Try.prog 19 #[.string (s.extract i s.size), .string t] w fun e w2 => e = .returned (.bool (pfx s i t)) ∧ w2 = w := Try.strings_HasPrefix (s.extract i s.size) t w
theorem pre_line (s : ByteArray) (i : Nat) : pfx s i ⟨#[47, 47]⟩ = (decide (byteAt s i = 47) && decide (byteAt s (i + 1) = 47)) := pfx2 (a := 47) (b := 47) (by omega) (by omega) (by omega) (by omega)
theorem pre_com (s : ByteArray) (i : Nat) : pfx s i ⟨#[47, 42]⟩ = (decide (byteAt s i = 47) && decide (byteAt s (i + 1) = 42)) := pfx2 (a := 47) (b := 42) (by omega) (by omega) (by omega) (by omega)
set_option maxHeartbeats 16000000 in
set_option maxRecDepth 100000 in
theorem pcomment_not (w : World) (B pb : Nat) (s : ByteArray) (i : Nat) (l : List Tk) (h : PS w B pb s i l) (hs : s.size ≤ 4010) (hi : i < s.size) (h1 : byteAt s (i + 1) ≠ 47) (h2 : byteAt s (i + 1) ≠ 42) :
    Calls Try.prog 21 #[ptr pb] w fun en w' => en = .returned (.tuple #[.bool false, .int .i64 0]) ∧ PS w' B pb s i l ∧ Below B w w' := by
  have c0 := h.cells.1
  have c1 := h.cells.2
  have hlow := Nat.le_trans h.low (Nat.le_of_lt h.lt)
  have HP := Lib.hid h
  have H1 : Hid (∀ w', Calls Try.prog 19 #[.string (s.extract i s.size), .string ⟨#[47, 47]⟩] w' fun e w2 => e = .returned (.bool false) ∧ w2 = w') := Lib.hid (fun w' => by have := pre_any s i ⟨#[47, 47]⟩ w'; rw [pre_line, decide_eq_false h1, Bool.and_false] at this; exact this)
  have H2 : Hid (∀ w', Calls Try.prog 19 #[.string (s.extract i s.size), .string ⟨#[47, 42]⟩] w' fun e w2 => e = .returned (.bool false) ∧ w2 = w') := Lib.hid (fun w' => by have := pre_any s i ⟨#[47, 42]⟩ w'; rw [pre_com, decide_eq_false h2, Bool.and_false] at this; exact this)
  have hiI : (i : Int) ≤ (s.size : Int) := by omega
  unfold ptr
  clear h h1 h2
  go_enter Try.func21, Try.ntmps21
  go_wp2_with fail
  go_quiet (fail)
  have BD := Lib.hid (show Below w.heap.size w (w.drewN nq) from ⟨rfl, rfl, rfl, Nat.le_refl _, fun _ _ => rfl⟩)
  go_wp2_with fail
  refine (H1.out _).mono ?_
  rintro x w' ⟨rfl, rfl⟩
  go_wp2_with fail
  refine (H2.out _).mono ?_
  rintro x w' ⟨rfl, rfl⟩
  go_wp2_with fail
  go_ret2
  exact ⟨rfl, HP.out.below BD.out, BD.out.mono hlow⟩
set_option maxHeartbeats 16000000 in
set_option maxRecDepth 100000 in
theorem pcomment_line (w : World) (B pb : Nat) (s : ByteArray) (i e : Nat) (l : List Tk) (h : PS w B pb s i l) (hs : s.size ≤ 4010) (hi : i < s.size) (h0 : byteAt s i = 47) (h1 : byteAt s (i + 1) = 47) (he : run (fun k => !decide (byteAt s k = 10)) s.size (i + 2) = e) :
    Calls Try.prog 21 #[ptr pb] w fun en w' => en = .returned (.tuple #[.bool true, .int .i64 0]) ∧ PS w' B pb s e l ∧ Below B w w' := by
  have c0 := h.cells.1
  have c1 := h.cells.2
  have hlow := Nat.le_trans h.low (Nat.le_of_lt h.lt)
  have hlp := h.low
  have HP := Lib.hid h
  have hi1 : i + 1 < s.size := byte_lt (by rw [h1]; decide)
  have er : run (fun k => !decide (byteAt s k = 10)) s.size i = e := by
    rw [run_step (p := fun k => !decide (byteAt s k = 10)) hi (by rw [h0]; rfl), run_step (p := fun k => !decide (byteAt s k = 10)) hi1 (by rw [h1]; rfl)]
    exact he
  obtain ⟨t, ht⟩ : ∃ t, s.extract i s.size = t := ⟨_, rfl⟩
  have htz : t.size = s.size - i := by rw [← ht, ByteArray.size_extract]; omega
  have hIB := idxB_run s _ i rfl (by omega)
  rw [er, ← ext_end, ht] at hIB
  have H1 : Hid (∀ w', Calls Try.prog 19 #[.string t, .string ⟨#[47, 47]⟩] w' fun e w2 => e = .returned (.bool true) ∧ w2 = w') := Lib.hid (fun w' => by have := pre_any s i ⟨#[47, 47]⟩ w'; rw [pre_line, decide_eq_true h0, decide_eq_true h1, ht] at this; exact this)
  have HI0 : ∀ w', Calls Try.prog 37 #[.string t, .int .u8 10] w' fun e w2 => e = .returned (.int .i64 (Lib.indexByte t.data.toList 10)) ∧ w2 = w' := fun w' => Try.strings_IndexByte t 10 w'
  have hiI : (i : Int) ≤ (s.size : Int) := by omega
  unfold ptr
  clear h h0 h1 he er
  rcases hIB with ⟨q1, q2⟩ | ⟨n, q1, q2, q3⟩
  · simp only [q1] at HI0
    have HI := Lib.hid HI0
    have hsum : (i : Int) + (t.size : Int) = (e : Int) := by omega
    have hwr : IntKind.i64.wrap (e : Int) = (e : Int) := by rw [IntWalk.i64_in _ (by omega)]
    clear HI0 q1
    go_enter Try.func21, Try.ntmps21
    go_wp2_with fail
    go_quiet (fail)
    have BD := Lib.hid (show Below w.heap.size w (w.drewN nq) from ⟨rfl, rfl, rfl, Nat.le_refl _, fun _ _ => rfl⟩)
    have HP2 := Lib.hid (HP.out.below BD.out)
    go_wp2_with fail
    refine (H1.out _).mono ?_
    rintro x w' ⟨rfl, rfl⟩
    go_wp2_with fail
    refine (HI.out _).mono ?_
    rintro x w' ⟨rfl, rfl⟩
    obtain ⟨vv, b1, b2, b3⟩ := HP.out.ex
    have fr1 := b1.free 1
    clear b1 b2 b3
    go_wp2_with fail
    go_ret2
    rw [show (i : Int) + ((s.size - i : Nat) : Int) = (e : Int) by omega]
    exact ⟨rfl, HP2.out.moved e, (BD.out.mono hlow).setCell hlp (p := ⟨pb, 1, none⟩) _⟩
  · simp only [q1] at HI0
    have HI := Lib.hid HI0
    obtain ⟨u, hu⟩ : ∃ u, t.extract 0 n = u := ⟨_, rfl⟩
    have huz : u.size = n := by rw [← hu, ByteArray.size_extract]; omega
    have hnt : (n : Int) ≤ (t.size : Int) := by omega
    have hsum : (i : Int) + (u.size : Int) = (e : Int) := by omega
    have hwr : IntKind.i64.wrap (e : Int) = (e : Int) := by rw [IntWalk.i64_in _ (by omega)]
    clear HI0 q1
    go_enter Try.func21, Try.ntmps21
    go_wp2_with fail
    go_quiet (fail)
    have BD := Lib.hid (show Below w.heap.size w (w.drewN nq) from ⟨rfl, rfl, rfl, Nat.le_refl _, fun _ _ => rfl⟩)
    have HP2 := Lib.hid (HP.out.below BD.out)
    go_wp2_with fail
    refine (H1.out _).mono ?_
    rintro x w' ⟨rfl, rfl⟩
    go_wp2_with fail
    refine (HI.out _).mono ?_
    rintro x w' ⟨rfl, rfl⟩
    obtain ⟨vv, b1, b2, b3⟩ := HP.out.ex
    have fr1 := b1.free 1
    clear b1 b2 b3
    go_wp2_with fail
    go_ret2
    rw [show (i : Int) + (n : Int) = (e : Int) by omega]
    exact ⟨rfl, HP2.out.moved e, (BD.out.mono hlow).setCell hlp (p := ⟨pb, 1, none⟩) _⟩
end Go.Proofs.Ytjhgibdebcapfaa
