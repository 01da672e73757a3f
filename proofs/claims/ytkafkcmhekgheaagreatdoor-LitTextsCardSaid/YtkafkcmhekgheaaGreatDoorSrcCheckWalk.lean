/- Contracts: where a text is spoilt: the walks. -/
import Derived.Test.YtkafkcmhekgheaaGreatDoorSrcCheck
import Derived.WalkSmall
namespace Go.Proofs.YtkafkcmhekgheaaGreatDoor
open Go.RowKit

/-- The text begins with the three bytes of the letter that stands for none. -/
def brkB (t : ByteArray) : Bool := decide (byteAt t 0 = 239 ∧ byteAt t 1 = 191 ∧ byteAt t 2 = 189)

theorem byteAt_list (t : ByteArray) (k : Nat) : byteAt t k = ((t.data.toList.getD k 0).toNat : Int) := by
  unfold byteAt
  rw [List.getD_eq_getElem?_getD]
  simp
theorem u8_eq {a : UInt8} {n : Nat} (h : n < 256) : (a = UInt8.ofNat n) ↔ (a.toNat : Int) = n := by
  rw [← UInt8.toNat_inj, UInt8.toNat_ofNat_of_lt' (by simpa using h)]
  omega
theorem brk_iff (t : ByteArray) (h : 3 ≤ t.size) : ((t.extract 0 3).toList == [239, 191, 189]) = brkB t := by
  have hl : 3 ≤ t.data.toList.length := by simpa using h
  rw [ByteArray.toList_eq, show (t.extract 0 3).data.toList = t.data.toList.take 3 by simp [ByteArray.data_extract]]
  unfold brkB
  rw [byteAt_list, byteAt_list, byteAt_list]
  match t.data.toList, hl with
  | a :: b :: c :: l, _ =>
    rw [Bool.eq_iff_iff]
    simp only [List.take, beq_iff_eq, List.cons.injEq, and_true, decide_eq_true_iff, List.getD_cons_zero, List.getD_cons_succ]
    have h1 := u8_eq (a := a) (n := 239) (by omega)
    have h2 := u8_eq (a := b) (n := 191) (by omega)
    have h3 := u8_eq (a := c) (n := 189) (by omega)
    exact and_congr h1 (and_congr h2 h3)

set_option maxHeartbeats 400000 in
theorem lite_broken (t : ByteArray) (w : World) (_hs : t.size ≤ 9223372036854775807) :
    Calls Tryz.prog 39 #[.string t, .string ⟨#[239, 191, 189]⟩] w fun e w' => e = .returned (.bool (brkB t)) ∧ w = w' := by
  by_cases h : 3 ≤ t.size
  · have hb := Lib.hid (brk_iff t h)
    go_enter Tryz.func39, Tryz.ntmps39
    go_wp2_with fail
    go_ret
    exact ⟨ret_bool hb.out, rfl⟩
  · have hb := Lib.hid (show brkB t = false by
      unfold brkB
      rw [decide_eq_false_iff_not]
      intro ⟨_, _, h2⟩
      rw [byteAt_none (by omega)] at h2
      omega)
    go_enter Tryz.func39, Tryz.ntmps39
    go_wp2_with fail
    go_ret
    exact ⟨ret_bool hb.out.symm, rfl⟩

set_option maxHeartbeats 400000 in
theorem has_broken (t : ByteArray) (w : World) (hs : t.size ≤ 9223372036854775807) :
    Calls Tryz.prog 22 #[.string t, .string ⟨#[239, 191, 189]⟩] w fun e w' => e = .returned (.bool (brkB t)) ∧ w = w' := by
  go_enter Tryz.func22, Tryz.ntmps22
  go_wp2_with (go_at_call 39; refine (lite_broken _ _ hs).mono ?_; rintro e w' ⟨rfl, rfl⟩)
  go_ret
  exact ⟨rfl, rfl⟩

theorem byteAt_from (s : ByteArray) (k j : Nat) : byteAt (s.extract k s.size) j = byteAt s (k + j) := by
  rw [byteAt_list, byteAt_list]
  have e : (s.extract k s.size).data.toList = s.data.toList.drop k := by
    simp only [ByteArray.data_extract, Array.toList_extract, List.extract_eq_take_drop]
    exact List.take_of_length_le (by simp)
  rw [e]
  simp [List.getD_eq_getElem?_getD]

/-- What the program asks at each letter. -/
theorem bad_of_decode (s : ByteArray) (k : Nat) :
    badAt s k = ((((Utf8.decode s k).1 : Int) == 0) || ((((Utf8.decode s k).1 : Int) == 65533) && !brkB (s.extract k s.size))) := by
  have hb : brkB (s.extract k s.size) = decide (byteAt s k = 239 ∧ byteAt s (k + 1) = 191 ∧ byteAt s (k + 2) = 189) := by
    unfold brkB
    rw [byteAt_from s k 0, byteAt_from s k 1, byteAt_from s k 2]
    rfl
  obtain ⟨h0, h1⟩ := decode_size s k
  rw [hb]
  by_cases z : szAt s k = 0
  · rw [h0 z]
    have hne : ¬ (byteAt s k = 239 ∧ byteAt s (k + 1) = 191 ∧ byteAt s (k + 2) = 189) := by
      rintro ⟨a, b, c⟩
      have t1 := (tlB_iff s (k + 1)).2 (by omega)
      have t2 := (tlB_iff s (k + 2)).2 (by omega)
      have : szAt s k = 3 := by
        rw [szAt, a, t1, t2, if_neg (by omega), if_neg (by simp), if_pos (by simp), if_neg (by omega)]
      omega
    simp [badAt, z, hne]
  · obtain ⟨e1, e2, e3⟩ := h1 z
    unfold badAt
    have m0 : (szAt s k == 0) = false := by simpa using z
    by_cases c0 : byteAt s k = 0
    · have e := e2.2 c0
      rw [m0, c0, e]
      rfl
    · have m1 : (byteAt s k == 0) = false := by simpa using c0
      have n1 : (((Utf8.decode s k).1 : Int) == 0) = false := by
        rw [beq_eq_false_iff_ne]
        intro h
        exact c0 (e2.1 (by omega))
      by_cases c1 : (Utf8.decode s k).1 = 65533
      · have e := e3 c1
        rw [m0, m1, n1, decide_eq_true e]
        simp
      · have n2 : (((Utf8.decode s k).1 : Int) == 65533) = false := by
          rw [beq_eq_false_iff_ne]
          omega
        rw [m0, m1, n1, n2]
        rfl

theorem size_of_decode (s : ByteArray) (k : Nat) (hb : badAt s k = false) : (Utf8.decode s k).2 = (szAt s k).toNat ∧ 1 ≤ (szAt s k).toNat := by
  obtain ⟨_, h1⟩ := decode_size s k
  have z : szAt s k ≠ 0 := by
    intro z
    simp [badAt, z] at hb
  have := (h1 z).1
  have hc := szAt_cases s k
  omega

/-- What Check answers for a text that is not too long. -/
def chk (s : ByteArray) : Value := if spoil s = -1 then .tuple #[.int .i64 0, .int .i64 0] else .tuple #[.int .i64 (spoil s), .int .i64 12]
theorem chk_ok {s : ByteArray} (h : spoil s = -1) : chk s = .tuple #[.int .i64 0, .int .i64 0] := by rw [chk, if_pos h]
theorem chk_bad {s : ByteArray} {k : Nat} (h : spoil s = k) : chk s = .tuple #[.int .i64 k, .int .i64 12] := by
  rw [chk, if_neg (by omega), h]

theorem below_iter (w : World) (s : ByteArray) (p : Nat) : Below w.heap.size w (w.iter s p) := (Below.refl _ _).alloc (Nat.le_refl _) _

set_option maxHeartbeats 1000000 in
set_option maxRecDepth 100000 in
theorem check_few (s : ByteArray) (w : World) (hs : s.size ≤ 4000) :
    Calls Tryz.prog 10 #[.string s] w fun e w' => e = .returned (chk s) ∧ Below w.heap.size w w' := by
  go_enter Tryz.func10, Tryz.ntmps10
  go_wp2_with fail
  go_loopw [4] (fun _ w' => ∃ (pos b : Nat), w' = w.iter s pos ∧ Hid (spoilF s b pos = spoil s) ∧ s.size ≤ pos + b) (fun _ w' => s.size - w'.iterPos w.heap.size)
  case atStart => exact ⟨0, s.size, rfl, Lib.hid rfl, by omega⟩
  case round =>
    obtain ⟨pos, b, rfl, hc, hb⟩ := hrel
    by_cases hp : pos < s.size
    · have hnx : ∀ ty, (Instr.next (.pointer (some ⟨w.heap.size, 0, none⟩)) true ty).run Tryz.prog (w.iter s pos) = _ := fun ty => run_next_any w s pos ty hp
      obtain ⟨b, rfl⟩ : ∃ b', b = b' + 1 := ⟨b - 1, by omega⟩
      have hbd := bad_of_decode s pos
      cases hbad : badAt s pos
      · have hstep := Lib.hid (spoilF_go (b := b) hp hbad)
        have hsz := size_of_decode s pos hbad
        rw [hbad] at hbd
        have hbd' := hbd.symm
        simp only [Bool.or_eq_false_iff] at hbd'
        obtain ⟨n0, n1⟩ := hbd'
        have n0' : ¬ (Utf8.decode s pos).1 = 0 := by
          intro e; rw [e] at n0; cases n0
        obtain ⟨hz1, hz2⟩ := hsz
        have Hz := Lib.hid hz1
        have hz3 : 1 ≤ (Utf8.decode s pos).2 := by omega
        cases hr : (((Utf8.decode s pos).1 : Int) == 65533)
        · clear hbd n1 hz1
          have n3 : ¬ ((Utf8.decode s pos).1 : Int) = 65533 := by simpa using hr
          go_wp2_with fail
          go_roundw
          case rel => exact ⟨pos + (Utf8.decode s pos).2, b, rfl, Lib.hid (by rw [Hz.out, ← hstep.out, hc.out]), by omega⟩
          case measure => simp; omega
        · rw [hr] at n1
          have hbk : brkB (s.extract pos s.size) = true := by simpa using n1
          have n3 : ((Utf8.decode s pos).1 : Int) = 65533 := by simpa using hr
          clear hbd n1 hz1
          go_wp2_with fail
          refine (has_broken _ _ (by simp; omega)).mono ?_
          rintro e w' ⟨rfl, rfl⟩
          rw [hbk]
          go_wp2_with fail
          go_roundw
          case rel => exact ⟨pos + (Utf8.decode s pos).2, b, rfl, Lib.hid (by rw [Hz.out, ← hstep.out, hc.out]), by omega⟩
          case measure => simp; omega
      · have hend := Lib.hid (spoilF_bad (b := b) hp hbad)
        have hchk := Lib.hid (chk_bad (hc.out.symm.trans hend.out))
        rw [hbad] at hbd
        by_cases h0 : (Utf8.decode s pos).1 = 0
        · clear hbd
          go_wp2_with fail
          go_ret2
          exact ⟨congrArg Ending.returned hchk.out.symm, below_iter _ _ _⟩
        · have n0 : (((Utf8.decode s pos).1 : Int) == 0) = false := by
            rw [beq_eq_false_iff_ne]; omega
          rw [n0, Bool.false_or] at hbd
          have hbd2 := hbd.symm
          simp only [Bool.and_eq_true] at hbd2
          obtain ⟨hr, hbk⟩ := hbd2
          have hbk : brkB (s.extract pos s.size) = false := by simpa using hbk
          have n3 : ((Utf8.decode s pos).1 : Int) = 65533 := by simpa using hr
          clear hbd
          go_wp2_with fail
          refine (has_broken _ _ (by simp; omega)).mono ?_
          rintro e w' ⟨rfl, rfl⟩
          rw [hbk]
          go_wp2_with fail
          go_ret2
          exact ⟨congrArg Ending.returned hchk.out.symm, below_iter _ _ _⟩
    · have hnx : ∀ ty, (Instr.next (.pointer (some ⟨w.heap.size, 0, none⟩)) true ty).run Tryz.prog (w.iter s pos) = _ := fun ty => run_next_end w s pos ty hp
      have hchk := Lib.hid (chk_ok (hc.out.symm.trans (spoilF_end s b pos hp)))
      go_wp2_with fail
      go_ret2
      exact ⟨congrArg Ending.returned hchk.out.symm, below_iter _ _ _⟩
set_option maxHeartbeats 400000 in
theorem check_many (s : ByteArray) (w : World) (hs : 4000 < s.size) :
    Calls Tryz.prog 10 #[.string s] w fun e w' => e = .returned (.tuple #[.int .i64 0, .int .i64 7]) ∧ Below w.heap.size w w' := by
  go_enter Tryz.func10, Tryz.ntmps10
  go_wp2_with fail
  go_ret2
  exact ⟨rfl, Below.refl _ _⟩

theorem spoil_bounds (s : ByteArray) : ∀ b k : Nat, -1 ≤ spoilF s b k ∧ spoilF s b k < s.size
  | 0, k => by simp [spoilF]; omega
  | b + 1, k => by
    rw [spoilF]
    split
    · split
      · omega
      · exact spoil_bounds s b _
    · omega

set_option maxHeartbeats 1000000 in
set_option maxRecDepth 100000 in
theorem refSpoilt_any (s : ByteArray) (w : World) (hs : s.size ≤ 1000000) :
    Calls Tryz.prog 16 #[.string s] w fun e w' => e = .returned (.int .i64 (spoil s)) ∧ w = w' := by
  go_enter Tryz.func16, Tryz.ntmps16
  go_wp2_with fail
  go_loop [3, 4] (fun i _ => ∃ pos b : Nat, i = .int .i64 pos ∧ pos ≤ s.size + 4 ∧ Hid (spoilF s b pos = spoil s) ∧ s.size ≤ pos + b) (fun i _ => s.size - (intOf i).toNat)
  case atStart => exact ⟨0, s.size, rfl, by omega, Lib.hid rfl, by omega⟩
  case round =>
    obtain ⟨pos, b, rfl, hps, hc, hb⟩ := hrel
    by_cases hp : pos < s.size
    · obtain ⟨b, rfl⟩ : ∃ b', b = b' + 1 := ⟨b - 1, by omega⟩
      have hby := Lib.hid (byteAt_eq hp)
      have hsz := szAt_cases s pos
      cases hbad : badAt s pos
      · have hstep := Lib.hid (spoilF_go (b := b) hp hbad)
        simp only [badAt, Bool.or_eq_false_iff, beq_eq_false_iff_ne] at hbad
        obtain ⟨n0, n1⟩ := hbad
        rw [hby.out] at n1
        obtain ⟨z, hz⟩ : ∃ z : Nat, szAt s pos = z := ⟨(szAt s pos).toNat, by omega⟩
        rw [hz] at n0 hsz
        have Hz := Lib.hid hz
        have z1 : 1 ≤ z := by omega
        have z4 : z ≤ 4 := by omega
        have m0 : ((z : Int) == 0) = false := by simpa using n0
        have m1 : ((s[pos].toNat : Int) == 0) = false := by simpa using n1
        clear hz hsz n0 n1
        go_wp2_with (go_at_call 28; refine (size_any s pos _ hs hp).mono ?_; rintro e w' ⟨rfl, rfl⟩; rw [Hz.out])
        go_round
        case rel => exact ⟨pos + z, b, by go_num, by omega, Lib.hid (by rw [← hc.out, hstep.out, Hz.out, Int.toNat_natCast]), by omega⟩
        case measure => simp [intOf]; omega
      · have hend := Lib.hid (hc.out.symm.trans (spoilF_bad (b := b) hp hbad))
        simp only [badAt, Bool.or_eq_true, beq_iff_eq] at hbad
        rw [hby.out] at hbad
        by_cases z0 : szAt s pos = 0
        · have Hz := Lib.hid z0
          clear hbad hsz z0
          go_wp2_with (go_at_call 28; refine (size_any s pos _ hs hp).mono ?_; rintro e w' ⟨rfl, rfl⟩; rw [Hz.out])
          go_ret
          exact ⟨ret_int hend.out.symm, rfl⟩
        · have m0 : (szAt s pos == 0) = false := by simpa using z0
          have m1 : (s[pos].toNat : Int) = 0 := by omega
          have m2 : ((s[pos].toNat : Int) == 0) = true := by simpa using m1
          have M1 := Lib.hid m1
          clear hbad hsz z0 m1
          go_wp2_with (go_at_call 28; refine (size_any s pos _ hs hp).mono ?_; rintro e w' ⟨rfl, rfl⟩)
          go_ret
          exact ⟨ret_int hend.out.symm, rfl⟩
    · have hend := Lib.hid (hc.out.symm.trans (spoilF_end s b pos hp))
      go_wp2_with fail
      go_ret
      exact ⟨ret_int hend.out.symm, rfl⟩
end Go.Proofs.YtkafkcmhekgheaaGreatDoor

