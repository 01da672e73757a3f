/- The reference's Power, Cmp, Over. -/
import Derived.Test.YtondjnmpfpfpmaaDoorNatRefText
import Derived.Test.YtondjnmpfpfpmaaDoorNatShiftBy
namespace Go.Proofs.YtondjnmpfpfpmaaDoor
open Go.RowKit NM

theorem dec_one : DecStr ⟨#[49]⟩ 1 := ⟨[1], ⟨by intro d hd; simp at hd; omega, by decide, .inr ⟨by decide, by decide⟩⟩, by decide +kernel⟩
theorem pow_big {n : Nat} (h : n ≤ 2000) : (2 : Int) ^ n < big := by
  have h1 := pow_le h
  have h2 : (2 : Int) ^ 2000 < big := by unfold big; decide +kernel
  omega

set_option maxHeartbeats 800000 in
set_option maxRecDepth 100000 in
theorem power_any (n : Nat) (w : World) (hn : n ≤ 2000) :
    Calls Tryd.prog 25 #[.int .i64 (n : Int)] w fun e w' => (∃ s, e = .returned (.string s) ∧ DecStr s (2 ^ n)) ∧ Below w.heap.size w w' := by
  go_enter Tryd.func25, Tryd.ntmps25
  go_wp2_with fail
  go_loopw [3, 4] (fun so i wr => ∃ (k : Nat) (s : ByteArray), k ≤ n ∧ i = .int .i64 k ∧ so = .string s ∧ Hid (DecStr s (2 ^ k)) ∧ Hid (Below w.heap.size w wr)) (fun _ i _ => n - (intOf i).toNat)
  case atStart => exact ⟨0, _, Nat.zero_le _, rfl, rfl, Lib.hid (by rw [Int.pow_zero]; exact dec_one), Lib.hid (Below.refl _ _)⟩
  case round =>
    obtain ⟨k, s, hk, rfl, rfl, hs, hbl⟩ := hrel
    by_cases hkn : k < n
    · have HS := Lib.hid (small_str s _ 2 0 (2 ^ (k + 1)) wr hs.out (pow_big (by omega)) (by omega) (by omega) (by omega) (by omega) (by rw [Int.pow_succ, Int.mul_comm]; omega))
      go_wp2_with fail
      refine HS.out.mono ?_
      rintro e w2 ⟨⟨s', rfl, hs'⟩, hb2⟩
      have hb3 := Lib.hid (hbl.out.trans (hb2.mono hbl.out.size))
      have Hs' := Lib.hid hs'
      clear HS hs' hb2
      go_wp2_with fail
      go_roundw
      case rel => exact ⟨k + 1, s', by omega, by go_num, rfl, Hs', hb3⟩
      case measure => simp [intOf]; omega
    · obtain rfl : k = n := by omega
      go_wp2_with fail
      go_ret
      exact ⟨⟨_, rfl, hs.out⟩, hbl.out⟩

/-- A digit's byte. -/
def b8 (d : Int) : UInt8 := UInt8.ofNat (48 + d).toNat
theorem b8_nat {d : Int} (h0 : 0 ≤ d) (h1 : d < 10) : ((b8 d).toNat : Int) = 48 + d := by
  unfold b8
  rw [UInt8.toNat_ofNat']
  omega
theorem b8_lt {x y : Int} (x0 : 0 ≤ x) (x1 : x < 10) (y0 : 0 ≤ y) (y1 : y < 10) : (b8 x < b8 y) ↔ x < y := by
  rw [UInt8.lt_iff_toNat_lt]
  have h1 := b8_nat x0 x1
  have h2 := b8_nat y0 y1
  omega
theorem b8_eq {x y : Int} (x0 : 0 ≤ x) (x1 : x < 10) (y0 : 0 ≤ y) (y1 : y < 10) : (b8 x = b8 y) ↔ x = y := by
  rw [← UInt8.toNat_inj]
  have h1 := b8_nat x0 x1
  have h2 := b8_nat y0 y1
  omega
theorem Digs_tail {d : Int} {ds : List Int} (h : Digs (d :: ds)) : Digs ds := fun x hx => h x (List.mem_cons_of_mem _ hx)
theorem Digs_rev {ds : List Int} (h : Digs ds) : Digs ds.reverse := fun x hx => h x (List.mem_reverse.1 hx)
theorem dv_rev_cons (x : Int) (L : List Int) : dv (x :: L).reverse = dv L.reverse + 10 ^ L.length * x := by
  rw [List.reverse_cons, dv_snoc, List.length_reverse]
/-- One digit ahead decides. -/
theorem ahead_lt {T a b x y : Int} (a0 : 0 ≤ a) (a1 : a < T) (b0 : 0 ≤ b) (b1 : b < T) : (a + T * x < b + T * y) ↔ (x < y ∨ (x = y ∧ a < b)) := by
  constructor
  · intro h
    rcases Int.lt_trichotomy x y with h1 | h1 | h1
    · exact .inl h1
    · subst h1; exact .inr ⟨rfl, by omega⟩
    · exfalso
      have h2 : T * (y + 1) ≤ T * x := Int.mul_le_mul_of_nonneg_left (by omega) (by omega)
      rw [Int.mul_add] at h2
      omega
  · rintro (h1 | ⟨rfl, h1⟩)
    · have h2 : T * (x + 1) ≤ T * y := Int.mul_le_mul_of_nonneg_left (by omega) (by omega)
      rw [Int.mul_add] at h2
      omega
    · omega
theorem less_rev : ∀ (L M : List Int), L.length = M.length → Digs L → Digs M → Op.bytesLess (L.map b8) (M.map b8) = decide (dv L.reverse < dv M.reverse)
  | [], [], _, _, _ => by simp [Op.bytesLess, dv]
  | x :: L, [], h, _, _ => by simp at h
  | [], y :: M, h, _, _ => by simp at h
  | x :: L, y :: M, h, hL, hM => by
    have hl : L.length = M.length := by simpa using h
    have ih := less_rev L M hl (Digs_tail hL) (Digs_tail hM)
    have hx := hL x (List.mem_cons_self ..)
    have hy := hM y (List.mem_cons_self ..)
    have rL := dv_range (Digs_rev (Digs_tail hL))
    have rM := dv_range (Digs_rev (Digs_tail hM))
    rw [List.length_reverse] at rL rM
    rw [← hl] at rM
    rw [List.map_cons, List.map_cons, Op.bytesLess, ih, dv_rev_cons, dv_rev_cons, ← hl, Bool.eq_iff_iff, decide_eq_true_iff, ahead_lt rL.1 rL.2 rM.1 rM.2]
    simp only [Bool.or_eq_true, Bool.and_eq_true, decide_eq_true_iff, beq_iff_eq]
    rw [b8_lt hx.1 hx.2 hy.1 hy.2, b8_eq hx.1 hx.2 hy.1 hy.2]
theorem dstr_list (ds : List Int) : (dstr ds).toList = ds.reverse.map b8 := by
  rw [ByteArray.toList_eq]
  unfold dstr
  rw [strOfNums_data, ← List.map_reverse, List.map_map]
  rfl
theorem dstr_less {ds es : List Int} (hl : ds.length = es.length) (hd : Digs ds) (he : Digs es) : Op.bytesLess (dstr ds).toList (dstr es).toList = decide (dv ds < dv es) := by
  rw [dstr_list, dstr_list, less_rev _ _ (by simpa using hl) (Digs_rev hd) (Digs_rev he), List.reverse_reverse, List.reverse_reverse]
theorem dstr_beq {ds es : List Int} (hl : ds.length = es.length) (hd : Digs ds) (he : Digs es) : ((dstr ds).toList == (dstr es).toList) = decide (dv ds = dv es) := by
  rw [Bool.eq_iff_iff, beq_iff_eq, decide_eq_true_iff]
  constructor
  · intro h
    have h1 := dstr_less hl hd he
    have h2 := dstr_less hl.symm he hd
    rw [h] at h1
    rw [h, h1] at h2
    rw [Bool.eq_iff_iff, decide_eq_true_iff, decide_eq_true_iff] at h2
    omega
  · intro h
    rw [dv_same hd he hl h]
theorem dec_lt {ds es : List Int} {A B : Int} (ha : Dec ds A) (hb : Dec es B) (h : ds.length < es.length) : A < B := by
  obtain ⟨a1, a2, a3⟩ := ha
  obtain ⟨_, _, b3⟩ := hb
  have hr := dv_range a1
  have h0 : 0 < ds.length := by
    rcases a3 with ⟨_, rfl⟩ | ⟨h, _⟩
    · simp
    · exact h
  rcases b3 with ⟨_, rfl⟩ | ⟨_, h2⟩
  · rw [List.length_singleton] at h; omega
  · have := ten_le (show ds.length ≤ es.length - 1 by omega)
    omega

set_option maxHeartbeats 800000 in
set_option maxRecDepth 100000 in
theorem cmp_dec (a b : ByteArray) (A B : Int) (w : World) (ha : DecStr a A) (hb : DecStr b B) (hA : A < big) (hB : B < big) :
    Calls Tryd.prog 17 #[.string a, .string b] w fun e w' => e = .returned (.int .i64 (sgn A B)) ∧ w = w' := by
  obtain ⟨ds, hd, ea⟩ := ha
  obtain ⟨es, he, eb⟩ := hb
  have e1 : a = dstr ds := ea
  have e2 : b = dstr es := eb
  have sa : a.size = ds.length := by rw [e1, dstr_size]
  have sb : b.size = es.length := by rw [e2, dstr_size]
  have la := dec_small hd hA
  have lb := dec_small he hB
  have ma : a.size ≤ 1000 := by omega
  have mb : b.size ≤ 1000 := by omega
  rcases Nat.lt_trichotomy a.size b.size with h | h | h
  · have hs := Lib.hid (show sgn A B = -1 by have := dec_lt hd he (by omega); rw [sgn, if_pos this])
    clear hd he ea eb e1 e2 sa sb la lb
    go_enter Tryd.func17, Tryd.ntmps17
    go_wp2_with fail
    all_goals
      go_ret
      exact ⟨ret_int hs.out.symm, rfl⟩
  · have hl : ds.length = es.length := by omega
    have h1 := dstr_less hl hd.1 he.1
    have h2 := dstr_beq hl hd.1 he.1
    rw [hd.2.1, he.2.1, ← e1, ← e2] at h1 h2
    rcases Int.lt_trichotomy A B with h3 | h3 | h3
    · have hs := Lib.hid (show sgn A B = -1 by rw [sgn, if_pos h3])
      rw [decide_eq_true h3] at h1
      clear hd he ea eb e1 e2 sa sb la lb h2 h3 hl
      go_enter Tryd.func17, Tryd.ntmps17
      go_wp2_with fail
      all_goals
        go_ret
        exact ⟨ret_int hs.out.symm, rfl⟩
    · have hs := Lib.hid (show sgn A B = 0 by rw [sgn, if_neg (by omega), if_neg (by omega)])
      rw [decide_eq_false (by omega)] at h1
      rw [decide_eq_true h3] at h2
      clear hd he ea eb e1 e2 sa sb la lb h3 hl
      go_enter Tryd.func17, Tryd.ntmps17
      go_wp2_with fail
      all_goals
        go_ret
        exact ⟨ret_int hs.out.symm, rfl⟩
    · have hs := Lib.hid (show sgn A B = 1 by rw [sgn, if_neg (by omega), if_pos h3])
      rw [decide_eq_false (by omega)] at h1 h2
      clear hd he ea eb e1 e2 sa sb la lb h3 hl
      go_enter Tryd.func17, Tryd.ntmps17
      go_wp2_with fail
      all_goals
        go_ret
        exact ⟨ret_int hs.out.symm, rfl⟩
  · have hs := Lib.hid (show sgn A B = 1 by have := dec_lt he hd (by omega); rw [sgn, if_neg (by omega), if_pos this])
    clear hd he ea eb e1 e2 sa sb la lb
    go_enter Tryd.func17, Tryd.ntmps17
    go_wp2_with fail
    all_goals
      go_ret
      exact ⟨ret_int hs.out.symm, rfl⟩

set_option maxHeartbeats 800000 in
set_option maxRecDepth 100000 in
theorem over_dec (a : ByteArray) (A : Int) (w : World) (ha : DecStr a A) (hA : A < big) :
    Calls Tryd.prog 38 #[.string a] w fun e w' => e = .returned (.bool (decide (pw 16 ≤ A))) ∧ Below w.heap.size w w' := by
  go_enter Tryd.func38, Tryd.ntmps38
  go_wp2_with fail
  refine (power_any 512 w (by omega)).mono ?_
  rintro e w2 ⟨⟨s, rfl, hs⟩, hb⟩
  rw [← pow16] at hs
  go_wp2_with fail
  refine (cmp_dec a s A (pw 16) w2 ha hs hA (by rw [pow16]; exact pow_big (by omega))).mono ?_
  rintro e w3 ⟨rfl, rfl⟩
  have hsg : decide (0 ≤ sgn A (pw 16)) = decide (pw 16 ≤ A) := by
    rw [Bool.eq_iff_iff, decide_eq_true_iff, decide_eq_true_iff, sgn]
    split <;> (try split) <;> omega
  go_wp2_with fail
  go_ret
  exact ⟨rfl, hb⟩
end Go.Proofs.YtondjnmpfpfpmaaDoor
