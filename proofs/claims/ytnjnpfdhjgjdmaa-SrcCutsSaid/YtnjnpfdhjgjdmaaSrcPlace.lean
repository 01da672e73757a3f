/- Contracts: the place of a byte. -/
import Derived.Test.YtnjnpfdhjgjdmaaSrcName
import Derived.Lib.Strings
import Derived.Lib.Bytealg
import Derived.Lib.LastIndexByte
import Derived.LoopTactic
namespace Go.Proofs.Ytnjnpfdhjgjdmaa
open Go.RowKit

set_option maxHeartbeats 1000000 in
set_option maxRecDepth 100000 in
theorem count_nl (t : ByteArray) (w : World) :
    Calls Try.prog 18 #[.string t, .string ⟨#[10]⟩] w fun e w' => e = .returned (.int .i64 (Lib.countByte t.data.toList 10)) ∧ w = w' := by
  go_enter Try.func18, Try.ntmps18
  go_wp2
  rw [run_callFunc_extern Try.func24 (by kernel_rfl) (by kernel_rfl) (by kernel_rfl) (e := Extern.BytealgCount.count) (by kernel_rfl), Lib.run_countString]
  simp only [Result.andThen]
  rw [Oper.upon_value]
  go_wp2
  go_ret
  exact ⟨rfl, rfl⟩

set_option maxHeartbeats 400000 in
theorem lastIdx_any (s : ByteArray) (c : Int) (hs : s.size < 4611686018427387904) (w : World) :
    Calls Try.prog 26 #[.string s, .int .u8 c] w fun e w' => e = .returned (.int .i64 (Lib.lastIndexByte s c)) ∧ w = w' := by
  go_enter Try.func26, Try.ntmps26
  go_wp2
  go_loop [5] (fun vi => ∃ k : Nat, k ≤ s.size ∧ vi = .int .i64 ((k : Int) - 1) ∧ Hid (Lib.lastIndexByte s c = Lib.lastIdx s c k)) (fun vi => ((RowKit.intOf vi) + 1).toNat)
  case atStart => exact ⟨s.size, Nat.le_refl _, by first | rfl | go_num | (congr 1; omega), Lib.hid rfl⟩
  case round =>
    obtain ⟨k, hk, rfl, hl⟩ := hrel
    cases k with
    | zero =>
      go_wp2
      go_ret
      exact ⟨ret_int (by rw [hl.out]; rfl), rfl⟩
    | succ k =>
      have e1 : ((k + 1 : Nat) : Int) - 1 = k := by omega
      rw [e1]
      clear e1
      have hlt : k < s.size := by omega
      have hb : (s.data[k]!) = s[k] := getElem!_pos s.data k (by simpa using hlt)
      by_cases hc : (s[k].toNat : Int) = c
      · have hh := Lib.hid (Lib.lastIdx_hit s c k (by rw [hb]; exact hc))
        have hc2 : ((s[k].toNat : Int) == c) = true := by simpa using hc
        have Hb := Lib.hid hb
        have Hc := Lib.hid hc
        clear hb hc
        go_wp2
        go_ret
        exact ⟨ret_int (by rw [hl.out, hh.out]), rfl⟩
      · have hh := Lib.hid (Lib.lastIdx_miss s c k (by rw [hb]; exact hc))
        have hc2 : ((s[k].toNat : Int) == c) = false := by simpa using hc
        have Hb := Lib.hid hb
        clear hb
        go_wp2
        go_round
        case rel => exact ⟨k, by omega, by go_num, Lib.hid (by rw [hl.out, hh.out])⟩
        case measure => simp [intOf]

theorem lastIndex_any (s : ByteArray) (c : Int) (hs : s.size < 4611686018427387904) (w : World) :
    Calls Try.prog 19 #[.string s, .int .u8 c] w fun e w' => e = .returned (.int .i64 (Lib.lastIndexByte s c)) ∧ w = w' := by
  go_enter Try.func19, Try.ntmps19
  go_wp2_with (go_at_call 26; refine (lastIdx_any _ _ hs _).mono ?_; rintro e w' ⟨rfl, rfl⟩)
  go_ret
  exact ⟨rfl, rfl⟩

/-! ### Plain facts on lines and columns -/
/-- How many line ends are among the first n bytes, and where the last one is. -/
def nls (s : ByteArray) (n : Nat) : Nat := (s.data.toList.take n).count 10
def lix (s : ByteArray) (n : Nat) : Int := Lib.lastIdx s 10 n

theorem nls_zero (s : ByteArray) : nls s 0 = 0 := by simp [nls]
theorem nls_succ {s : ByteArray} {k : Nat} (h : k < s.size) : nls s (k + 1) = nls s k + if byteAt s k = 10 then 1 else 0 := by
  have hl : k < s.data.toList.length := by simpa using h
  unfold nls
  rw [List.take_succ_eq_append_getElem hl, List.count_append, List.count_singleton]
  have e : (s.data.toList[k] == 10) = decide (byteAt s k = 10) := by
    rw [byteAt_eq h]
    have : s.data.toList[k] = s[k] := rfl
    rw [this, Bool.eq_iff_iff]
    simp only [beq_iff_eq, decide_eq_true_iff]
    constructor
    · intro e; rw [e]; rfl
    · intro e
      apply UInt8.toNat_inj.1
      have e2 : ((10 : UInt8).toNat : Int) = 10 := rfl
      omega
  rw [e]
  by_cases hb : byteAt s k = 10 <;> simp [hb]
theorem lix_zero (s : ByteArray) : lix s 0 = -1 := rfl
theorem lix_succ {s : ByteArray} {k : Nat} (h : k < s.size) : lix s (k + 1) = if byteAt s k = 10 then (k : Int) else lix s k := by
  unfold lix
  rw [Lib.lastIdx, byteAt_eq h, show (s.data[k]!) = s[k] from getElem!_pos s.data k (by simpa using h)]
theorem lix_bounds (s : ByteArray) (n : Nat) : -1 ≤ lix s n ∧ lix s n < n := by
  induction n with
  | zero => simp [lix_zero]
  | succ n ih =>
    unfold lix at *
    rw [Lib.lastIdx]
    split <;> omega
theorem nls_bounds (s : ByteArray) (n : Nat) : nls s n ≤ n := by
  unfold nls
  have := List.count_le_length (a := (10 : UInt8)) (l := s.data.toList.take n)
  have h2 := List.length_take_le n s.data.toList
  omega
theorem lastIdx_extract (s : ByteArray) (n : Nat) (hn : n ≤ s.size) : ∀ k, k ≤ n → Lib.lastIdx (s.extract 0 n) 10 k = Lib.lastIdx s 10 k
  | 0, _ => rfl
  | k + 1, h => by
    have hk : k < (s.extract 0 n).size := by simp; omega
    have hk2 : k < s.size := by omega
    have e : ((s.extract 0 n).data[k]!) = (s.data[k]!) := by
      rw [getElem!_pos (s.extract 0 n).data k (by simpa using hk), getElem!_pos s.data k (by simpa using hk2)]
      simp [ByteArray.data_extract]
    rw [Lib.lastIdx, Lib.lastIdx, e, lastIdx_extract s n hn k (by omega)]
theorem last_extract (s : ByteArray) (n : Nat) (hn : n ≤ s.size) : Lib.lastIndexByte (s.extract 0 n) 10 = lix s n := by
  unfold Lib.lastIndexByte lix
  have e : (s.extract 0 n).size = n := by simp; omega
  rw [e]
  exact lastIdx_extract s n hn n (Nat.le_refl _)
theorem count_extract (s : ByteArray) (n : Nat) : Lib.countByte (s.extract 0 n).data.toList 10 = nls s n := by
  unfold Lib.countByte nls
  congr 1
  simp [ByteArray.data_extract]

set_option maxHeartbeats 400000 in
theorem place_no (s : ByteArray) (p : Int) (w : World) (hp : p < 0 ∨ (s.size : Int) < p) :
    Calls Try.prog 9 #[.string s, .int .i64 p] w fun e w' => e = .returned (.tuple #[.int .i64 0, .int .i64 0, .int .i64 1]) ∧ w = w' := by
  by_cases h : p < 0
  · clear hp
    go_enter Try.func9, Try.ntmps9
    go_wp2_with fail
    go_ret3
    exact ⟨rfl, rfl⟩
  · have h2 : (s.size : Int) < p := by omega
    have h3 : 0 ≤ p := by omega
    clear hp
    go_enter Try.func9, Try.ntmps9
    go_wp2_with fail
    go_ret3
    exact ⟨rfl, rfl⟩

set_option maxHeartbeats 400000 in
theorem place_yes (s : ByteArray) (n : Nat) (w : World) (hn : n ≤ s.size) (hs : s.size < 4611686018427387904) :
    Calls Try.prog 9 #[.string s, .int .i64 n] w fun e w' => e = .returned (.tuple #[.int .i64 (1 + (nls s n : Int)), .int .i64 ((n : Int) - lix s n), .int .i64 0]) ∧ w = w' := by
  have hc := Lib.hid (count_extract s n)
  have hl := Lib.hid (last_extract s n hn)
  have b1 := nls_bounds s n
  obtain ⟨b2, b3⟩ := lix_bounds s n
  go_enter Try.func9, Try.ntmps9
  go_wp2_with fail
  refine (count_nl _ _).mono ?_
  rintro e w' ⟨rfl, rfl⟩
  rw [hc.out]
  go_wp2_with fail
  refine (lastIndex_any _ _ (by simp; omega) _).mono ?_
  rintro e w' ⟨rfl, rfl⟩
  rw [hl.out]
  go_wp2_with fail
  go_ret3
  exact ⟨rfl, rfl⟩
end Go.Proofs.Ytnjnpfdhjgjdmaa
