/- The numbers of nat and of its reference, for this seat: XNatRefSub, XNatRefMul, XNatRefRight, XNatRefParse, XNatRefDiv, XNatRefDivW, XNatRefFun, XNatRefDivX, XNatRefMore. -/
import Derived.Test.YtkafkcmhekgheaaGreatDoorND
import Derived.Deep.RegionWith
import Derived.Laws.Concat
import Derived.IntWalk
namespace Go.Proofs.YtkafkcmhekgheaaGreatDoor.Q
open Go.RowKit NM

/-- The state of Sub's loop. -/
structure InSub (ds fs : List Int) (N : Int) (i : Nat) (c : Int) (es : List Int) : Prop where
  digs : Digs es
  len : es.length = i
  all : dv es + 10 ^ es.length * (dv (ds.drop i) - dv (fs.drop i) - c) = N
theorem InSub.step {ds fs : List Int} {N : Int} {i : Nat} {c d f t c' : Int} {es : List Int} (h : InSub ds fs N i c es) (hd : ds.getD i 0 = d) (hf : fs.getD i 0 = f) (t0 : 0 ≤ t) (t1 : t < 10) (ht : d - f - c = t - 10 * c') : InSub ds fs N (i + 1) c' (es ++ [t]) := by
  have h1 := h.all
  rw [dv_drop ds, dv_drop fs, hd, hf] at h1
  exact ⟨Digs_snoc h.digs t0 t1, by rw [List.length_append, h.len]; rfl, dec_step h1 (by omega)⟩
theorem InSub.done {ds fs : List Int} {N c : Int} {i : Nat} {es : List Int} (h : InSub ds fs N i c es) (hi : ds.length ≤ i) (hj : fs.length ≤ i) (hN : 0 ≤ N) (c0 : 0 ≤ c) (c1 : c ≤ 1) : dv es = N := by
  have h1 := h.all
  rw [List.drop_of_length_le hi, List.drop_of_length_le hj] at h1
  have hr := dv_range h.digs
  simp only [dv] at h1
  rcases (show c = 0 ∨ c = 1 by omega) with rfl | rfl
  · omega
  · exfalso
    have e : (10 : Int) ^ es.length * (0 - 0 - 1) = - 10 ^ es.length := by omega
    omega

end Go.Proofs.YtkafkcmhekgheaaGreatDoor.Q

namespace Go.Proofs.YtkafkcmhekgheaaGreatDoor.Q
open Go.RowKit NM

theorem dstr_cons (ds : List Int) : dstr (0 :: ds) = dstr ds ++ ⟨#[48]⟩ := by
  apply ByteArray.ext
  simp [dstr, strOfNums]
/-- What the first k digits of a text are worth. -/
theorem pre_step {fs : List Int} {i : Nat} (h : i < fs.length) : dv (fs.drop (fs.length - (i + 1))) = 10 * dv (fs.drop (fs.length - i)) + fs[fs.length - 1 - i] := by
  rw [show fs.length - i = (fs.length - (i + 1)) + 1 by omega, List.drop_eq_getElem_cons (show fs.length - (i + 1) < fs.length by omega), dv]
  have e : fs.length - 1 - i = fs.length - (i + 1) := by omega
  simp only [e]
  omega

end Go.Proofs.YtkafkcmhekgheaaGreatDoor.Q

namespace Go.Proofs.YtkafkcmhekgheaaGreatDoor.Q
open Go.RowKit NM

end Go.Proofs.YtkafkcmhekgheaaGreatDoor.Q

namespace Go.Proofs.YtkafkcmhekgheaaGreatDoor.Q
open Go.RowKit NM

/-- The reference's number of a byte; 99: none. -/
def rdg (c : Int) : Int := if 48 ≤ c ∧ c ≤ 57 then c - 48 else if 97 ≤ c ∧ c ≤ 102 then c - 87 else if 65 ≤ c ∧ c ≤ 70 then c - 55 else 99
theorem rdg_dg (c : Int) : dg c = rdg c ∨ (dg c = 512 ∧ rdg c = 99) := by
  unfold dg rdg
  (repeat' split) <;> omega
theorem rdg_range (c : Int) : 0 ≤ rdg c ∧ rdg c ≤ 99 := by
  unfold rdg
  (repeat' split) <;> omega

set_option maxHeartbeats 800000 in
theorem refdigit_any (c : Int) (w : World) (h0 : 0 ≤ c) (h1 : c < 256) :
    Calls Tryz.prog 65 #[.int .u8 c] w fun e w' => e = .returned (.int .i64 (rdg c)) ∧ w = w' := by
  go_enter Tryz.func65, Tryz.ntmps65
  go_wp2_with fail
  all_goals
    go_ret
    refine ⟨ret_int ?_, rfl⟩
    unfold rdg
    (repeat' split) <;> omega

theorem rdAt {s : ByteArray} {k : Nat} {b : Int} (hb : b ≤ 16) : (rdg (byteAt s k) < b ↔ dAt s k < b) ∧ (dAt s k < b → rdg (byteAt s k) = dAt s k) := by
  unfold dAt
  rcases rdg_dg (byteAt s k) with h | ⟨h1, h2⟩
  · rw [h]; exact ⟨Iff.rfl, fun _ => rfl⟩
  · rw [h1, h2]; omega

set_option maxHeartbeats 800000 in
set_option maxRecDepth 100000 in
theorem refsyntax_any (s : ByteArray) (b : Int) (w : World) (hs : s.size ≤ 1000000) (hb : b ≤ 16) :
    Calls Tryz.prog 64 #[.string s, .int .i64 b] w fun e w' => e = .returned (.bool (toldB s b)) ∧ w = w' := by
  go_enter Tryz.func64, Tryz.ntmps64
  go_wp2_with fail
  go_loop [5] (fun i => ∃ k : Nat, k ≤ s.size ∧ i = .int .i64 k ∧ Hid (∀ j, j < k → dAt s j < b)) (fun i => s.size - (intOf i).toNat)
  case atStart => exact ⟨0, Nat.zero_le _, rfl, Lib.hid (fun j hj => absurd hj (Nat.not_lt_zero _))⟩
  case round =>
    obtain ⟨k, hk, rfl, hok⟩ := hrel
    by_cases hlt : k < s.size
    · have hbb : (s[k].toNat : Int) < 256 := by have := UInt8.toNat_lt s[k]; omega
      have hrd := rdAt (s := s) (k := k) hb
      have hbe := byteAt_eq hlt
      rw [hbe] at hrd
      obtain ⟨r, hr⟩ : ∃ r, rdg (s[k].toNat : Int) = r := ⟨_, rfl⟩
      have HD := Lib.hid (fun w => refdigit_any (s[k].toNat : Int) w (by omega) hbb)
      rw [hr] at hrd HD
      by_cases h : b ≤ r
      · have hn := Lib.hid (told_bad (b := b) k hlt (by have := hrd.1; omega))
        clear hrd hbe hr
        go_wp2_with fail
        refine (HD.out _).mono ?_
        rintro e w' ⟨rfl, rfl⟩
        go_wp2_with fail
        go_ret
        exact ⟨ret_bool hn.out.symm, rfl⟩
      · have hn := Lib.hid (show ∀ j, j < k + 1 → dAt s j < b from fun j hj => by
          by_cases e : j = k
          · rw [e]; exact hrd.1.1 (by omega)
          · exact hok.out j (by omega))
        clear hrd hbe hr
        go_wp2_with fail
        refine (HD.out _).mono ?_
        rintro e w' ⟨rfl, rfl⟩
        go_wp2_with fail
        go_round
        case rel => exact ⟨k + 1, by omega, by go_num, hn⟩
        case measure => simp [intOf]; omega
    · have hk2 : k = s.size := by omega
      have hn := Lib.hid (show toldB s b = decide (0 < s.size) by
        unfold toldB
        rw [decide_eq_decide]
        exact ⟨And.left, fun h => ⟨h, fun j hj => hok.out j (by omega)⟩⟩)
      go_wp2_with fail
      go_ret
      refine ⟨ret_bool ?_, rfl⟩
      rw [hn.out]
      try simp

theorem sixteen_succ (k : Nat) : (16 : Int) ^ (k + 1) = 16 ^ k * 16 := Int.pow_succ _ _
theorem pv_lt (s : ByteArray) {b : Int} (b2 : 2 ≤ b) (b16 : b ≤ 16) (hd : ∀ j, j < s.size → dAt s j < b) : ∀ k, k ≤ s.size → pv s b k < 16 ^ k
  | 0, _ => by simp [pv]
  | k + 1, hk => by
    have h1 := pv_lt s b2 b16 hd k (by omega)
    have h0 := pv_nonneg s b2 k
    have h2 := hd k (by omega)
    have h3 : pv s b k * b ≤ pv s b k * 16 := Int.mul_le_mul_of_nonneg_left b16 h0
    rw [pv, sixteen_succ]
    omega
theorem sixteen_big {k : Nat} (h : k ≤ 400) : (16 : Int) ^ k < big := by
  have e : (16 : Int) ^ k = 2 ^ (4 * k) := by rw [Int.pow_mul]; rfl
  rw [e]
  exact pow_big (by omega)

end Go.Proofs.YtkafkcmhekgheaaGreatDoor.Q

namespace Go.Proofs.YtkafkcmhekgheaaGreatDoor.Q
open Go.RowKit NM

theorem dstr_digit (d : Int) (ds : List Int) : dstr (d :: ds) = dstr ds ++ ⟨#[b8 d]⟩ := by
  apply ByteArray.ext
  simp [dstr, strOfNums, b8]
/-- Long division by digits: one digit more. -/
theorem div_digit {P B d : Int} (hB : 0 < B) : (d + 10 * P) / B = (d + 10 * (P % B)) / B + 10 * (P / B) ∧ (d + 10 * P) % B = (d + 10 * (P % B)) % B := by
  have h := Int.mul_ediv_add_emod P B
  have e : d + 10 * P = (d + 10 * (P % B)) + B * (10 * (P / B)) := by
    rw [Int.mul_left_comm]
    omega
  rw [e]
  refine ⟨?_, ?_⟩
  · rw [Int.add_mul_ediv_left _ _ (by omega)]
  · rw [Int.add_mul_emod_self_left]
/-- Taken off as often as it goes. -/
theorem off_done {r0 r B n : Int} (hB : 0 < B) (h : r0 = r + n * B) (h0 : 0 ≤ r) (h1 : r < B) : r0 / B = n ∧ r0 % B = r := by
  subst h
  refine ⟨?_, ?_⟩
  · rw [Int.add_mul_ediv_right _ _ (by omega), Int.ediv_eq_zero_of_lt h0 h1, Int.zero_add]
  · rw [Int.add_mul_emod_self_right, Int.emod_eq_of_lt h0 h1]
theorem off_few {r B n : Int} (hB : 0 < B) (h : r + n * B < 10 * B) (h0 : B ≤ r) : n < 9 := by
  have h1 : (n + 1) * B < 10 * B := by rw [Int.add_mul]; omega
  have := Int.lt_of_mul_lt_mul_right h1 (by omega)
  omega
end Go.Proofs.YtkafkcmhekgheaaGreatDoor.Q

namespace Go.Proofs.YtkafkcmhekgheaaGreatDoor.Q
open Go.RowKit NM

/-- The text's one byte at a place. -/
theorem dstr_one {ds : List Int} {k i : Nat} (hi : i < ds.length) (hk : k + 1 + i = ds.length) : (dstr ds).extract k (k + 1) = ⟨#[b8 ds[i]]⟩ := by
  have hs := dstr_size ds
  apply ByteArray.ext
  rw [ByteArray.data_extract]
  apply Array.ext
  · have : (dstr ds).data.size = ds.length := hs
    simp [this]
    omega
  · intro j h1 h2
    have hj : j = 0 := by simpa using h2
    subst hj
    simp [dstr, strOfNums, b8]
    have e : ds.length - 1 - k = i := by omega
    simp only [e]

end Go.Proofs.YtkafkcmhekgheaaGreatDoor.Q

namespace Go.Proofs.YtkafkcmhekgheaaGreatDoor.Q
open Go.RowKit NM

/-- A number's digits, the least first. -/
def digsN (n : Nat) : List Int := if n < 10 then [(n : Int)] else ((n % 10 : Nat) : Int) :: digsN (n / 10)
termination_by n
theorem digsN_dec (n : Nat) : Dec (digsN n) n := by
  induction n using Nat.strongRecOn with
  | ind n ih =>
    rw [digsN]
    by_cases h : n < 10
    · rw [if_pos h]
      refine ⟨fun d hd => ?_, ?_, ?_⟩
      · simp at hd; omega
      · simp [dv]
      · rcases Nat.eq_zero_or_pos n with h0 | h0
        · subst h0; exact .inl ⟨rfl, rfl⟩
        · exact .inr ⟨by simp, by simp; omega⟩
    · rw [if_neg h]
      obtain ⟨h1, h2, h3⟩ := ih (n / 10) (by omega)
      refine ⟨fun d hd => ?_, ?_, .inr ⟨by simp, ?_⟩⟩
      · rcases List.mem_cons.1 hd with rfl | hd
        · omega
        · exact h1 d hd
      · rw [dv, h2]; omega
      · rw [List.length_cons, Nat.add_sub_cancel]
        rcases h3 with ⟨h4, _⟩ | ⟨h4, h5⟩
        · omega
        · obtain ⟨k, hk⟩ : ∃ k, (digsN (n / 10)).length = k + 1 := ⟨_, (Nat.sub_add_cancel h4).symm⟩
          rw [hk, Nat.add_sub_cancel] at h5
          rw [hk, ten_succ]
          omega
/-- A number's text. -/
def numStr (N : Int) : ByteArray := dstr (digsN N.toNat)
theorem numStr_dec {N : Int} (h : 0 ≤ N) : DecStr (numStr N) N := by
  have h1 := digsN_dec N.toNat
  rw [show ((N.toNat : Nat) : Int) = N by omega] at h1
  exact ⟨_, h1, rfl⟩
theorem DecStr.nonneg {s : ByteArray} {N : Int} (h : DecStr s N) : 0 ≤ N := by
  obtain ⟨ds, ⟨h1, h2, _⟩, _⟩ := h
  rw [← h2]
  exact (dv_range h1).1
theorem DecStr.eq {s : ByteArray} {N : Int} (h : DecStr s N) : s = numStr N := h.same (numStr_dec h.nonneg)
theorem numStr_inj {A B : Int} (hA : 0 ≤ A) (hB : 0 ≤ B) (h : numStr A = numStr B) : A = B := by
  have h4 : digsN A.toNat = digsN B.toNat := by
    have h5 : dstr (digsN A.toNat) = dstr (digsN B.toNat) := h
    have k1 := digsN_dec A.toNat
    have k2 := digsN_dec B.toNat
    have hl : (digsN A.toNat).length = (digsN B.toNat).length := by rw [← dstr_size, h5, dstr_size]
    have hb := dstr_beq hl k1.1 k2.1
    rw [h5] at hb
    have hv : dv (digsN A.toNat) = dv (digsN B.toNat) := by simpa using hb.symm
    exact dv_same k1.1 k2.1 hl hv
  have k1 := (digsN_dec A.toNat).2.1
  have k2 := (digsN_dec B.toNat).2.1
  rw [h4] at k1
  omega
theorem numStr_zero : numStr 0 = ⟨#[48]⟩ := (decStr_zero.eq).symm
theorem numStr_one : numStr 1 = ⟨#[49]⟩ := (dec_one.eq).symm
theorem numStr_size {N : Int} (hN : N < big) : (numStr N).size ≤ 1000 := by
  have h1 := digsN_dec N.toNat
  have h2 := dec_small h1 (show ((N.toNat : Nat) : Int) < big by
    have : 0 < big := by unfold big; decide +kernel
    omega)
  unfold numStr
  rw [dstr_size]
  omega

end Go.Proofs.YtkafkcmhekgheaaGreatDoor.Q

namespace Go.Proofs.YtkafkcmhekgheaaGreatDoor.Q
open Go.RowKit NM

theorem block_second (hp : Array Obj) (a b : Obj) : ((hp.push a).push b)[hp.size + 1]? = some b := by
  rw [Array.getElem?_push]
  simp
theorem two_set0 {w : World} {b : Nat} {v u x : Value} {t : TypeId} (h : w.heap[b]? = some (.cells #[v, u] t (0, 0))) : (w.setCell ⟨b, 0, none⟩ x).heap[b]? = some (.cells #[x, u] t (0, 0)) := by
  have hlt := lt_of_block h
  have h' : w.heap[b] = .cells #[v, u] t (0, 0) := by simpa [Array.getElem?_eq_getElem hlt] using h
  show (w.heap.modify b _)[b]? = _
  rw [Array.getElem?_eq_getElem (by simpa using hlt), Array.getElem_modify_self, h']
  rfl
theorem two_set1 {w : World} {b : Nat} {v u x : Value} {t : TypeId} (h : w.heap[b]? = some (.cells #[v, u] t (0, 0))) : (w.setCell ⟨b, 1, none⟩ x).heap[b]? = some (.cells #[v, x] t (0, 0)) := by
  have hlt := lt_of_block h
  have h' : w.heap[b] = .cells #[v, u] t (0, 0) := by simpa [Array.getElem?_eq_getElem hlt] using h
  show (w.heap.modify b _)[b]? = _
  rw [Array.getElem?_eq_getElem (by simpa using hlt), Array.getElem_modify_self, h']
  rfl
end Go.Proofs.YtkafkcmhekgheaaGreatDoor.Q

namespace Go.Proofs.YtkafkcmhekgheaaGreatDoor.Q
open Go.RowKit NM

theorem pw_big' : 10 * pw 20 * pw 20 < big := by unfold big; decide +kernel
theorem pw_pos' (n : Nat) : 0 < pw n := pw_pos n
theorem ten_less {n : Nat} {N : Int} (h : 10 ^ n ≤ N) (hN : N < pw 20) : n ≤ 193 := by
  rcases Nat.lt_or_ge 193 n with hn | hn
  · exfalso
    have h1 := ten_le (show 194 ≤ n by omega)
    have h2 : (pw 20 : Int) ≤ 10 ^ 194 := by decide +kernel
    omega
  · exact hn
theorem pow_pw {n : Nat} (h : n ≤ 600) : (2 : Int) ^ n < pw 20 := by
  have h1 := pow_le h
  have h2 : (2 : Int) ^ 600 < pw 20 := by decide +kernel
  omega
theorem sgn_ge {A B : Int} (h : B ≤ A) : 0 ≤ sgn A B := by unfold sgn; split <;> (try split) <;> omega
theorem sgn_less {A B : Int} (h : A < B) : sgn A B = -1 := by rw [sgn, if_pos h]
theorem shift_far {N : Int} {t : Nat} (h0 : 0 ≤ N) (hN : N < pw 16) (ht : 512 ≤ t) : N / 2 ^ t = 0 := by
  have h1 := pow_le ht
  have h2 : pw 16 = 2 ^ 512 := pow16
  exact Int.ediv_eq_zero_of_lt h0 (by omega)
theorem shift_more {N : Int} {t : Nat} (h0 : 0 < N) (ht : 512 ≤ t) : pw 16 ≤ N * 2 ^ t := by
  have h1 := pow_le ht
  have h2 : pw 16 = 2 ^ 512 := pow16
  have h3 : 1 * 2 ^ t ≤ N * 2 ^ t := Int.mul_le_mul_of_nonneg_right (by omega) (by omega)
  omega
end Go.Proofs.YtkafkcmhekgheaaGreatDoor.Q

