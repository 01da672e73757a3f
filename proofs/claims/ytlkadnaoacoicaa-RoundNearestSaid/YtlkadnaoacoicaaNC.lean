/- The numbers of nat and of its reference, for this seat: XNatShift, XNatShiftBy, XNatSame, XNatDigit, XNatParse, XNatDec, XNatRev, XNatText, XNatAlive. -/
import Derived.Test.YtlkadnaoacoicaaNB
import Derived.Shelf.SlicesE.Reverse
import Derived.Maps.AppendAt
import Derived.Deep.LoopGhost
import Derived.Laws.BytesArg
namespace Go.Proofs.Ytlkadnaoacoicaa
open Go.RowKit NM

theorem pw_pow (n : Nat) : pw n = 2 ^ (32 * n) := by
  induction n with
  | zero => rfl
  | succ n ih =>
    rw [pw_succ', ih, show 32 * (n + 1) = 32 * n + 32 by omega, Int.pow_add]
    rfl

/-- The least number of bits. -/
def IsBits (N : Int) (k : Nat) : Prop := (N = 0 ∧ k = 0) ∨ (0 < N ∧ 1 ≤ k ∧ 2 ^ (k - 1) ≤ N ∧ N < 2 ^ k)

theorem top_bits {xs : List Int} (cx : Canon xs) {n : Nat} (hl : xs.length = n + 1) {k : Nat} (k1 : 1 ≤ k) (h0 : (2 : Int) ^ (k - 1) ≤ lb xs n) (h1 : lb xs n < 2 ^ k) : IsBits (val xs) (n * 32 + k) := by
  have h2 := val_step (xs := xs) (k := n) (by omega)
  rw [val_take_all (by omega)] at h2
  have t0 := val_nonneg (U32s_take cx.u n)
  have t1 := val_lt (U32s_take cx.u n)
  rw [List.length_take, Nat.min_eq_left (by omega)] at t1
  have hp := pw_pos n
  have e : pw n = 2 ^ (n * 32) := by rw [pw_pow, Nat.mul_comm]
  have a1 : pw n * 2 ^ (k - 1) ≤ pw n * lb xs n := Int.mul_le_mul_of_nonneg_left h0 (by omega)
  have a2 : pw n * (lb xs n + 1) ≤ pw n * 2 ^ k := Int.mul_le_mul_of_nonneg_left (by omega) (by omega)
  rw [Int.mul_add] at a2
  have b1 : pw n * 2 ^ (k - 1) = 2 ^ (n * 32 + k - 1) := by rw [e, ← Int.pow_add, show n * 32 + (k - 1) = n * 32 + k - 1 by omega]
  have b2 : pw n * 2 ^ k = 2 ^ (n * 32 + k) := by rw [e, ← Int.pow_add]
  rw [b1] at a1
  rw [b2] at a2
  have := pow_pos2 (n * 32 + k - 1)
  exact .inr ⟨by omega, by omega, by omega, by omega⟩

set_option maxHeartbeats 800000 in
set_option maxRecDepth 100000 in
theorem width_num (v : Value) (N : Int) (w : World) (h1 : Num w v N) :
    Calls Try.prog 49 #[v] w fun e w' => (∃ k : Nat, e = .returned (.int .i64 (k : Int)) ∧ IsBits N k ∧ k ≤ 512) ∧ w = w' := by
  obtain ⟨xs, ⟨ao, ca, rfl, _, ra, ux, _⟩, rx, rfl⟩ := h1
  obtain ⟨cx, lx⟩ := rightB_canon ux rx
  clear rx
  by_cases h0 : xs = []
  · subst h0
    have hb : IsBits (val []) 0 := .inl ⟨rfl, rfl⟩
    have HB := Lib.hid hb
    clear ra ux cx lx hb
    go_enter Try.func49, Try.ntmps49
    go_wp2_with fail
    go_ret
    exact ⟨⟨0, rfl, HB.out, by omega⟩, rfl⟩
  · have hlen := List.length_pos_iff.2 h0
    obtain ⟨n, hn⟩ : ∃ n, xs.length = n + 1 := ⟨xs.length - 1, by omega⟩
    obtain ⟨b, off, rfl, _, hc⟩ := ra.cells (by omega)
    have hck := hc n (by omega)
    have ht := Ends_lb cx.e h0
    rw [hn, Nat.add_sub_cancel] at ht
    obtain ⟨t0, t1⟩ := lb_range ux n
    obtain ⟨l0, l1, l2, l3⟩ := bitLen_facts (x := lb xs n) (by omega) t1
    obtain ⟨k, hk⟩ : ∃ k : Nat, k = Lib.bitLen (lb xs n).toNat := ⟨_, rfl⟩
    have hL : ∀ w, Calls Try.prog 57 #[.int .u32 (lb xs n)] w fun e w' => e = .returned (.int .i64 (k : Int)) ∧ w = w' := fun w =>
      (Try.bits_Len32 (lb xs n) w t0 (by omega)).mono fun e w' ⟨he, hw⟩ => ⟨by rw [he, hk], hw.symm⟩
    rw [← hk] at l0 l1 l2 l3
    have hB := top_bits cx hn l0 l2 l3
    have HB := Lib.hid hB
    have HL := Lib.hid hL
    have Hc := Lib.hid hc
    have Hn := Lib.hid hn
    rw [hn]
    rw [hn] at lx
    clear hB hL hc hk l2 l3 hn ht h0 hlen
    go_enter Try.func49, Try.ntmps49
    go_wp2_with fail
    refine (HL.out _).mono ?_
    rintro e w' ⟨rfl, rfl⟩
    go_wp2_with fail
    go_ret
    exact ⟨⟨n * 32 + k, ret_int (by omega), HB.out, by omega⟩, rfl⟩

set_option maxHeartbeats 800000 in
theorem bits_num (v : Value) (N : Int) (w : World) (h1 : Num w v N) :
    Calls Try.prog 32 #[v] w fun e w' => (∃ k : Nat, e = .returned (.tuple #[.int .i64 (k : Int), .int .i64 0]) ∧ IsBits N k ∧ k ≤ 512) ∧ w = w' := by
  have R1 := Lib.hid (right_num h1)
  have W1 := Lib.hid (width_num v N w h1)
  clear h1
  go_enter Try.func32, Try.ntmps32
  go_wp2_with fail
  refine R1.out.mono ?_
  rintro e w' ⟨rfl, rfl⟩
  go_wp2_with fail
  refine W1.out.mono ?_
  rintro e w' ⟨⟨k, rfl, hb, hk⟩, rfl⟩
  have HB := Lib.hid hb
  clear hb
  go_wp2_with fail
  go_ret2
  exact ⟨⟨k, rfl, HB.out, hk⟩, rfl⟩

/-- A slice that is no number. -/
def Bad1 (w : World) (v : Value) : Prop := ∃ xs, Sl w v xs ∧ rightB xs = false
theorem right_bad {w : World} {v : Value} (h : Bad1 w v) :
    Calls Try.prog 29 #[v] w fun e w' => e = .returned (.bool false) ∧ w = w' := by
  obtain ⟨xs, h1, h2⟩ := h
  have := right_sl h1
  rw [h2] at this
  exact this
set_option maxHeartbeats 400000 in
theorem bits_bad (v : Value) (w : World) (h1 : Bad1 w v) :
    Calls Try.prog 32 #[v] w fun e w' => e = .returned (.tuple #[.int .i64 0, .int .i64 1]) ∧ w = w' := by
  have R1 := Lib.hid (right_bad h1)
  clear h1
  go_enter Try.func32, Try.ntmps32
  go_wp2_with fail
  refine R1.out.mono ?_
  rintro e w' ⟨rfl, rfl⟩
  go_wp2_with fail
  go_ret2
  exact ⟨rfl, rfl⟩
set_option maxHeartbeats 400000 in
theorem shift_bad (v : Value) (s : Int) (w : World) (h1 : Bad1 w v) :
    Calls Try.prog 33 #[v, .int .i64 s] w fun e w' => e = .returned (.tuple #[.slice none 0 0, .int .i64 1]) ∧ w = w' := by
  have R1 := Lib.hid (right_bad h1)
  clear h1
  go_enter Try.func33, Try.ntmps33
  go_wp2_with fail
  refine R1.out.mono ?_
  rintro e w' ⟨rfl, rfl⟩
  go_wp2_with fail
  go_ret2
  exact ⟨rfl, rfl⟩
end Go.Proofs.Ytlkadnaoacoicaa

namespace Go.Proofs.Ytlkadnaoacoicaa
open Go.RowKit NM

theorem pow16 : pw 16 = 2 ^ 512 := by rw [pw_pow]
theorem Num.of_zero {w : World} {v : Value} (h : Num w v 0) : ∃ ao cap, v = .slice ao 0 cap := by
  obtain ⟨ao, n, cap, rfl, _, h0, _, _⟩ := h.len
  rw [h0.2 rfl]
  exact ⟨ao, cap, rfl⟩

/-- Shifted down: by limbs, then by bits. -/
theorem down_limbs {xs : List Int} {s : Nat} (ux : U32s xs) (hs : s / 32 ≤ xs.length) : val (xs.drop (s / 32)) / 2 ^ (s % 32) = val xs / 2 ^ s := by
  have h1 := val_split xs (s / 32) hs
  have t0 := val_nonneg (U32s_take ux (s / 32))
  have t1 := val_lt (U32s_take ux (s / 32))
  rw [List.length_take, Nat.min_eq_left hs] at t1
  have hp := pw_pos (s / 32)
  have h2 : val xs / pw (s / 32) = val (xs.drop (s / 32)) := by
    rw [h1, Int.add_mul_ediv_left _ _ (by omega), Int.ediv_eq_zero_of_lt t0 t1, Int.zero_add]
  rw [← h2, Int.ediv_ediv, if_neg (by omega), Int.sub_zero, pw_pow, ← Int.pow_add, show 32 * (s / 32) + s % 32 = s by omega]

set_option maxHeartbeats 1600000 in
set_option maxRecDepth 100000 in
theorem shift_down (v : Value) (N : Int) (t : Nat) (w : World) (h1 : Num w v N) (s0 : 0 < t) (s1 : t ≤ 9223372036854775808) :
    Calls Try.prog 33 #[v, .int .i64 (-(t : Int))] w fun e w' => (∃ r, e = .returned (.tuple #[r, .int .i64 0]) ∧ Num w' r (N / 2 ^ t)) ∧ Below w.heap.size w w' := by
  have R1 := Lib.hid (right_num h1)
  have hrg := h1.range
  by_cases hN : N = 0
  · subst hN
    obtain ⟨ao, cap, rfl⟩ := h1.of_zero
    have Hz := Lib.hid (show (0 : Int) / 2 ^ t = 0 by simp)
    clear h1 hrg
    go_enter Try.func33, Try.ntmps33
    go_wp2_with fail
    refine R1.out.mono ?_
    rintro e w' ⟨rfl, rfl⟩
    go_wp2_with fail
    go_ret2
    exact ⟨⟨_, rfl, by rw [Hz.out]; exact Num_nil _⟩, Below.refl _ _⟩
  · have W1 := Lib.hid (width_num v N w h1)
    have H1 := Lib.hid h1
    obtain ⟨ao, n, ca, rfl, hn16, hn0, -, -⟩ := h1.len
    have hnn : ((n : Int) == 0) = false := by
      rw [beq_eq_false_iff_ne]; intro h; exact hN (hn0.1 (by omega))
    have HN := Lib.hid hN
    clear h1 hn0 hN
    go_enter Try.func33, Try.ntmps33
    go_wp2_with fail
    refine R1.out.mono ?_
    rintro e w' ⟨rfl, rfl⟩
    go_wp2_with fail
    refine W1.out.mono ?_
    rintro e w' ⟨⟨k, rfl, hb, hk⟩, rfl⟩
    have hb' : 1 ≤ k ∧ 2 ^ (k - 1) ≤ N ∧ N < 2 ^ k := by
      rcases hb with ⟨h, _⟩ | ⟨_, h1, h3, h2⟩
      · exact absurd h HN.out
      · exact ⟨h1, h3, h2⟩
    obtain ⟨k1, hlow, hNk⟩ := hb'
    have Hlow := Lib.hid hlow
    clear hlow
    have HNk := Lib.hid hNk
    clear hb hNk
    by_cases hsk : k ≤ t
    · have hz : N / 2 ^ t = 0 := by
        refine Int.ediv_eq_zero_of_lt hrg.1 ?_
        have h1 := HNk.out
        have h2 := pow_le (show k ≤ t by omega)
        omega
      have Hz := Lib.hid hz
      clear hz
      go_wp2_with fail
      go_ret2
      exact ⟨⟨_, rfl, by rw [Hz.out]; exact Num_nil _⟩, Below.refl _ _⟩
    · obtain ⟨xs, ⟨ao', ca', e, hca, ra, ux, _⟩, rx, hvx⟩ := H1.out
      obtain ⟨rfl, rfl, rfl⟩ : ao = ao' ∧ n = xs.length ∧ ca = ca' := by simpa using e
      have hkl : t / 32 < xs.length := by
        have h2 := val_lt ux
        rw [hvx, pw_pow] at h2
        by_cases h : t / 32 < xs.length
        · exact h
        · exfalso
          have hb := Hlow.out
          have h3 := pow_le (show 32 * xs.length ≤ k - 1 by omega)
          omega
      obtain ⟨b, off, rfl, hbw, hc⟩ := ra.cells (by omega)
      have hrow : Row w (some ⟨b, off + t / 32, none⟩) (xs.drop (t / 32)) := by
        refine .inr ⟨b, off + t / 32, rfl, hbw, fun i hi => ?_⟩
        rw [List.length_drop] at hi
        rw [lb_drop, Nat.add_assoc]
        exact hc _ (by omega)
      have hdv := down_limbs (xs := xs) (s := t) ux (by omega)
      have hsm : val (xs.drop (t / 32)) / 2 ^ (t % 32) < pw 16 := by
        rw [hdv, hvx]
        have h1 : N / 2 ^ t ≤ N := Int.ediv_le_self _ hrg.1
        omega
      have hD := down_any _ (ca - t / 32) (xs.drop (t / 32)) (t % 32) w hrow (U32s_drop ux _) (by rw [List.length_drop]; omega) (by omega) hsm
      rw [hdv, hvx, List.length_drop, show ((t % 32 : Nat) : Int) = (t : Int) % 32 by omega] at hD
      have HD := Lib.hid hD
      obtain ⟨n, hn⟩ : ∃ n, n = xs.length := ⟨_, rfl⟩
      rw [← hn] at HD hca hkl hnn hn16 ⊢
      have Hn := Lib.hid hn
      have Hc := Lib.hid hc
      clear hD hsm hdv hrow hc hvx rx e hn
      have hts : ¬ (-(t : Int)) ≤ -(k : Int) := by omega
      go_wp2_with fail
      refine HD.out.mono ?_
      rintro e w1 ⟨⟨r, rfl, hr⟩, hb⟩
      have Hr := Lib.hid hr
      clear hr
      go_wp2_with fail
      go_ret2
      exact ⟨⟨r, rfl, Hr.out⟩, hb⟩

theorem make_cap (l c : Nat) (hl : l ≤ c) (hc : c ≤ 1000000) (w : World) :
    (Instr.makeSlice 23 (.int .i64 (l : Int)) (.int .i64 (c : Int))).run Try.prog w = .ok (.slice (some ⟨w.heap.size, 0, none⟩) l c) (w.alloc (.cells (arr (List.replicate c 0)) 56)) := by
  obtain ⟨i, hi, hz, hs, hb⟩ := info_parts info_u32
  have h := run_make (P := Try.prog) w 23 56 i (.int .u32 0) Try.underlying23 hi hz .i64 .i64 l c (by omega) (by omega) (by rw [hb]; omega) (by omega)
  rw [hs, Nat.mul_one, Int.toNat_natCast, Int.toNat_natCast, show (Value.int IntKind.u32 0).cells = #[.int .u32 0] from rfl, arr_made] at h
  exact h

theorem val_zeros (q : Nat) (zs : List Int) : val (List.replicate q 0 ++ zs) = pw q * val zs := by
  rw [val_append, val_replicate, List.length_replicate]
  omega

set_option maxHeartbeats 1600000 in
set_option maxRecDepth 100000 in
theorem shift_up (v : Value) (N : Int) (s : Nat) (w : World) (h1 : Num w v N) (s1 : s ≤ 9223372036854775807) :
    Calls Try.prog 33 #[v, .int .i64 (s : Int)] w fun e w' => Told (N * 2 ^ s) e w' ∧ Below w.heap.size w w' := by
  have R1 := Lib.hid (right_num h1)
  have hrg := h1.range
  have hp16 := pw_pos 16
  by_cases hN : N = 0
  · subst hN
    obtain ⟨ao, cap, rfl⟩ := h1.of_zero
    have Hz := Lib.hid (show (0 : Int) * 2 ^ s = 0 by simp)
    have Hp := Lib.hid hp16
    clear h1 hrg hp16
    go_enter Try.func33, Try.ntmps33
    go_wp2_with fail
    refine R1.out.mono ?_
    rintro e w' ⟨rfl, rfl⟩
    go_wp2_with fail
    go_ret2
    exact ⟨by rw [Hz.out]; exact .inl ⟨Hp.out, _, rfl, Num_nil _⟩, Below.refl _ _⟩
  · have W1 := Lib.hid (width_num v N w h1)
    have H1 := Lib.hid h1
    obtain ⟨ao, n, ca, rfl, hn16, hn0, -, -⟩ := h1.len
    have hnn : ((n : Int) == 0) = false := by
      rw [beq_eq_false_iff_ne]; intro h; exact hN (hn0.1 (by omega))
    have HN := Lib.hid hN
    clear h1 hn0 hN
    go_enter Try.func33, Try.ntmps33
    go_wp2_with fail
    refine R1.out.mono ?_
    rintro e w' ⟨rfl, rfl⟩
    go_wp2_with fail
    refine W1.out.mono ?_
    rintro e w' ⟨⟨k, rfl, hb, hk⟩, rfl⟩
    have hb' : 1 ≤ k ∧ 2 ^ (k - 1) ≤ N ∧ N < 2 ^ k := by
      rcases hb with ⟨h, _⟩ | ⟨_, h1, h3, h2⟩
      · exact absurd h HN.out
      · exact ⟨h1, h3, h2⟩
    obtain ⟨k1, hlow, hNk⟩ := hb'
    have Hlow := Lib.hid hlow
    have HNk := Lib.hid hNk
    clear hb hNk hlow
    by_cases hsk : 512 - (k : Int) < s
    · have hbig : pw 16 ≤ N * 2 ^ s := by
        rw [pow16]
        have h1 := Int.mul_le_mul_of_nonneg_right Hlow.out (show (0 : Int) ≤ 2 ^ s by have := pow_pos2 s; omega)
        rw [← Int.pow_add] at h1
        have h2 := pow_le (show 512 ≤ k - 1 + s by omega)
        omega
      have Hb := Lib.hid hbig
      clear hbig
      go_wp2_with fail
      go_ret2
      exact ⟨.inr ⟨Hb.out, rfl⟩, Below.refl _ _⟩
    · have hsmall : N * 2 ^ s < pw 16 := by
        rw [pow16]
        have h1 := Int.mul_lt_mul_of_pos_right HNk.out (pow_pos2 s)
        rw [← Int.pow_add] at h1
        have h2 := pow_le (show k + s ≤ 512 by omega)
        omega
      obtain ⟨xs, ⟨ao', ca', e, hca, ra, ux, _⟩, rx, hvx⟩ := H1.out
      obtain ⟨rfl, rfl, rfl⟩ : ao = ao' ∧ n = xs.length ∧ ca = ca' := by simpa using e
      have hmk : ∀ wx, (Instr.makeSlice 23 (.int .i64 ((s : Int) / 32)) (.int .i64 ((s : Int) / 32 + (xs.length : Int) + 1))).run Try.prog wx = .ok (.slice (some ⟨wx.heap.size, 0, none⟩) (s / 32) (s / 32 + xs.length + 1)) (wx.alloc (.cells (arr (List.replicate (s / 32 + xs.length + 1) 0)) 56)) := by
        have := make_cap (s / 32) (s / 32 + xs.length + 1) (by omega) (by omega)
        rw [show ((s / 32 : Nat) : Int) = (s : Int) / 32 by omega, show ((s / 32 + xs.length + 1 : Nat) : Int) = (s : Int) / 32 + (xs.length : Int) + 1 by omega] at this
        exact this
      have hbl : Below w.heap.size w (w.alloc (.cells (arr (List.replicate (s / 32 + xs.length + 1) 0)) 56)) := (Below.refl _ _).alloc (Nat.le_refl _) _
      have hU := up_any ao ca xs (s % 32) _ (ra.below hbl) ux (by omega) (by omega)
      rw [show ((s % 32 : Nat) : Int) = (s : Int) % 32 by omega] at hU
      have HU := Lib.hid hU
      have Hsm := Lib.hid hsmall
      have Hvx := Lib.hid hvx
      have s512 : s ≤ 512 := by omega
      clear hU hsmall hvx rx e ra
      obtain ⟨n, hn⟩ : ∃ n, n = xs.length := ⟨_, rfl⟩
      rw [← hn] at HU hmk hca hnn hn16 hbl ⊢
      have Hn := Lib.hid hn
      clear hn
      obtain ⟨i0, hi, hz0, hz1, hz2⟩ := info_parts info_u32
      go_wp2_with fail
      refine HU.out.mono ?_
      rintro e w1 ⟨zs, rfl, hzl, uz, hvz, rfl⟩
      have Hzl := Lib.hid hzl
      have Hvz := Lib.hid hvz
      have hrow1 := RowAt.new (w.alloc (.cells (arr (List.replicate (s / 32 + n + 1) 0)) 56)) zs
      have hrow0 := (RowAt.new w (List.replicate (s / 32 + n + 1) 0)).below ((Below.refl _ _).alloc (Nat.le_refl _) (.cells (arr zs) 56))
      have hown : ((w.alloc (.cells (arr (List.replicate (s / 32 + n + 1) 0)) 56)).alloc (.cells (arr zs) 56)).ownsRow w.heap.size 56 1 (.slice (some ⟨w.heap.size, 0, none⟩) (s / 32) (s / 32 + n + 1)) (s / 32) ((List.replicate (s / 32) (0 : Int)).map (Value.int .u32)) := by
        refine ⟨by simp, .inr ⟨w.heap.size, _, _, rfl, Nat.le_refl _, hrow0, by omega, by unfold maxLen; omega, by simp [arr], ?_⟩⟩
        simp [arr, List.take_replicate]
        congr 1
        omega
      have Hown := Lib.hid hown
      have hb2 : Below w.heap.size w ((w.alloc (.cells (arr (List.replicate (s / 32 + n + 1) 0)) 56)).alloc (.cells (arr zs) 56)) := hbl.alloc hbl.size _
      have Hb2 := Lib.hid hb2
      have hcells : ∀ j u, (zs.map (Value.int .u32))[j]? = some u → ((w.alloc (.cells (arr (List.replicate (s / 32 + n + 1) 0)) 56)).alloc (.cells (arr zs) 56)).cell? ((⟨w.heap.size + 1, 0, none⟩ : Addr).add j) = some u := by
        intro j u hj
        by_cases hjl : j < zs.length
        · rw [List.getElem?_map, List.getElem?_eq_getElem hjl] at hj
          simp at hj
          rw [← hj, ← lb_eq hjl]
          have h1 := hrow1.cell hjl
          rw [show (w.alloc (.cells (arr (List.replicate (s / 32 + n + 1) 0)) 56)).heap.size = w.heap.size + 1 by simp] at h1
          by_cases hj0 : j = 0
          · subst hj0; simpa [Addr.add] using h1
          · simpa [Addr.add, hj0] using h1
        · rw [List.getElem?_eq_none (by simp; omega)] at hj
          cases hj
      have Hcells := Lib.hid hcells
      clear HU hzl hvz hrow1 hrow0 hown hb2 hcells
      go_wp2_with (at_builtin; refine wpList_append_own _ rfl _ _ 23 rfl w.heap.size 56 i0 (.int .u32 0) 1 4 Try.underlying23 hi hz0 hz1 hz2 rfl (by decide) _ (s / 32) ((List.replicate (s / 32) (0 : Int)).map (Value.int .u32)) rfl Hown.out ⟨w.heap.size + 1, 0, none⟩ (n + 1) (n + 1) (zs.map (Value.int .u32)) rfl ?c1 ?c2 ?c3 ?c4 ?c5 ?c6 ?_)
      case c1 => simp [Hzl.out]
      case c2 => exact Hcells.out
      case c3 =>
        intro u hu
        simp at hu
        obtain ⟨a, _, rfl⟩ := hu
        rfl
      case c4 => unfold maxLen; omega
      case c5 => omega
      case c6 => exact Hb2.out.size
      intro v' w2 hown2 hgrow _
      have hzz : U32s (List.replicate (s / 32) 0 ++ zs) := U32s_append (U32s_replicate _) uz
      have hlz : (List.replicate (s / 32) 0 ++ zs).length = s / 32 + (n + 1) := by simp [Hzl.out]
      have hsl := own_sl (xs := List.replicate (s / 32) 0 ++ zs) (n := s / 32 + (n + 1)) (by simpa using hown2) hlz hzz (by omega)
      have hvv : val (List.replicate (s / 32) 0 ++ zs) = N * 2 ^ s := by
        rw [val_zeros, Hvz.out, Hvx.out, pw_pow, Int.mul_comm, Int.mul_assoc, ← Int.pow_add, show s % 32 + 32 * (s / 32) = s by omega]
      have hb3 : Below w.heap.size w w2 := Hb2.out.grown hgrow Hb2.out.size (by intro k hk; simp [Value.ownBlock] at hk; omega)
      obtain ⟨av, cv, rfl, hcv, rv, _, _, hav⟩ := hsl
      obtain ⟨b9, off9, rfl, _, _⟩ := rv.cells (by omega)
      have hT := trim_any _ cv _ w2 rv (by omega) hcv
      have hnum := trimmed_num rv hzz hcv ((tl_small hzz).2 (by rw [hvv]; exact Hsm.out))
      rw [hvv] at hnum
      rw [hlz] at hT hnum ⊢
      have HT := Lib.hid hT
      have Hnum := Lib.hid hnum
      have Hb3 := Lib.hid hb3
      clear hT hnum hb3 hvv hlz hown2 hgrow rv hav hcv
      go_wp2_with fail
      refine HT.out.mono ?_
      rintro e w3 ⟨rfl, rfl⟩
      go_wp2_with fail
      go_ret2
      exact ⟨.inl ⟨Hsm.out, _, rfl, Hnum.out⟩, Hb3.out⟩
end Go.Proofs.Ytlkadnaoacoicaa

namespace Go.Proofs.Ytlkadnaoacoicaa
open Go.RowKit NM

/-- The first k limbs are the same. -/
def SameTo (xs ys : List Int) (k : Nat) : Prop := ∀ j, j < k → lb xs j = lb ys j
theorem same_all {xs ys : List Int} (hl : xs.length = ys.length) (h : SameTo xs ys xs.length) : xs = ys := by
  apply List.ext_getElem hl
  intro i h1 h2
  have := h i h1
  rwa [lb_eq h1, lb_eq h2] at this

theorem Num.sl {w : World} {v : Value} {N : Int} (h : Num w v N) : ∃ xs, Sl w v xs := ⟨h.choose, h.choose_spec.1⟩
/-- A slice that came in, as the frame hands it over. -/
def IsRow (k : IntKind) (w : World) (a : Option Addr) (len cap : Nat) (zs : List Int) : Prop :=
  (a = none ∧ len = 0 ∧ cap = 0 ∧ zs = []) ∨
  ∃ x, a = some x ∧ len ≤ cap ∧ cap ≤ maxLen ∧ zs.length = cap ∧ (∀ i, i < zs.length → w.cell? (x.add i) = some (.int k (zs.getD i 0))) ∧ ∀ n ∈ zs, (Lit.int k n).wf = true

theorem u32_of_wf {n : Int} (h : (Lit.int .u32 n).wf = true) : 0 ≤ n ∧ n < 4294967296 := by
  simp [Lit.wf, IntKind.min, IntKind.max, IntKind.signed, IntKind.bits] at h
  omega

end Go.Proofs.Ytlkadnaoacoicaa

namespace Go.Proofs.Ytlkadnaoacoicaa
open Go.RowKit NM

/-- What a byte stands for; a great number, if it is no digit. -/
def dg (c : Int) : Int := if 48 ≤ c ∧ c ≤ 57 then c - 48 else if 97 ≤ c ∧ c ≤ 102 then c - 87 else if 65 ≤ c ∧ c ≤ 70 then c - 55 else 512

/-- The byte of a text at a place, as a number. -/
def byteAt (s : ByteArray) (k : Nat) : Int := ((s.data[k]?.getD 0).toNat : Int)
theorem byteAt_eq {s : ByteArray} {k : Nat} (h : k < s.size) : byteAt s k = (s[k].toNat : Int) := by
  unfold byteAt
  rw [Array.getElem?_eq_getElem (by simpa using h)]
  rfl
/-- The digit at a place of a text. -/
def dAt (s : ByteArray) (k : Nat) : Int := dg (byteAt s k)
/-- A text of a base: one digit or more. -/
def toldB (s : ByteArray) (b : Int) : Bool := decide (0 < s.size ∧ ∀ k, k < s.size → dAt s k < b)

theorem told_bad {s : ByteArray} {b : Int} (k : Nat) (hk : k < s.size) (h : b ≤ dAt s k) : toldB s b = false := by
  unfold toldB
  rw [decide_eq_false_iff_not]
  intro ⟨_, h2⟩
  have := h2 k hk
  omega
theorem list_ne {s : ByteArray} (h : 0 < s.size) : s.toList.isEmpty = false := by
  rw [ByteArray.toList_eq, List.isEmpty_eq_false_iff]
  intro e
  have : s.data.toList.length = 0 := by rw [e]; rfl
  have h2 : s.data.toList.length = s.size := by simp
  omega
theorem list_nil {s : ByteArray} (h : s.size = 0) : s.toList.isEmpty = true := by
  rw [ByteArray.toList_eq, List.isEmpty_iff]
  exact List.eq_nil_of_length_eq_zero (by simpa using h)

end Go.Proofs.Ytlkadnaoacoicaa

namespace Go.Proofs.Ytlkadnaoacoicaa
open Go.RowKit NM

theorem cell_lt {w : World} {b o : Nat} {v : Value} (h : w.cell? ⟨b, o, none⟩ = some v) : b < w.heap.size := by
  by_cases hb : b < w.heap.size
  · exact hb
  · rw [World.cell?, Array.getElem?_eq_none (show w.heap.size ≤ b by omega)] at h
    cases h
/-- A base that Parse reads. -/
def baseB (b : Int) : Bool := decide (b = 2 ∨ b = 8 ∨ b = 10 ∨ b = 16)

/-- Whether one of the first k bases is b. -/
def knB (b : Int) (k : Nat) : Bool := decide ((0 < k ∧ b = 2) ∨ (1 < k ∧ b = 8) ∨ (2 < k ∧ b = 10) ∨ (3 < k ∧ b = 16))
theorem knB_end (b : Int) : knB b 4 = baseB b := by
  unfold knB baseB
  rw [decide_eq_decide]
  omega
theorem knB_zero (b : Int) : knB b 0 = false := by
  unfold knB
  rw [decide_eq_false_iff_not]
  omega

/-- The number that the first k digits tell. -/
def pv (s : ByteArray) (b : Int) : Nat → Int
  | 0 => 0
  | k + 1 => pv s b k * b + dAt s k

theorem dg_nonneg (c : Int) : 0 ≤ dg c := by
  unfold dg
  (repeat' split) <;> omega
theorem pv_nonneg (s : ByteArray) {b : Int} (hb : 2 ≤ b) : ∀ k, 0 ≤ pv s b k
  | 0 => Int.le_refl _
  | k + 1 => by
    have h1 := pv_nonneg s hb k
    have h2 : 0 ≤ pv s b k * b := Int.mul_nonneg h1 (by omega)
    have h3 := dg_nonneg (byteAt s k)
    rw [pv, dAt]
    omega
theorem pv_mono (s : ByteArray) {b : Int} (hb : 2 ≤ b) (k : Nat) : ∀ j, pv s b k ≤ pv s b (k + j)
  | 0 => Int.le_refl _
  | j + 1 => by
    have h1 := pv_mono s hb k j
    have h0 := pv_nonneg s hb (k + j)
    have h2 : pv s b (k + j) * 1 ≤ pv s b (k + j) * b := Int.mul_le_mul_of_nonneg_left (by omega) h0
    have h3 := dg_nonneg (byteAt s (k + j))
    rw [← Nat.add_assoc, pv, dAt]
    omega

/-- What Parse answers. -/
def ParseOk (s : ByteArray) (b : Int) (e : Ending) (w' : World) : Prop :=
  (baseB b = false ∧ e = .returned (.tuple #[.slice none 0 0, .int .i64 1])) ∨
  (baseB b = true ∧ toldB s b = false ∧ e = .returned (.tuple #[.slice none 0 0, .int .i64 5])) ∨
  (baseB b = true ∧ toldB s b = true ∧ Told (pv s b s.size) e w')

theorem toldB_iff {s : ByteArray} {b : Int} : toldB s b = true ↔ 0 < s.size ∧ ∀ k, k < s.size → dAt s k < b := by
  unfold toldB
  rw [decide_eq_true_iff]
theorem baseB_iff {b : Int} : baseB b = true ↔ b = 2 ∨ b = 8 ∨ b = 10 ∨ b = 16 := by
  unfold baseB
  rw [decide_eq_true_iff]

end Go.Proofs.Ytlkadnaoacoicaa

namespace NM

/-- What digits are worth, the least first. -/
def dv : List Int → Int
  | [] => 0
  | d :: ds => d + 10 * dv ds
def Digs (ds : List Int) : Prop := ∀ d ∈ ds, 0 ≤ d ∧ d < 10
/-- The digits of a number, with no zero ahead. -/
def Dec (ds : List Int) (N : Int) : Prop := Digs ds ∧ dv ds = N ∧ ((N = 0 ∧ ds = [0]) ∨ (0 < ds.length ∧ 10 ^ (ds.length - 1) ≤ N))

theorem ten_pos (n : Nat) : (0 : Int) < 10 ^ n := Int.pow_pos (by omega)
theorem ten_succ (n : Nat) : (10 : Int) ^ (n + 1) = 10 ^ n * 10 := Int.pow_succ _ _
theorem dv_snoc (ds : List Int) (x : Int) : dv (ds ++ [x]) = dv ds + 10 ^ ds.length * x := by
  induction ds with
  | nil => simp [dv]
  | cons d ds ih =>
    rw [List.cons_append, dv, ih, dv, List.length_cons, ten_succ, Int.mul_add, Int.mul_comm (10 ^ ds.length) 10, Int.mul_assoc]
    omega
theorem Digs_snoc {ds : List Int} (h : Digs ds) {x : Int} (h0 : 0 ≤ x) (h1 : x < 10) : Digs (ds ++ [x]) := by
  intro d hd
  rcases List.mem_append.1 hd with hd | hd
  · exact h d hd
  · simp at hd; omega
theorem dv_range {ds : List Int} (h : Digs ds) : 0 ≤ dv ds ∧ dv ds < 10 ^ ds.length := by
  induction ds with
  | nil => simp [dv]
  | cons d ds ih =>
    have h1 := ih (fun x hx => h x (List.mem_cons_of_mem _ hx))
    have h2 := h d (List.mem_cons_self ..)
    rw [dv, List.length_cons, ten_succ]
    omega
/-- One digit more. -/
theorem dec_step {ds : List Int} {N R x R' : Int} (h : dv ds + 10 ^ ds.length * R = N) (hR : R = x + 10 * R') : dv (ds ++ [x]) + 10 ^ (ds ++ [x]).length * R' = N := by
  rw [dv_snoc, List.length_append, List.length_singleton, ten_succ, ← h, hR, Int.mul_add, Int.mul_assoc]
  omega
theorem ten_le {a b : Nat} (h : a ≤ b) : (10 : Int) ^ a ≤ 10 ^ b := by
  obtain ⟨k, rfl⟩ : ∃ k, b = a + k := ⟨b - a, by omega⟩
  rw [Int.pow_add]
  have h1 := ten_pos a
  have h2 := ten_pos k
  have h3 : (10 : Int) ^ a * 1 ≤ 10 ^ a * 10 ^ k := Int.mul_le_mul_of_nonneg_left (by omega) (by omega)
  omega
theorem ten_small {n : Nat} {N : Int} (h : 10 ^ n ≤ N) (hN : N < pw 16) : n ≤ 154 := by
  rcases Nat.lt_or_ge 154 n with hn | hn
  · exfalso
    have h1 := ten_le (show 155 ≤ n by omega)
    have h2 : (pw 16 : Int) ≤ 10 ^ 155 := by decide +kernel
    omega
  · exact hn
theorem rest_le {ds : List Int} {N R : Int} (hd : Digs ds) (h : dv ds + 10 ^ ds.length * R = N) (hR : 0 < R) : 10 ^ ds.length ≤ N := by
  have h1 := dv_range hd
  have h2 := ten_pos ds.length
  have h3 : (10 : Int) ^ ds.length * 1 ≤ 10 ^ ds.length * R := Int.mul_le_mul_of_nonneg_left (by omega) (by omega)
  omega
end NM

namespace Go.Proofs
open Go.Shelf
end Go.Proofs
namespace Go.Proofs.Ytlkadnaoacoicaa
open Go.RowKit Go.Lib Go.Sort

theorem onlyB_put (w : World) (n g : Nat) (d : Array Int) : OnlyB g w (putRow (Value.int .u8) (Sort.ahead w n) g 0 d) := by
  refine ⟨rfl, rfl, rfl, by simp, fun k hk hne => ?_⟩
  simp only [putRow, mapBlock, heap_ahead, Array.getElem?_modify, if_neg (Ne.symm hne)]

end Go.Proofs.Ytlkadnaoacoicaa

namespace Go.Proofs.Ytlkadnaoacoicaa
open Go.RowKit NM

/-- A text that tells a number, with no zero ahead. -/
def DecStr (s : ByteArray) (N : Int) : Prop := ∃ ds, Dec ds N ∧ s = strOfNums (ds.map fun d => 48 + d).reverse

theorem Num.grown {w w' : World} {v : Value} {N : Int} {row : Option Nat} (h : Num w v N) (hg : w.grownBy w' row) (hne : ∀ b, v.ownBlock = some b → row ≠ some b) : Num w' v N := by
  obtain ⟨xs, ⟨ao, cap, rfl, h2, h3, h4, h5⟩, hr, hv⟩ := h
  refine ⟨xs, ⟨ao, cap, rfl, h2, ?_, h4, h5⟩, hr, hv⟩
  rcases h3 with h | ⟨b, off, rfl, hb, hc⟩
  · exact .inl h
  · refine .inr ⟨b, off, rfl, Nat.lt_of_lt_of_le hb hg.size, fun i hi => ?_⟩
    exact hg.cell (a := ⟨b, off + i, none⟩) (hc i hi) (fun e => hne b rfl e.symm)

/-- The slice v is not where the row vd lies. -/
def Apart (w : World) (v vd : Value) : Prop := ∀ b, v.ownBlock = some b → b < w.heap.size ∧ vd.ownBlock ≠ some b

theorem info_u8 : (Try.prog.info? 5).map (fun i => (i.zero, i.size, i.bytes)) = some (some (.int .u8 0), 1, 1) := by kernel_rfl
def D8 (ds : List Int) : List Value := ds.map fun d => .int .u8 (48 + d)
theorem D8_snoc (ds : List Int) (x : Int) : D8 (ds ++ [x]) = D8 ds ++ [.int .u8 (48 + x)] := by simp [D8]

theorem own_below {w w' : World} {base : Nat} {e : TypeId} {size : Nat} {v : Value} {n : Nat} {xs : List Value} (h : w.ownsRow base e size v n xs) (hb : Below w.heap.size w w') : w'.ownsRow base e size v n xs :=
  h.kept (row := none) ⟨hb.os, hb.tape, hb.output, hb.size, fun k hk _ => hb.block k hk⟩ (by cases hv : v.ownBlock <;> simp)

/-- One byte more behind the row: what is kept. -/
theorem text_kept {w0 wr w2 : World} {v' u4 va : Value} {es : List Int} {t M1 : Int} (hown : wr.ownsRow w0.heap.size 5 1 u4 es.length (D8 es)) (hnum : Num wr va M1) (hap : Apart wr va u4) (hbl : Below w0.heap.size w0 wr)
    (h3 : w2.ownsRow w0.heap.size 5 1 v' (es.length + 1) (D8 es ++ [.int .u8 (48 + t)])) (hg : (wr.alloc (.cells #[.int .u8 (48 + t)] 5)).grownBy w2 u4.ownBlock)
    (hb : v'.ownBlock = u4.ownBlock ∨ v'.ownBlock = some (wr.heap.size + 1)) :
    w2.ownsRow w0.heap.size 5 1 v' (es ++ [t]).length (D8 (es ++ [t])) ∧ Num w2 va M1 ∧ Apart w2 va v' ∧ Below w0.heap.size w0 w2 := by
  have hs : (wr.alloc (.cells #[.int .u8 (48 + t)] 5)).heap.size = wr.heap.size + 1 := by simp
  have hba := (Below.refl wr.heap.size wr).alloc (Nat.le_refl _) (.cells #[.int .u8 (48 + t)] 5)
  refine ⟨by rw [D8_snoc]; simpa using h3, (hnum.below hba).grown hg (fun b h => (hap b h).2), fun b h => ?_, ?_⟩
  · have h1 := hap b h
    have h2 := hg.size
    refine ⟨by omega, ?_⟩
    rcases hb with hb | hb
    · rw [hb]; exact h1.2
    · rw [hb]; intro e; simp at e; omega
  · exact (hbl.alloc hbl.size _).grown hg (by have := hbl.size; omega) (fun k hk => (hown.lt k hk).1)

/-- What nine digits leave room for, behind k of them. -/
def tn (k : Nat) : Int := 10 ^ (9 - k)
theorem tn_pos (k : Nat) : 0 < tn k := ten_pos _
theorem tn_zero : tn 0 = 1000000000 := by decide +kernel
theorem tn_nine : tn 9 = 1 := by decide +kernel
theorem tn_succ {k : Nat} (h : k < 9) : tn k = 10 * tn (k + 1) := by
  unfold tn
  rw [show 9 - k = (9 - (k + 1)) + 1 by omega, ten_succ, Int.mul_comm]
theorem tn_le (k : Nat) : tn k ≤ 1000000000 := by
  rw [← tn_zero]
  exact ten_le (by omega)
/-- The state of the inner loop: k of nine digits are written; low and M1 are left. -/
structure InText (N M1 : Int) (k : Nat) (low : Int) (ds : List Int) : Prop where
  digs : Digs ds
  low0 : 0 ≤ low
  low1 : low < tn k
  all : dv ds + 10 ^ ds.length * (low + tn k * M1) = N
  lead : 0 < low + tn k * M1 ∨ (0 < ds.length ∧ 10 ^ (ds.length - 1) ≤ N)
theorem InText.rest {N M1 : Int} {k : Nat} {low : Int} {ds : List Int} (h : InText N M1 k low ds) (hM : 0 ≤ M1) (hr : 0 < low ∨ 0 < M1) : 0 < low + tn k * M1 := by
  have h1 := tn_pos k
  have h2 : 0 ≤ tn k * M1 := Int.mul_nonneg (by omega) hM
  have h3 := h.low0
  rcases hr with hr | hr
  · omega
  · have := Int.mul_pos h1 hr
    omega
theorem InText.step {N M1 : Int} {k : Nat} {low : Int} {ds : List Int} (h : InText N M1 k low ds) (hk : k < 9) (hM : 0 ≤ M1) (hr : 0 < low ∨ 0 < M1) : InText N M1 (k + 1) (low / 10) (ds ++ [low % 10]) := by
  have h0 := h.rest hM hr
  have h1 := tn_succ hk
  have h2 := h.low0
  have h3 := h.low1
  have e : low + tn k * M1 = low % 10 + 10 * (low / 10 + tn (k + 1) * M1) := by
    rw [h1, Int.mul_assoc]
    omega
  refine ⟨Digs_snoc h.digs (by omega) (by omega), by omega, by omega, dec_step h.all e, .inr ⟨by simp, ?_⟩⟩
  rw [List.length_append, List.length_singleton, Nat.add_sub_cancel]
  exact rest_le h.digs h.all h0
theorem InText.start {N M : Int} {ds : List Int} (hd : Digs ds) (h : dv ds + 10 ^ ds.length * M = N) (hM : 0 < M) : InText N (M / 1000000000) 0 (M % 1000000000) ds := by
  have e : M % 1000000000 + tn 0 * (M / 1000000000) = M := by rw [tn_zero]; omega
  exact ⟨hd, by omega, by rw [tn_zero]; omega, by rw [e]; exact h, .inl (by rw [e]; exact hM)⟩
theorem InText.small {N M1 : Int} {k : Nat} {low : Int} {ds : List Int} (h : InText N M1 k low ds) (hM : 0 ≤ M1) (hr : 0 < low ∨ 0 < M1) (hN : N < pw 16) : ds.length ≤ 154 :=
  ten_small (rest_le h.digs h.all (h.rest hM hr)) hN
/-- At the inner loop's end: nine digits, or nothing left. -/
theorem InText.done {N M1 : Int} {k : Nat} {low : Int} {ds : List Int} (h : InText N M1 k low ds) (hk : k ≤ 9) (hM : 0 ≤ M1) (he : k = 9 ∨ (low = 0 ∧ M1 = 0)) :
    dv ds + 10 ^ ds.length * M1 = N ∧ (0 < M1 ∨ (0 < ds.length ∧ 10 ^ (ds.length - 1) ≤ N)) := by
  have h1 := h.all
  have h2 := h.low0
  have h3 := h.low1
  have h4 := h.lead
  rcases he with rfl | ⟨rfl, rfl⟩
  · rw [tn_nine] at h1 h3 h4
    have hl : low = 0 := by omega
    subst hl
    simp only [Int.zero_add, Int.one_mul] at h1 h4
    exact ⟨h1, h4⟩
  · simp at h1 h4
    exact ⟨by simpa using h1, .inr h4⟩

theorem decStr_zero : DecStr ⟨#[48]⟩ 0 := ⟨[0], ⟨by intro d hd; simp at hd; omega, rfl, .inl ⟨rfl, rfl⟩⟩, rfl⟩

end Go.Proofs.Ytlkadnaoacoicaa

namespace Go.Proofs.Ytlkadnaoacoicaa
open Go.RowKit NM

theorem dv_same : ∀ {ds es : List Int}, Digs ds → Digs es → ds.length = es.length → dv ds = dv es → ds = es
  | [], [], _, _, _, _ => rfl
  | [], e :: es, _, _, h, _ => by simp at h
  | d :: ds, [], _, _, h, _ => by simp at h
  | d :: ds, e :: es, hd, he, hl, hv => by
    have h1 := hd d (List.mem_cons_self ..)
    have h2 := he e (List.mem_cons_self ..)
    rw [dv, dv] at hv
    have h3 : d = e := by omega
    have h4 := dv_same (fun x hx => hd x (List.mem_cons_of_mem _ hx)) (fun x hx => he x (List.mem_cons_of_mem _ hx)) (by simpa using hl) (show dv ds = dv es by omega)
    rw [h3, h4]
theorem ten_inv {a b : Nat} (h : (10 : Int) ^ a < 10 ^ b) : a < b := by
  rcases Nat.lt_or_ge a b with h1 | h1
  · exact h1
  · have := ten_le h1; omega
theorem dec_len {ds es : List Int} {N : Int} (h : Dec ds N) (k : Dec es N) : ds.length ≤ es.length := by
  obtain ⟨_, _, h3⟩ := h
  obtain ⟨k1, k2, k3⟩ := k
  have hr := dv_range k1
  rcases h3 with ⟨rfl, rfl⟩ | ⟨h0, h3⟩
  · rcases k3 with ⟨_, rfl⟩ | ⟨k0, _⟩
    · exact Nat.le_refl _
    · simp only [List.length_singleton]; omega
  · have := ten_inv (show (10 : Int) ^ (ds.length - 1) < 10 ^ es.length by omega)
    omega
/-- A number's digits are these and no others. -/
theorem dec_same {ds es : List Int} {N : Int} (h : Dec ds N) (k : Dec es N) : ds = es :=
  dv_same h.1 k.1 (Nat.le_antisymm (dec_len h k) (dec_len k h)) (h.2.1.trans k.2.1.symm)
theorem DecStr.same {s t : ByteArray} {N : Int} (h : DecStr s N) (k : DecStr t N) : s = t := by
  obtain ⟨ds, h1, rfl⟩ := h
  obtain ⟨es, h2, rfl⟩ := k
  rw [dec_same h1 h2]

def aliveText : ByteArray := ⟨#[49, 48, 48, 48, 48, 48, 48, 48, 48, 48, 48]⟩
theorem alive_dec : Dec [7, 7, 7, 2, 6, 1, 1, 5, 9, 9, 0, 1] 109951162777 := ⟨by unfold Digs; decide, by decide, .inr ⟨by decide, by decide⟩⟩
theorem alive_str : DecStr ⟨#[49, 48, 57, 57, 53, 49, 49, 54, 50, 55, 55, 55]⟩ 109951162777 := ⟨_, alive_dec, by decide +kernel⟩

end Go.Proofs.Ytlkadnaoacoicaa

