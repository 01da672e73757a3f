/- Shift: the walks. -/
import Derived.Test.YtondjnmpfpfpmaaDoorNatShift
namespace Go.Proofs.YtondjnmpfpfpmaaDoor
open Go.RowKit NM

theorem pow16 : pw 16 = 2 ^ 512 := by rw [pw_pow]
theorem Num.of_zero {w : World} {v : Value} (h : Num w v 0) : ∃ ao cap, v = .slice ao 0 cap := by
  obtain ⟨ao, n, cap, rfl, _, h0, _, _⟩ := h.len
  rw [h0.2 rfl]
  exact ⟨ao, cap, rfl⟩

/-- Shifted down: by limbs, then by bits. -/
theorem down_limbs {xs : List Int} {s : Nat} (ux : U32s xs) (hs : s / 32 ≤ xs.length) : val (xs.drop (s / 32)) / 2 ^ (s % 32) = val xs / 2 ^ s := by
  have h1 := val_split xs (s / 32) hs
  have t0 := val_nonneg (U32s_take ux (s / 32))
  have t1 := val_lt (U32s_take ux (s / 32))
  rw [List.length_take, Nat.min_eq_left hs] at t1
  have hp := pw_pos (s / 32)
  have h2 : val xs / pw (s / 32) = val (xs.drop (s / 32)) := by
    rw [h1, Int.add_mul_ediv_left _ _ (by omega), Int.ediv_eq_zero_of_lt t0 t1, Int.zero_add]
  rw [← h2, Int.ediv_ediv, if_neg (by omega), Int.sub_zero, pw_pow, ← Int.pow_add, show 32 * (s / 32) + s % 32 = s by omega]

set_option maxHeartbeats 1600000 in
set_option maxRecDepth 100000 in
theorem shift_down (v : Value) (N : Int) (t : Nat) (w : World) (h1 : Num w v N) (s0 : 0 < t) (s1 : t ≤ 9223372036854775808) :
    Calls Tryd.prog 23 #[v, .int .i64 (-(t : Int))] w fun e w' => (∃ r, e = .returned (.tuple #[r, .int .i64 0]) ∧ Num w' r (N / 2 ^ t)) ∧ Below w.heap.size w w' := by
  have R1 := Lib.hid (right_num h1)
  have hrg := h1.range
  by_cases hN : N = 0
  · subst hN
    obtain ⟨ao, cap, rfl⟩ := h1.of_zero
    have Hz := Lib.hid (show (0 : Int) / 2 ^ t = 0 by simp)
    clear h1 hrg
    go_enter Tryd.func23, Tryd.ntmps23
    go_wp2_with fail
    refine R1.out.mono ?_
    rintro e w' ⟨rfl, rfl⟩
    go_wp2_with fail
    go_ret2
    exact ⟨⟨_, rfl, by rw [Hz.out]; exact Num_nil _⟩, Below.refl _ _⟩
  · have W1 := Lib.hid (width_num v N w h1)
    have H1 := Lib.hid h1
    obtain ⟨ao, n, ca, rfl, hn16, hn0, -, -⟩ := h1.len
    have hnn : ((n : Int) == 0) = false := by
      rw [beq_eq_false_iff_ne]; intro h; exact hN (hn0.1 (by omega))
    have HN := Lib.hid hN
    clear h1 hn0 hN
    go_enter Tryd.func23, Tryd.ntmps23
    go_wp2_with fail
    refine R1.out.mono ?_
    rintro e w' ⟨rfl, rfl⟩
    go_wp2_with fail
    refine W1.out.mono ?_
    rintro e w' ⟨⟨k, rfl, hb, hk⟩, rfl⟩
    have hb' : 1 ≤ k ∧ 2 ^ (k - 1) ≤ N ∧ N < 2 ^ k := by
      rcases hb with ⟨h, _⟩ | ⟨_, h1, h3, h2⟩
      · exact absurd h HN.out
      · exact ⟨h1, h3, h2⟩
    obtain ⟨k1, hlow, hNk⟩ := hb'
    have Hlow := Lib.hid hlow
    clear hlow
    have HNk := Lib.hid hNk
    clear hb hNk
    by_cases hsk : k ≤ t
    · have hz : N / 2 ^ t = 0 := by
        refine Int.ediv_eq_zero_of_lt hrg.1 ?_
        have h1 := HNk.out
        have h2 := pow_le (show k ≤ t by omega)
        omega
      have Hz := Lib.hid hz
      clear hz
      go_wp2_with fail
      go_ret2
      exact ⟨⟨_, rfl, by rw [Hz.out]; exact Num_nil _⟩, Below.refl _ _⟩
    · obtain ⟨xs, ⟨ao', ca', e, hca, ra, ux, _⟩, rx, hvx⟩ := H1.out
      obtain ⟨rfl, rfl, rfl⟩ : ao = ao' ∧ n = xs.length ∧ ca = ca' := by simpa using e
      have hkl : t / 32 < xs.length := by
        have h2 := val_lt ux
        rw [hvx, pw_pow] at h2
        by_cases h : t / 32 < xs.length
        · exact h
        · exfalso
          have hb := Hlow.out
          have h3 := pow_le (show 32 * xs.length ≤ k - 1 by omega)
          omega
      obtain ⟨b, off, rfl, hbw, hc⟩ := ra.cells (by omega)
      have hrow : Row w (some ⟨b, off + t / 32, none⟩) (xs.drop (t / 32)) := by
        refine .inr ⟨b, off + t / 32, rfl, hbw, fun i hi => ?_⟩
        rw [List.length_drop] at hi
        rw [lb_drop, Nat.add_assoc]
        exact hc _ (by omega)
      have hdv := down_limbs (xs := xs) (s := t) ux (by omega)
      have hsm : val (xs.drop (t / 32)) / 2 ^ (t % 32) < pw 16 := by
        rw [hdv, hvx]
        have h1 : N / 2 ^ t ≤ N := Int.ediv_le_self _ hrg.1
        omega
      have hD := down_any _ (ca - t / 32) (xs.drop (t / 32)) (t % 32) w hrow (U32s_drop ux _) (by rw [List.length_drop]; omega) (by omega) hsm
      rw [hdv, hvx, List.length_drop, show ((t % 32 : Nat) : Int) = (t : Int) % 32 by omega] at hD
      have HD := Lib.hid hD
      obtain ⟨n, hn⟩ : ∃ n, n = xs.length := ⟨_, rfl⟩
      rw [← hn] at HD hca hkl hnn hn16 ⊢
      have Hn := Lib.hid hn
      have Hc := Lib.hid hc
      clear hD hsm hdv hrow hc hvx rx e hn
      have hts : ¬ (-(t : Int)) ≤ -(k : Int) := by omega
      go_wp2_with fail
      refine HD.out.mono ?_
      rintro e w1 ⟨⟨r, rfl, hr⟩, hb⟩
      have Hr := Lib.hid hr
      clear hr
      go_wp2_with fail
      go_ret2
      exact ⟨⟨r, rfl, Hr.out⟩, hb⟩

theorem make_cap (l c : Nat) (hl : l ≤ c) (hc : c ≤ 1000000) (w : World) :
    (Instr.makeSlice 23 (.int .i64 (l : Int)) (.int .i64 (c : Int))).run Tryd.prog w = .ok (.slice (some ⟨w.heap.size, 0, none⟩) l c) (w.alloc (.cells (arr (List.replicate c 0)) 59)) := by
  obtain ⟨i, hi, hz, hs, hb⟩ := info_parts info_u32
  have h := run_make (P := Tryd.prog) w 23 59 i (.int .u32 0) Tryd.underlying23 hi hz .i64 .i64 l c (by omega) (by omega) (by rw [hb]; omega) (by omega)
  rw [hs, Nat.mul_one, Int.toNat_natCast, Int.toNat_natCast, show (Value.int IntKind.u32 0).cells = #[.int .u32 0] from rfl, arr_made] at h
  exact h

theorem val_zeros (q : Nat) (zs : List Int) : val (List.replicate q 0 ++ zs) = pw q * val zs := by
  rw [val_append, val_replicate, List.length_replicate]
  omega

set_option maxHeartbeats 1600000 in
set_option maxRecDepth 100000 in
theorem shift_up (v : Value) (N : Int) (s : Nat) (w : World) (h1 : Num w v N) (s1 : s ≤ 9223372036854775807) :
    Calls Tryd.prog 23 #[v, .int .i64 (s : Int)] w fun e w' => Told (N * 2 ^ s) e w' ∧ Below w.heap.size w w' := by
  have R1 := Lib.hid (right_num h1)
  have hrg := h1.range
  have hp16 := pw_pos 16
  by_cases hN : N = 0
  · subst hN
    obtain ⟨ao, cap, rfl⟩ := h1.of_zero
    have Hz := Lib.hid (show (0 : Int) * 2 ^ s = 0 by simp)
    have Hp := Lib.hid hp16
    clear h1 hrg hp16
    go_enter Tryd.func23, Tryd.ntmps23
    go_wp2_with fail
    refine R1.out.mono ?_
    rintro e w' ⟨rfl, rfl⟩
    go_wp2_with fail
    go_ret2
    exact ⟨by rw [Hz.out]; exact .inl ⟨Hp.out, _, rfl, Num_nil _⟩, Below.refl _ _⟩
  · have W1 := Lib.hid (width_num v N w h1)
    have H1 := Lib.hid h1
    obtain ⟨ao, n, ca, rfl, hn16, hn0, -, -⟩ := h1.len
    have hnn : ((n : Int) == 0) = false := by
      rw [beq_eq_false_iff_ne]; intro h; exact hN (hn0.1 (by omega))
    have HN := Lib.hid hN
    clear h1 hn0 hN
    go_enter Tryd.func23, Tryd.ntmps23
    go_wp2_with fail
    refine R1.out.mono ?_
    rintro e w' ⟨rfl, rfl⟩
    go_wp2_with fail
    refine W1.out.mono ?_
    rintro e w' ⟨⟨k, rfl, hb, hk⟩, rfl⟩
    have hb' : 1 ≤ k ∧ 2 ^ (k - 1) ≤ N ∧ N < 2 ^ k := by
      rcases hb with ⟨h, _⟩ | ⟨_, h1, h3, h2⟩
      · exact absurd h HN.out
      · exact ⟨h1, h3, h2⟩
    obtain ⟨k1, hlow, hNk⟩ := hb'
    have Hlow := Lib.hid hlow
    have HNk := Lib.hid hNk
    clear hb hNk hlow
    by_cases hsk : 512 - (k : Int) < s
    · have hbig : pw 16 ≤ N * 2 ^ s := by
        rw [pow16]
        have h1 := Int.mul_le_mul_of_nonneg_right Hlow.out (show (0 : Int) ≤ 2 ^ s by have := pow_pos2 s; omega)
        rw [← Int.pow_add] at h1
        have h2 := pow_le (show 512 ≤ k - 1 + s by omega)
        omega
      have Hb := Lib.hid hbig
      clear hbig
      go_wp2_with fail
      go_ret2
      exact ⟨.inr ⟨Hb.out, rfl⟩, Below.refl _ _⟩
    · have hsmall : N * 2 ^ s < pw 16 := by
        rw [pow16]
        have h1 := Int.mul_lt_mul_of_pos_right HNk.out (pow_pos2 s)
        rw [← Int.pow_add] at h1
        have h2 := pow_le (show k + s ≤ 512 by omega)
        omega
      obtain ⟨xs, ⟨ao', ca', e, hca, ra, ux, _⟩, rx, hvx⟩ := H1.out
      obtain ⟨rfl, rfl, rfl⟩ : ao = ao' ∧ n = xs.length ∧ ca = ca' := by simpa using e
      have hmk : ∀ wx, (Instr.makeSlice 23 (.int .i64 ((s : Int) / 32)) (.int .i64 ((s : Int) / 32 + (xs.length : Int) + 1))).run Tryd.prog wx = .ok (.slice (some ⟨wx.heap.size, 0, none⟩) (s / 32) (s / 32 + xs.length + 1)) (wx.alloc (.cells (arr (List.replicate (s / 32 + xs.length + 1) 0)) 59)) := by
        have := make_cap (s / 32) (s / 32 + xs.length + 1) (by omega) (by omega)
        rw [show ((s / 32 : Nat) : Int) = (s : Int) / 32 by omega, show ((s / 32 + xs.length + 1 : Nat) : Int) = (s : Int) / 32 + (xs.length : Int) + 1 by omega] at this
        exact this
      have hbl : Below w.heap.size w (w.alloc (.cells (arr (List.replicate (s / 32 + xs.length + 1) 0)) 59)) := (Below.refl _ _).alloc (Nat.le_refl _) _
      have hU := up_any ao ca xs (s % 32) _ (ra.below hbl) ux (by omega) (by omega)
      rw [show ((s % 32 : Nat) : Int) = (s : Int) % 32 by omega] at hU
      have HU := Lib.hid hU
      have Hsm := Lib.hid hsmall
      have Hvx := Lib.hid hvx
      have s512 : s ≤ 512 := by omega
      clear hU hsmall hvx rx e ra
      obtain ⟨n, hn⟩ : ∃ n, n = xs.length := ⟨_, rfl⟩
      rw [← hn] at HU hmk hca hnn hn16 hbl ⊢
      have Hn := Lib.hid hn
      clear hn
      obtain ⟨i0, hi, hz0, hz1, hz2⟩ := info_parts info_u32
      go_wp2_with fail
      refine HU.out.mono ?_
      rintro e w1 ⟨zs, rfl, hzl, uz, hvz, rfl⟩
      have Hzl := Lib.hid hzl
      have Hvz := Lib.hid hvz
      have hrow1 := RowAt.new (w.alloc (.cells (arr (List.replicate (s / 32 + n + 1) 0)) 59)) zs
      have hrow0 := (RowAt.new w (List.replicate (s / 32 + n + 1) 0)).below ((Below.refl _ _).alloc (Nat.le_refl _) (.cells (arr zs) 59))
      have hown : ((w.alloc (.cells (arr (List.replicate (s / 32 + n + 1) 0)) 59)).alloc (.cells (arr zs) 59)).ownsRow w.heap.size 59 1 (.slice (some ⟨w.heap.size, 0, none⟩) (s / 32) (s / 32 + n + 1)) (s / 32) ((List.replicate (s / 32) (0 : Int)).map (Value.int .u32)) := by
        refine ⟨by simp, .inr ⟨w.heap.size, _, _, rfl, Nat.le_refl _, hrow0, by omega, by unfold maxLen; omega, by simp [arr], ?_⟩⟩
        simp [arr, List.take_replicate]
        congr 1
        omega
      have Hown := Lib.hid hown
      have hb2 : Below w.heap.size w ((w.alloc (.cells (arr (List.replicate (s / 32 + n + 1) 0)) 59)).alloc (.cells (arr zs) 59)) := hbl.alloc hbl.size _
      have Hb2 := Lib.hid hb2
      have hcells : ∀ j u, (zs.map (Value.int .u32))[j]? = some u → ((w.alloc (.cells (arr (List.replicate (s / 32 + n + 1) 0)) 59)).alloc (.cells (arr zs) 59)).cell? ((⟨w.heap.size + 1, 0, none⟩ : Addr).add j) = some u := by
        intro j u hj
        by_cases hjl : j < zs.length
        · rw [List.getElem?_map, List.getElem?_eq_getElem hjl] at hj
          simp at hj
          rw [← hj, ← lb_eq hjl]
          have h1 := hrow1.cell hjl
          rw [show (w.alloc (.cells (arr (List.replicate (s / 32 + n + 1) 0)) 59)).heap.size = w.heap.size + 1 by simp] at h1
          by_cases hj0 : j = 0
          · subst hj0; simpa [Addr.add] using h1
          · simpa [Addr.add, hj0] using h1
        · rw [List.getElem?_eq_none (by simp; omega)] at hj
          cases hj
      have Hcells := Lib.hid hcells
      clear HU hzl hvz hrow1 hrow0 hown hb2 hcells
      go_wp2_with (at_builtin; refine wpList_append_own _ rfl _ _ 23 rfl w.heap.size 59 i0 (.int .u32 0) 1 4 Tryd.underlying23 hi hz0 hz1 hz2 rfl (by decide) _ (s / 32) ((List.replicate (s / 32) (0 : Int)).map (Value.int .u32)) rfl Hown.out ⟨w.heap.size + 1, 0, none⟩ (n + 1) (n + 1) (zs.map (Value.int .u32)) rfl ?c1 ?c2 ?c3 ?c4 ?c5 ?c6 ?_)
      case c1 => simp [Hzl.out]
      case c2 => exact Hcells.out
      case c3 =>
        intro u hu
        simp at hu
        obtain ⟨a, _, rfl⟩ := hu
        rfl
      case c4 => unfold maxLen; omega
      case c5 => omega
      case c6 => exact Hb2.out.size
      intro v' w2 hown2 hgrow _
      have hzz : U32s (List.replicate (s / 32) 0 ++ zs) := U32s_append (U32s_replicate _) uz
      have hlz : (List.replicate (s / 32) 0 ++ zs).length = s / 32 + (n + 1) := by simp [Hzl.out]
      have hsl := own_sl (xs := List.replicate (s / 32) 0 ++ zs) (n := s / 32 + (n + 1)) (by simpa using hown2) hlz hzz (by omega)
      have hvv : val (List.replicate (s / 32) 0 ++ zs) = N * 2 ^ s := by
        rw [val_zeros, Hvz.out, Hvx.out, pw_pow, Int.mul_comm, Int.mul_assoc, ← Int.pow_add, show s % 32 + 32 * (s / 32) = s by omega]
      have hb3 : Below w.heap.size w w2 := Hb2.out.grown hgrow Hb2.out.size (by intro k hk; simp [Value.ownBlock] at hk; omega)
      obtain ⟨av, cv, rfl, hcv, rv, _, _, hav⟩ := hsl
      obtain ⟨b9, off9, rfl, _, _⟩ := rv.cells (by omega)
      have hT := trim_any _ cv _ w2 rv (by omega) hcv
      have hnum := trimmed_num rv hzz hcv ((tl_small hzz).2 (by rw [hvv]; exact Hsm.out))
      rw [hvv] at hnum
      rw [hlz] at hT hnum ⊢
      have HT := Lib.hid hT
      have Hnum := Lib.hid hnum
      have Hb3 := Lib.hid hb3
      clear hT hnum hb3 hvv hlz hown2 hgrow rv hav hcv
      go_wp2_with fail
      refine HT.out.mono ?_
      rintro e w3 ⟨rfl, rfl⟩
      go_wp2_with fail
      go_ret2
      exact ⟨.inl ⟨Hsm.out, _, rfl, Hnum.out⟩, Hb3.out⟩
end Go.Proofs.YtondjnmpfpfpmaaDoor
