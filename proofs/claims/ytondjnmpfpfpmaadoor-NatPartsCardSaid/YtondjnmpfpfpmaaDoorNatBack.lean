/- The law NatBack. -/
import Derived.Test.YtondjnmpfpfpmaaDoorNatShifts
namespace Go.Proofs.YtondjnmpfpfpmaaDoor
open Go.RowKit NM

theorem Bad1.below {w w' : World} {v : Value} (h : Bad1 w v) (hb : Below w.heap.size w w') : Bad1 w' v := h.imp fun _ h => ⟨h.1.below hb, h.2⟩
theorem Bad2.below {w w' : World} {v u : Value} (h : Bad2 w v u) (hb : Below w.heap.size w w') : Bad2 w' v u := by
  obtain ⟨xs, ys, h1, h2, h3⟩ := h
  exact ⟨xs, ys, h1.below hb, h2.below hb, h3⟩

theorem dg_digit {d : Int} (h0 : 0 ≤ d) (h1 : d < 10) : dg (48 + d) = d := by
  unfold dg
  rw [if_pos (by omega)]
  omega
theorem byteAt_nums {es : List Int} {k : Nat} (hk : k < es.length) (h0 : 0 ≤ es[k]) (h1 : es[k] < 256) : byteAt (strOfNums es) k = es[k] := by
  unfold byteAt strOfNums
  simp only [List.getElem?_toArray, List.getElem?_map, List.getElem?_eq_getElem hk, Option.map_some, Option.getD_some]
  rw [UInt8.toNat_ofNat']
  omega
theorem dAt_dec {ds : List Int} (hd : Digs ds) {k : Nat} (hk : k < ds.length) : dAt (strOfNums (ds.map fun d => 48 + d).reverse) k = ds[ds.length - 1 - k] := by
  have hm := hd _ (List.getElem_mem (show ds.length - 1 - k < ds.length by omega))
  have he : (ds.map fun d => 48 + d).reverse[k]'(by simpa using hk) = 48 + ds[ds.length - 1 - k] := by
    rw [List.getElem_reverse]
    simp
  unfold dAt
  rw [byteAt_nums (by simpa using hk) (by rw [he]; omega) (by rw [he]; omega), he, dg_digit hm.1 hm.2]
theorem pv_dec {ds : List Int} (hd : Digs ds) : ∀ k, k ≤ ds.length → pv (strOfNums (ds.map fun d => 48 + d).reverse) 10 k = dv (ds.drop (ds.length - k))
  | 0, _ => by simp [pv, dv]
  | k + 1, hk => by
    rw [pv, pv_dec hd k (by omega), dAt_dec hd (by omega), show ds.length - k = (ds.length - (k + 1)) + 1 by omega,
      List.drop_eq_getElem_cons (show ds.length - (k + 1) < ds.length by omega), dv]
    have e : ds.length - 1 - k = ds.length - (k + 1) := by omega
    simp only [e]
    omega
theorem parse_dec (s : ByteArray) (N : Int) (w : World) (h : DecStr s N) (hN : N < pw 16) (hB : Bases w) :
    Calls Tryd.prog 28 #[.string s, .int .i64 10] w fun e w' => (∃ v, e = .returned (.tuple #[v, .int .i64 0]) ∧ Num w' v N) ∧ Below w.heap.size w w' := by
  obtain ⟨ds, ⟨hd, hv, hl⟩, rfl⟩ := h
  have hs : (strOfNums (ds.map fun d => 48 + d).reverse).size = ds.length := by rw [strOfNums_size]; simp
  have hlen : 0 < ds.length ∧ ds.length ≤ 155 := by
    rcases hl with ⟨_, rfl⟩ | ⟨h1, h2⟩
    · simp
    · have := ten_small h2 hN; omega
  have h1 : baseB 10 = true := by decide
  have h2 : toldB (strOfNums (ds.map fun d => 48 + d).reverse) 10 = true := by
    rw [toldB_iff, hs]
    refine ⟨hlen.1, fun k hk => ?_⟩
    rw [dAt_dec hd hk]
    exact (hd _ (List.getElem_mem _)).2
  have h3 : pv (strOfNums (ds.map fun d => 48 + d).reverse) 10 (strOfNums (ds.map fun d => 48 + d).reverse).size = N := by
    rw [hs, pv_dec hd _ (Nat.le_refl _), Nat.sub_self, List.drop_zero]
    exact hv
  refine (parse_any _ 10 w hB (by rw [hs]; omega)).mono ?_
  rintro e w' ⟨h, hb⟩
  refine ⟨?_, hb⟩
  rcases h with ⟨h, _⟩ | ⟨_, h, _⟩ | ⟨_, _, h⟩
  · rw [h1] at h; cases h
  · rw [h2] at h; cases h
  · rw [h3] at h
    exact h.ok hN

set_option maxHeartbeats 16000000 in
set_option maxRecDepth 100000 in
theorem back_walk (a0 : Option Addr) (len0 cap0 : Nat) (z0 : List Int) (a1 : Option Addr) (len1 cap1 : Nat) (z1 : List Int) (w : World) (w0 : IsRow .u32 w a0 len0 cap0 z0) (w1 : IsRow .u32 w a1 len1 cap1 z1) (hB : Bases w) :
    Calls Tryd.prog 6 #[.slice a0 len0 cap0, .slice a1 len1 cap1] w fun e w' => e = .returned (.bool true) ∧ Below w.heap.size w w' := by
  have F := Lib.hid (few_row a0 len0 cap0 z0 w w0)
  have G := Lib.hid (few_row a1 len1 cap1 z1 w w1)
  clear w0 w1
  go_enter Tryd.func6, Tryd.ntmps6
  go_wp2_with fail
  refine F.out.mono ?_
  rintro e w' ⟨⟨v, xs, rfl, hsl, hl18⟩, rfl⟩
  go_wp2_with fail
  refine G.out.mono ?_
  rintro e w' ⟨⟨u, ys, rfl, htl, hl19⟩, rfl⟩
  clear F G
  have B := Below.refl w.heap.size w
  cases hrx : rightB xs
  ·
    have hb2 : Bad2 w v u := ⟨xs, ys, hsl, htl, by rw [hrx]; rfl⟩
    have hb3 : Bad2 w u v := ⟨ys, xs, htl, hsl, by rw [hrx, Bool.and_false]⟩
    have hbb : Bad1 w v := ⟨xs, hsl, hrx⟩
    clear hsl htl hrx hl18 hl19
    go_wp2_with fail
    refine (add_bad v u w hb2).mono ?_
    rintro e w' ⟨rfl, rfl⟩
    go_wp2_with fail
    refine (add_bad u v w hb3).mono ?_
    rintro e w' ⟨rfl, rfl⟩
    go_wp2_with fail
    refine (mul_bad v u w hb2).mono ?_
    rintro e w' ⟨rfl, rfl⟩
    go_wp2_with fail
    refine (mul_bad u v w hb3).mono ?_
    rintro e w' ⟨rfl, rfl⟩
    clear hb2 hb3
    go_wp2_with fail
    refine (same_nil w).mono ?_
    rintro e w1 ⟨rfl, b1⟩
    have hbb := hbb.below b1
    have hB := hB.below b1
    have B := B.trans (b1.mono B.size)
    clear b1
    go_wp2_with fail
    refine (same_nil w1).mono ?_
    rintro e w2 ⟨rfl, b2⟩
    have hbb := hbb.below b2
    have hB := hB.below b2
    have B := B.trans (b2.mono B.size)
    clear b2
    go_wp2_with fail
    refine (alive_any w2 hB).mono ?_
    rintro e w3 ⟨rfl, b3⟩
    have hbb := hbb.below b3
    have hB := hB.below b3
    have B := B.trans (b3.mono B.size)
    clear b3
    go_wp2_with fail
    refine (text_bad v w3 hbb).mono ?_
    rintro e w' ⟨rfl, rfl⟩
    go_wp2_with fail
    refine (right_bad hbb).mono ?_
    rintro e w' ⟨rfl, rfl⟩
    go_wp2_with fail
    go_ret
    exact ⟨rfl, B⟩
  · cases hry : rightB ys
    ·
      have hb2 : Bad2 w v u := ⟨xs, ys, hsl, htl, by rw [hrx, hry]; rfl⟩
      have hb3 : Bad2 w u v := ⟨ys, xs, htl, hsl, by rw [hry, hrx]; rfl⟩
      have ha : Num w v (val xs) := ⟨xs, hsl, hrx, rfl⟩
      obtain ⟨N, hN⟩ : ∃ N, val xs = N := ⟨_, rfl⟩
      rw [hN] at ha
      have hbb : Bad1 w u := ⟨ys, htl, hry⟩
      have HN16 := Lib.hid ha.range.2
      clear hsl htl hrx hry hN hl18 hl19
      go_wp2_with fail
      refine (add_bad v u w hb2).mono ?_
      rintro e w' ⟨rfl, rfl⟩
      go_wp2_with fail
      refine (add_bad u v w hb3).mono ?_
      rintro e w' ⟨rfl, rfl⟩
      go_wp2_with fail
      refine (mul_bad v u w hb2).mono ?_
      rintro e w' ⟨rfl, rfl⟩
      go_wp2_with fail
      refine (mul_bad u v w hb3).mono ?_
      rintro e w' ⟨rfl, rfl⟩
      clear hb3
      go_wp2_with fail
      refine (same_nil w).mono ?_
      rintro e w1 ⟨rfl, b1⟩
      have hbb := hbb.below b1
      have ha := ha.below b1
      have hb2 := hb2.below b1
      have hB := hB.below b1
      have B := B.trans (b1.mono B.size)
      clear b1
      go_wp2_with fail
      refine (same_nil w1).mono ?_
      rintro e w2 ⟨rfl, b2⟩
      have hbb := hbb.below b2
      have ha := ha.below b2
      have hb2 := hb2.below b2
      have hB := hB.below b2
      have B := B.trans (b2.mono B.size)
      clear b2
      go_wp2_with fail
      refine (alive_any w2 hB).mono ?_
      rintro e w3 ⟨rfl, b3⟩
      have hbb := hbb.below b3
      have ha := ha.below b3
      have hb2 := hb2.below b3
      have hB := hB.below b3
      have B := B.trans (b3.mono B.size)
      clear b3
      go_wp2_with fail
      refine (text_num v N w3 ha).mono ?_
      rintro e w4 ⟨⟨x, rfl, hx⟩, b4⟩
      have hbb := hbb.below b4
      have ha := ha.below b4
      have hb2 := hb2.below b4
      have hB := hB.below b4
      have B := B.trans (b4.mono B.size)
      clear b4
      go_wp2_with fail
      refine (parse_dec x N w4 hx HN16.out hB).mono ?_
      rintro e w5 ⟨⟨y, rfl, hy⟩, b5⟩
      have hbb := hbb.below b5
      have ha := ha.below b5
      have hb2 := hb2.below b5
      have hB := hB.below b5
      have B := B.trans (b5.mono B.size)
      clear b5
      clear hx
      go_wp2_with fail
      refine (same_num y v N N w5 hy ha).mono ?_
      rintro e w6 ⟨rfl, b6⟩
      rw [show decide (N = N) = true by simp]
      clear hy
      have hbb := hbb.below b6
      have ha := ha.below b6
      have hb2 := hb2.below b6
      have hB := hB.below b6
      have B := B.trans (b6.mono B.size)
      clear b6
      go_wp2_with fail
      refine (div_bad v u w6 hb2).mono ?_
      rintro e w' ⟨rfl, rfl⟩
      have HR := Lib.hid (right_bad hbb)
      obtain ⟨ys, ⟨bo, bc, rfl, _⟩, _⟩ := hbb
      obtain ⟨m, hm⟩ : ∃ m, ys.length = m := ⟨_, rfl⟩
      rw [hm] at HR ⊢
      clear hm hb2
      by_cases hm0 : m = 0
      · subst hm0
        go_wp2_with fail
        go_ret
        exact ⟨rfl, B⟩
      · have hmm : 0 < m := by omega
        go_wp2_with fail
        refine HR.out.mono ?_
        rintro e w' ⟨rfl, rfl⟩
        go_wp2_with fail
        go_ret
        exact ⟨rfl, B⟩
    · obtain ⟨N, hN⟩ : ∃ N, val xs = N := ⟨_, rfl⟩
      obtain ⟨M, hM⟩ : ∃ M, val ys = M := ⟨_, rfl⟩
      have ha : Num w v N := ⟨xs, hsl, hrx, hN⟩
      have hb : Num w u M := ⟨ys, htl, hry, hM⟩
      clear hsl htl hrx hry hN hM hl18 hl19
      have hrg := ha.range
      have hrm := hb.range
      have HN16 := Lib.hid hrg.2
      have HS1 := Lib.hid (show decide (N + M = M + N) = true by rw [decide_eq_true_iff, Int.add_comm])
      have HS2 := Lib.hid (show decide (N * M = M * N) = true by rw [decide_eq_true_iff, Int.mul_comm])
      by_cases hA : N + M < pw 16
      · have HA1 := Lib.hid hA
        have HA2 := Lib.hid (show M + N < pw 16 by omega)
        by_cases hM : N * M < pw 16
        · have HM1 := Lib.hid hM
          have HM2 := Lib.hid (show M * N < pw 16 by rw [Int.mul_comm]; exact hM)
          by_cases hpos : 0 < M
          · have hdm := Int.mul_ediv_add_emod N M
            have hmm := Int.emod_nonneg N (show M ≠ 0 by omega)
            have hml := Int.emod_lt_of_pos N hpos
            have hdn : N / M * M + N % M = N := by rw [Int.mul_comm]; exact hdm
            have HMp := Lib.hid hpos
            have HQ := Lib.hid (show N / M * M < pw 16 by omega)
            have HR := Lib.hid (show N / M * M + N % M < pw 16 by rw [hdn]; exact hrg.2)
            have HC := Lib.hid (show sgn (N % M) M = -1 by rw [sgn, if_pos hml])
            have HS3 := Lib.hid (show decide (N / M * M + N % M = N) = true by rw [decide_eq_true_iff]; exact hdn)
            clear hdm hmm hml hdn hpos hA hM hrg hrm
            go_wp2_with fail
            refine (add_num v u N M w ha hb).mono ?_
            rintro e w1 ⟨hto, b1⟩
            obtain ⟨s, rfl, hs⟩ := hto.ok HA1.out
            have ha := ha.below b1
            have hb := hb.below b1
            have hB := hB.below b1
            have B := B.trans (b1.mono B.size)
            clear b1
            go_wp2_with fail
            refine (add_num u v M N w1 hb ha).mono ?_
            rintro e w2 ⟨hto, b2⟩
            obtain ⟨t, rfl, ht⟩ := hto.ok HA2.out
            have ha := ha.below b2
            have hb := hb.below b2
            have hs := hs.below b2
            have hB := hB.below b2
            have B := B.trans (b2.mono B.size)
            clear b2
            go_wp2_with fail
            refine (mul_num v u N M w2 ha hb).mono ?_
            rintro e w3 ⟨hto, b3⟩
            obtain ⟨p, rfl, hp⟩ := hto.ok HM1.out
            have ha := ha.below b3
            have hb := hb.below b3
            have hs := hs.below b3
            have ht := ht.below b3
            have hB := hB.below b3
            have B := B.trans (b3.mono B.size)
            clear b3
            go_wp2_with fail
            refine (mul_num u v M N w3 hb ha).mono ?_
            rintro e w4 ⟨hto, b4⟩
            obtain ⟨q, rfl, hq⟩ := hto.ok HM2.out
            have ha := ha.below b4
            have hb := hb.below b4
            have hs := hs.below b4
            have ht := ht.below b4
            have hp := hp.below b4
            have hB := hB.below b4
            have B := B.trans (b4.mono B.size)
            clear b4
            go_wp2_with fail
            refine (same_num s t _ _ w4 hs ht).mono ?_
            rintro e w5 ⟨rfl, b5⟩
            rw [HS1.out]
            clear hs
            clear ht
            have ha := ha.below b5
            have hb := hb.below b5
            have hp := hp.below b5
            have hq := hq.below b5
            have hB := hB.below b5
            have B := B.trans (b5.mono B.size)
            clear b5
            go_wp2_with fail
            refine (same_num p q _ _ w5 hp hq).mono ?_
            rintro e w6 ⟨rfl, b6⟩
            rw [HS2.out]
            clear hp
            clear hq
            have ha := ha.below b6
            have hb := hb.below b6
            have hB := hB.below b6
            have B := B.trans (b6.mono B.size)
            clear b6
            go_wp2_with fail
            refine (alive_any w6 hB).mono ?_
            rintro e w7 ⟨rfl, b7⟩
            have ha := ha.below b7
            have hb := hb.below b7
            have hB := hB.below b7
            have B := B.trans (b7.mono B.size)
            clear b7
            go_wp2_with fail
            refine (text_num v N w7 ha).mono ?_
            rintro e w8 ⟨⟨x, rfl, hx⟩, b8⟩
            have ha := ha.below b8
            have hb := hb.below b8
            have hB := hB.below b8
            have B := B.trans (b8.mono B.size)
            clear b8
            go_wp2_with fail
            refine (parse_dec x N w8 hx HN16.out hB).mono ?_
            rintro e w9 ⟨⟨y, rfl, hy⟩, b9⟩
            have ha := ha.below b9
            have hb := hb.below b9
            have hB := hB.below b9
            have B := B.trans (b9.mono B.size)
            clear b9
            clear hx
            go_wp2_with fail
            refine (same_num y v N N w9 hy ha).mono ?_
            rintro e w10 ⟨rfl, b10⟩
            rw [show decide (N = N) = true by simp]
            clear hy
            have ha := ha.below b10
            have hb := hb.below b10
            have hB := hB.below b10
            have B := B.trans (b10.mono B.size)
            clear b10
            go_wp2_with fail
            refine (div_num v u N M w10 ha hb HMp.out).mono ?_
            rintro e w11 ⟨⟨d, r, rfl, hd, hr⟩, b11⟩
            have ha := ha.below b11
            have hb := hb.below b11
            have hB := hB.below b11
            have B := B.trans (b11.mono B.size)
            clear b11
            go_wp2_with fail
            refine (mul_num d u _ M w11 hd hb).mono ?_
            rintro e w12 ⟨hto, b12⟩
            obtain ⟨m, rfl, hm⟩ := hto.ok HQ.out
            clear hd
            have ha := ha.below b12
            have hb := hb.below b12
            have hr := hr.below b12
            have hB := hB.below b12
            have B := B.trans (b12.mono B.size)
            clear b12
            go_wp2_with fail
            refine (add_num m r _ _ w12 hm hr).mono ?_
            rintro e w13 ⟨hto, b13⟩
            obtain ⟨n, rfl, hn⟩ := hto.ok HR.out
            clear hm
            have ha := ha.below b13
            have hb := hb.below b13
            have hr := hr.below b13
            have hB := hB.below b13
            have B := B.trans (b13.mono B.size)
            clear b13
            have hC := cmp_num hr hb
            rw [HC.out] at hC
            have HCC := Lib.hid hC
            clear hC
            go_wp2_with fail
            refine (HCC.out).mono ?_
            rintro e w14 ⟨rfl, b14⟩
            clear hr
            clear hb
            have ha := ha.below b14
            have hn := hn.below b14
            have hB := hB.below b14
            have B := B.trans (b14.mono B.size)
            clear b14
            clear HCC
            go_wp2_with fail
            refine (same_num n v _ N w14 hn ha).mono ?_
            rintro e w15 ⟨rfl, b15⟩
            rw [HS3.out]
            clear hn
            have ha := ha.below b15
            have hB := hB.below b15
            have B := B.trans (b15.mono B.size)
            clear b15
            go_wp2_with fail
            go_ret
            exact ⟨rfl, B⟩
          · have HM0 := Lib.hid (show M = 0 by omega)
            clear hpos hA hM hrg hrm
            go_wp2_with fail
            refine (add_num v u N M w ha hb).mono ?_
            rintro e w1 ⟨hto, b1⟩
            obtain ⟨s, rfl, hs⟩ := hto.ok HA1.out
            have ha := ha.below b1
            have hb := hb.below b1
            have hB := hB.below b1
            have B := B.trans (b1.mono B.size)
            clear b1
            go_wp2_with fail
            refine (add_num u v M N w1 hb ha).mono ?_
            rintro e w2 ⟨hto, b2⟩
            obtain ⟨t, rfl, ht⟩ := hto.ok HA2.out
            have ha := ha.below b2
            have hb := hb.below b2
            have hs := hs.below b2
            have hB := hB.below b2
            have B := B.trans (b2.mono B.size)
            clear b2
            go_wp2_with fail
            refine (mul_num v u N M w2 ha hb).mono ?_
            rintro e w3 ⟨hto, b3⟩
            obtain ⟨p, rfl, hp⟩ := hto.ok HM1.out
            have ha := ha.below b3
            have hb := hb.below b3
            have hs := hs.below b3
            have ht := ht.below b3
            have hB := hB.below b3
            have B := B.trans (b3.mono B.size)
            clear b3
            go_wp2_with fail
            refine (mul_num u v M N w3 hb ha).mono ?_
            rintro e w4 ⟨hto, b4⟩
            obtain ⟨q, rfl, hq⟩ := hto.ok HM2.out
            have ha := ha.below b4
            have hb := hb.below b4
            have hs := hs.below b4
            have ht := ht.below b4
            have hp := hp.below b4
            have hB := hB.below b4
            have B := B.trans (b4.mono B.size)
            clear b4
            go_wp2_with fail
            refine (same_num s t _ _ w4 hs ht).mono ?_
            rintro e w5 ⟨rfl, b5⟩
            rw [HS1.out]
            clear hs
            clear ht
            have ha := ha.below b5
            have hb := hb.below b5
            have hp := hp.below b5
            have hq := hq.below b5
            have hB := hB.below b5
            have B := B.trans (b5.mono B.size)
            clear b5
            go_wp2_with fail
            refine (same_num p q _ _ w5 hp hq).mono ?_
            rintro e w6 ⟨rfl, b6⟩
            rw [HS2.out]
            clear hp
            clear hq
            have ha := ha.below b6
            have hb := hb.below b6
            have hB := hB.below b6
            have B := B.trans (b6.mono B.size)
            clear b6
            go_wp2_with fail
            refine (alive_any w6 hB).mono ?_
            rintro e w7 ⟨rfl, b7⟩
            have ha := ha.below b7
            have hb := hb.below b7
            have hB := hB.below b7
            have B := B.trans (b7.mono B.size)
            clear b7
            go_wp2_with fail
            refine (text_num v N w7 ha).mono ?_
            rintro e w8 ⟨⟨x, rfl, hx⟩, b8⟩
            have ha := ha.below b8
            have hb := hb.below b8
            have hB := hB.below b8
            have B := B.trans (b8.mono B.size)
            clear b8
            go_wp2_with fail
            refine (parse_dec x N w8 hx HN16.out hB).mono ?_
            rintro e w9 ⟨⟨y, rfl, hy⟩, b9⟩
            have ha := ha.below b9
            have hb := hb.below b9
            have hB := hB.below b9
            have B := B.trans (b9.mono B.size)
            clear b9
            clear hx
            go_wp2_with fail
            refine (same_num y v N N w9 hy ha).mono ?_
            rintro e w10 ⟨rfl, b10⟩
            rw [show decide (N = N) = true by simp]
            clear hy
            have ha := ha.below b10
            have hb := hb.below b10
            have hB := hB.below b10
            have B := B.trans (b10.mono B.size)
            clear b10
            have hb0 := hb
            rw [HM0.out] at hb0
            obtain ⟨bo, bc, rfl⟩ := hb0.of_zero
            go_wp2_with fail
            refine (div_zero v _ N w10 ha hb0).mono ?_
            rintro e w11 ⟨rfl, b11⟩
            have ha := ha.below b11
            have hb := hb.below b11
            have hB := hB.below b11
            have B := B.trans (b11.mono B.size)
            clear b11
            go_wp2_with fail
            go_ret
            exact ⟨rfl, B⟩
        · have HM1 := Lib.hid (Int.not_lt.1 hM)
          have HM2 := Lib.hid (show pw 16 ≤ M * N by rw [Int.mul_comm]; exact Int.not_lt.1 hM)
          by_cases hpos : 0 < M
          · have hdm := Int.mul_ediv_add_emod N M
            have hmm := Int.emod_nonneg N (show M ≠ 0 by omega)
            have hml := Int.emod_lt_of_pos N hpos
            have hdn : N / M * M + N % M = N := by rw [Int.mul_comm]; exact hdm
            have HMp := Lib.hid hpos
            have HQ := Lib.hid (show N / M * M < pw 16 by omega)
            have HR := Lib.hid (show N / M * M + N % M < pw 16 by rw [hdn]; exact hrg.2)
            have HC := Lib.hid (show sgn (N % M) M = -1 by rw [sgn, if_pos hml])
            have HS3 := Lib.hid (show decide (N / M * M + N % M = N) = true by rw [decide_eq_true_iff]; exact hdn)
            clear hdm hmm hml hdn hpos hA hM hrg hrm
            go_wp2_with fail
            refine (add_num v u N M w ha hb).mono ?_
            rintro e w1 ⟨hto, b1⟩
            obtain ⟨s, rfl, hs⟩ := hto.ok HA1.out
            have ha := ha.below b1
            have hb := hb.below b1
            have hB := hB.below b1
            have B := B.trans (b1.mono B.size)
            clear b1
            go_wp2_with fail
            refine (add_num u v M N w1 hb ha).mono ?_
            rintro e w2 ⟨hto, b2⟩
            obtain ⟨t, rfl, ht⟩ := hto.ok HA2.out
            have ha := ha.below b2
            have hb := hb.below b2
            have hs := hs.below b2
            have hB := hB.below b2
            have B := B.trans (b2.mono B.size)
            clear b2
            go_wp2_with fail
            refine (mul_num v u N M w2 ha hb).mono ?_
            rintro e w3 ⟨hto, b3⟩
            obtain rfl := hto.over HM1.out
            have ha := ha.below b3
            have hb := hb.below b3
            have hs := hs.below b3
            have ht := ht.below b3
            have hB := hB.below b3
            have B := B.trans (b3.mono B.size)
            clear b3
            go_wp2_with fail
            refine (mul_num u v M N w3 hb ha).mono ?_
            rintro e w4 ⟨hto, b4⟩
            obtain rfl := hto.over HM2.out
            have ha := ha.below b4
            have hb := hb.below b4
            have hs := hs.below b4
            have ht := ht.below b4
            have hB := hB.below b4
            have B := B.trans (b4.mono B.size)
            clear b4
            go_wp2_with fail
            refine (same_num s t _ _ w4 hs ht).mono ?_
            rintro e w5 ⟨rfl, b5⟩
            rw [HS1.out]
            clear hs
            clear ht
            have ha := ha.below b5
            have hb := hb.below b5
            have hB := hB.below b5
            have B := B.trans (b5.mono B.size)
            clear b5
            go_wp2_with fail
            refine (same_nil w5).mono ?_
            rintro e w6 ⟨rfl, b6⟩
            have ha := ha.below b6
            have hb := hb.below b6
            have hB := hB.below b6
            have B := B.trans (b6.mono B.size)
            clear b6
            go_wp2_with fail
            refine (alive_any w6 hB).mono ?_
            rintro e w7 ⟨rfl, b7⟩
            have ha := ha.below b7
            have hb := hb.below b7
            have hB := hB.below b7
            have B := B.trans (b7.mono B.size)
            clear b7
            go_wp2_with fail
            refine (text_num v N w7 ha).mono ?_
            rintro e w8 ⟨⟨x, rfl, hx⟩, b8⟩
            have ha := ha.below b8
            have hb := hb.below b8
            have hB := hB.below b8
            have B := B.trans (b8.mono B.size)
            clear b8
            go_wp2_with fail
            refine (parse_dec x N w8 hx HN16.out hB).mono ?_
            rintro e w9 ⟨⟨y, rfl, hy⟩, b9⟩
            have ha := ha.below b9
            have hb := hb.below b9
            have hB := hB.below b9
            have B := B.trans (b9.mono B.size)
            clear b9
            clear hx
            go_wp2_with fail
            refine (same_num y v N N w9 hy ha).mono ?_
            rintro e w10 ⟨rfl, b10⟩
            rw [show decide (N = N) = true by simp]
            clear hy
            have ha := ha.below b10
            have hb := hb.below b10
            have hB := hB.below b10
            have B := B.trans (b10.mono B.size)
            clear b10
            go_wp2_with fail
            refine (div_num v u N M w10 ha hb HMp.out).mono ?_
            rintro e w11 ⟨⟨d, r, rfl, hd, hr⟩, b11⟩
            have ha := ha.below b11
            have hb := hb.below b11
            have hB := hB.below b11
            have B := B.trans (b11.mono B.size)
            clear b11
            go_wp2_with fail
            refine (mul_num d u _ M w11 hd hb).mono ?_
            rintro e w12 ⟨hto, b12⟩
            obtain ⟨m, rfl, hm⟩ := hto.ok HQ.out
            clear hd
            have ha := ha.below b12
            have hb := hb.below b12
            have hr := hr.below b12
            have hB := hB.below b12
            have B := B.trans (b12.mono B.size)
            clear b12
            go_wp2_with fail
            refine (add_num m r _ _ w12 hm hr).mono ?_
            rintro e w13 ⟨hto, b13⟩
            obtain ⟨n, rfl, hn⟩ := hto.ok HR.out
            clear hm
            have ha := ha.below b13
            have hb := hb.below b13
            have hr := hr.below b13
            have hB := hB.below b13
            have B := B.trans (b13.mono B.size)
            clear b13
            have hC := cmp_num hr hb
            rw [HC.out] at hC
            have HCC := Lib.hid hC
            clear hC
            go_wp2_with fail
            refine (HCC.out).mono ?_
            rintro e w14 ⟨rfl, b14⟩
            clear hr
            clear hb
            have ha := ha.below b14
            have hn := hn.below b14
            have hB := hB.below b14
            have B := B.trans (b14.mono B.size)
            clear b14
            clear HCC
            go_wp2_with fail
            refine (same_num n v _ N w14 hn ha).mono ?_
            rintro e w15 ⟨rfl, b15⟩
            rw [HS3.out]
            clear hn
            have ha := ha.below b15
            have hB := hB.below b15
            have B := B.trans (b15.mono B.size)
            clear b15
            go_wp2_with fail
            go_ret
            exact ⟨rfl, B⟩
          · have HM0 := Lib.hid (show M = 0 by omega)
            clear hpos hA hM hrg hrm
            go_wp2_with fail
            refine (add_num v u N M w ha hb).mono ?_
            rintro e w1 ⟨hto, b1⟩
            obtain ⟨s, rfl, hs⟩ := hto.ok HA1.out
            have ha := ha.below b1
            have hb := hb.below b1
            have hB := hB.below b1
            have B := B.trans (b1.mono B.size)
            clear b1
            go_wp2_with fail
            refine (add_num u v M N w1 hb ha).mono ?_
            rintro e w2 ⟨hto, b2⟩
            obtain ⟨t, rfl, ht⟩ := hto.ok HA2.out
            have ha := ha.below b2
            have hb := hb.below b2
            have hs := hs.below b2
            have hB := hB.below b2
            have B := B.trans (b2.mono B.size)
            clear b2
            go_wp2_with fail
            refine (mul_num v u N M w2 ha hb).mono ?_
            rintro e w3 ⟨hto, b3⟩
            obtain rfl := hto.over HM1.out
            have ha := ha.below b3
            have hb := hb.below b3
            have hs := hs.below b3
            have ht := ht.below b3
            have hB := hB.below b3
            have B := B.trans (b3.mono B.size)
            clear b3
            go_wp2_with fail
            refine (mul_num u v M N w3 hb ha).mono ?_
            rintro e w4 ⟨hto, b4⟩
            obtain rfl := hto.over HM2.out
            have ha := ha.below b4
            have hb := hb.below b4
            have hs := hs.below b4
            have ht := ht.below b4
            have hB := hB.below b4
            have B := B.trans (b4.mono B.size)
            clear b4
            go_wp2_with fail
            refine (same_num s t _ _ w4 hs ht).mono ?_
            rintro e w5 ⟨rfl, b5⟩
            rw [HS1.out]
            clear hs
            clear ht
            have ha := ha.below b5
            have hb := hb.below b5
            have hB := hB.below b5
            have B := B.trans (b5.mono B.size)
            clear b5
            go_wp2_with fail
            refine (same_nil w5).mono ?_
            rintro e w6 ⟨rfl, b6⟩
            have ha := ha.below b6
            have hb := hb.below b6
            have hB := hB.below b6
            have B := B.trans (b6.mono B.size)
            clear b6
            go_wp2_with fail
            refine (alive_any w6 hB).mono ?_
            rintro e w7 ⟨rfl, b7⟩
            have ha := ha.below b7
            have hb := hb.below b7
            have hB := hB.below b7
            have B := B.trans (b7.mono B.size)
            clear b7
            go_wp2_with fail
            refine (text_num v N w7 ha).mono ?_
            rintro e w8 ⟨⟨x, rfl, hx⟩, b8⟩
            have ha := ha.below b8
            have hb := hb.below b8
            have hB := hB.below b8
            have B := B.trans (b8.mono B.size)
            clear b8
            go_wp2_with fail
            refine (parse_dec x N w8 hx HN16.out hB).mono ?_
            rintro e w9 ⟨⟨y, rfl, hy⟩, b9⟩
            have ha := ha.below b9
            have hb := hb.below b9
            have hB := hB.below b9
            have B := B.trans (b9.mono B.size)
            clear b9
            clear hx
            go_wp2_with fail
            refine (same_num y v N N w9 hy ha).mono ?_
            rintro e w10 ⟨rfl, b10⟩
            rw [show decide (N = N) = true by simp]
            clear hy
            have ha := ha.below b10
            have hb := hb.below b10
            have hB := hB.below b10
            have B := B.trans (b10.mono B.size)
            clear b10
            have hb0 := hb
            rw [HM0.out] at hb0
            obtain ⟨bo, bc, rfl⟩ := hb0.of_zero
            go_wp2_with fail
            refine (div_zero v _ N w10 ha hb0).mono ?_
            rintro e w11 ⟨rfl, b11⟩
            have ha := ha.below b11
            have hb := hb.below b11
            have hB := hB.below b11
            have B := B.trans (b11.mono B.size)
            clear b11
            go_wp2_with fail
            go_ret
            exact ⟨rfl, B⟩
      · have HA1 := Lib.hid (Int.not_lt.1 hA)
        have HA2 := Lib.hid (show pw 16 ≤ M + N by omega)
        by_cases hM : N * M < pw 16
        · have HM1 := Lib.hid hM
          have HM2 := Lib.hid (show M * N < pw 16 by rw [Int.mul_comm]; exact hM)
          by_cases hpos : 0 < M
          · have hdm := Int.mul_ediv_add_emod N M
            have hmm := Int.emod_nonneg N (show M ≠ 0 by omega)
            have hml := Int.emod_lt_of_pos N hpos
            have hdn : N / M * M + N % M = N := by rw [Int.mul_comm]; exact hdm
            have HMp := Lib.hid hpos
            have HQ := Lib.hid (show N / M * M < pw 16 by omega)
            have HR := Lib.hid (show N / M * M + N % M < pw 16 by rw [hdn]; exact hrg.2)
            have HC := Lib.hid (show sgn (N % M) M = -1 by rw [sgn, if_pos hml])
            have HS3 := Lib.hid (show decide (N / M * M + N % M = N) = true by rw [decide_eq_true_iff]; exact hdn)
            clear hdm hmm hml hdn hpos hA hM hrg hrm
            go_wp2_with fail
            refine (add_num v u N M w ha hb).mono ?_
            rintro e w1 ⟨hto, b1⟩
            obtain rfl := hto.over HA1.out
            have ha := ha.below b1
            have hb := hb.below b1
            have hB := hB.below b1
            have B := B.trans (b1.mono B.size)
            clear b1
            go_wp2_with fail
            refine (add_num u v M N w1 hb ha).mono ?_
            rintro e w2 ⟨hto, b2⟩
            obtain rfl := hto.over HA2.out
            have ha := ha.below b2
            have hb := hb.below b2
            have hB := hB.below b2
            have B := B.trans (b2.mono B.size)
            clear b2
            go_wp2_with fail
            refine (mul_num v u N M w2 ha hb).mono ?_
            rintro e w3 ⟨hto, b3⟩
            obtain ⟨p, rfl, hp⟩ := hto.ok HM1.out
            have ha := ha.below b3
            have hb := hb.below b3
            have hB := hB.below b3
            have B := B.trans (b3.mono B.size)
            clear b3
            go_wp2_with fail
            refine (mul_num u v M N w3 hb ha).mono ?_
            rintro e w4 ⟨hto, b4⟩
            obtain ⟨q, rfl, hq⟩ := hto.ok HM2.out
            have ha := ha.below b4
            have hb := hb.below b4
            have hp := hp.below b4
            have hB := hB.below b4
            have B := B.trans (b4.mono B.size)
            clear b4
            go_wp2_with fail
            refine (same_nil w4).mono ?_
            rintro e w5 ⟨rfl, b5⟩
            have ha := ha.below b5
            have hb := hb.below b5
            have hp := hp.below b5
            have hq := hq.below b5
            have hB := hB.below b5
            have B := B.trans (b5.mono B.size)
            clear b5
            go_wp2_with fail
            refine (same_num p q _ _ w5 hp hq).mono ?_
            rintro e w6 ⟨rfl, b6⟩
            rw [HS2.out]
            clear hp
            clear hq
            have ha := ha.below b6
            have hb := hb.below b6
            have hB := hB.below b6
            have B := B.trans (b6.mono B.size)
            clear b6
            go_wp2_with fail
            refine (alive_any w6 hB).mono ?_
            rintro e w7 ⟨rfl, b7⟩
            have ha := ha.below b7
            have hb := hb.below b7
            have hB := hB.below b7
            have B := B.trans (b7.mono B.size)
            clear b7
            go_wp2_with fail
            refine (text_num v N w7 ha).mono ?_
            rintro e w8 ⟨⟨x, rfl, hx⟩, b8⟩
            have ha := ha.below b8
            have hb := hb.below b8
            have hB := hB.below b8
            have B := B.trans (b8.mono B.size)
            clear b8
            go_wp2_with fail
            refine (parse_dec x N w8 hx HN16.out hB).mono ?_
            rintro e w9 ⟨⟨y, rfl, hy⟩, b9⟩
            have ha := ha.below b9
            have hb := hb.below b9
            have hB := hB.below b9
            have B := B.trans (b9.mono B.size)
            clear b9
            clear hx
            go_wp2_with fail
            refine (same_num y v N N w9 hy ha).mono ?_
            rintro e w10 ⟨rfl, b10⟩
            rw [show decide (N = N) = true by simp]
            clear hy
            have ha := ha.below b10
            have hb := hb.below b10
            have hB := hB.below b10
            have B := B.trans (b10.mono B.size)
            clear b10
            go_wp2_with fail
            refine (div_num v u N M w10 ha hb HMp.out).mono ?_
            rintro e w11 ⟨⟨d, r, rfl, hd, hr⟩, b11⟩
            have ha := ha.below b11
            have hb := hb.below b11
            have hB := hB.below b11
            have B := B.trans (b11.mono B.size)
            clear b11
            go_wp2_with fail
            refine (mul_num d u _ M w11 hd hb).mono ?_
            rintro e w12 ⟨hto, b12⟩
            obtain ⟨m, rfl, hm⟩ := hto.ok HQ.out
            clear hd
            have ha := ha.below b12
            have hb := hb.below b12
            have hr := hr.below b12
            have hB := hB.below b12
            have B := B.trans (b12.mono B.size)
            clear b12
            go_wp2_with fail
            refine (add_num m r _ _ w12 hm hr).mono ?_
            rintro e w13 ⟨hto, b13⟩
            obtain ⟨n, rfl, hn⟩ := hto.ok HR.out
            clear hm
            have ha := ha.below b13
            have hb := hb.below b13
            have hr := hr.below b13
            have hB := hB.below b13
            have B := B.trans (b13.mono B.size)
            clear b13
            have hC := cmp_num hr hb
            rw [HC.out] at hC
            have HCC := Lib.hid hC
            clear hC
            go_wp2_with fail
            refine (HCC.out).mono ?_
            rintro e w14 ⟨rfl, b14⟩
            clear hr
            clear hb
            have ha := ha.below b14
            have hn := hn.below b14
            have hB := hB.below b14
            have B := B.trans (b14.mono B.size)
            clear b14
            clear HCC
            go_wp2_with fail
            refine (same_num n v _ N w14 hn ha).mono ?_
            rintro e w15 ⟨rfl, b15⟩
            rw [HS3.out]
            clear hn
            have ha := ha.below b15
            have hB := hB.below b15
            have B := B.trans (b15.mono B.size)
            clear b15
            go_wp2_with fail
            go_ret
            exact ⟨rfl, B⟩
          · have HM0 := Lib.hid (show M = 0 by omega)
            clear hpos hA hM hrg hrm
            go_wp2_with fail
            refine (add_num v u N M w ha hb).mono ?_
            rintro e w1 ⟨hto, b1⟩
            obtain rfl := hto.over HA1.out
            have ha := ha.below b1
            have hb := hb.below b1
            have hB := hB.below b1
            have B := B.trans (b1.mono B.size)
            clear b1
            go_wp2_with fail
            refine (add_num u v M N w1 hb ha).mono ?_
            rintro e w2 ⟨hto, b2⟩
            obtain rfl := hto.over HA2.out
            have ha := ha.below b2
            have hb := hb.below b2
            have hB := hB.below b2
            have B := B.trans (b2.mono B.size)
            clear b2
            go_wp2_with fail
            refine (mul_num v u N M w2 ha hb).mono ?_
            rintro e w3 ⟨hto, b3⟩
            obtain ⟨p, rfl, hp⟩ := hto.ok HM1.out
            have ha := ha.below b3
            have hb := hb.below b3
            have hB := hB.below b3
            have B := B.trans (b3.mono B.size)
            clear b3
            go_wp2_with fail
            refine (mul_num u v M N w3 hb ha).mono ?_
            rintro e w4 ⟨hto, b4⟩
            obtain ⟨q, rfl, hq⟩ := hto.ok HM2.out
            have ha := ha.below b4
            have hb := hb.below b4
            have hp := hp.below b4
            have hB := hB.below b4
            have B := B.trans (b4.mono B.size)
            clear b4
            go_wp2_with fail
            refine (same_nil w4).mono ?_
            rintro e w5 ⟨rfl, b5⟩
            have ha := ha.below b5
            have hb := hb.below b5
            have hp := hp.below b5
            have hq := hq.below b5
            have hB := hB.below b5
            have B := B.trans (b5.mono B.size)
            clear b5
            go_wp2_with fail
            refine (same_num p q _ _ w5 hp hq).mono ?_
            rintro e w6 ⟨rfl, b6⟩
            rw [HS2.out]
            clear hp
            clear hq
            have ha := ha.below b6
            have hb := hb.below b6
            have hB := hB.below b6
            have B := B.trans (b6.mono B.size)
            clear b6
            go_wp2_with fail
            refine (alive_any w6 hB).mono ?_
            rintro e w7 ⟨rfl, b7⟩
            have ha := ha.below b7
            have hb := hb.below b7
            have hB := hB.below b7
            have B := B.trans (b7.mono B.size)
            clear b7
            go_wp2_with fail
            refine (text_num v N w7 ha).mono ?_
            rintro e w8 ⟨⟨x, rfl, hx⟩, b8⟩
            have ha := ha.below b8
            have hb := hb.below b8
            have hB := hB.below b8
            have B := B.trans (b8.mono B.size)
            clear b8
            go_wp2_with fail
            refine (parse_dec x N w8 hx HN16.out hB).mono ?_
            rintro e w9 ⟨⟨y, rfl, hy⟩, b9⟩
            have ha := ha.below b9
            have hb := hb.below b9
            have hB := hB.below b9
            have B := B.trans (b9.mono B.size)
            clear b9
            clear hx
            go_wp2_with fail
            refine (same_num y v N N w9 hy ha).mono ?_
            rintro e w10 ⟨rfl, b10⟩
            rw [show decide (N = N) = true by simp]
            clear hy
            have ha := ha.below b10
            have hb := hb.below b10
            have hB := hB.below b10
            have B := B.trans (b10.mono B.size)
            clear b10
            have hb0 := hb
            rw [HM0.out] at hb0
            obtain ⟨bo, bc, rfl⟩ := hb0.of_zero
            go_wp2_with fail
            refine (div_zero v _ N w10 ha hb0).mono ?_
            rintro e w11 ⟨rfl, b11⟩
            have ha := ha.below b11
            have hb := hb.below b11
            have hB := hB.below b11
            have B := B.trans (b11.mono B.size)
            clear b11
            go_wp2_with fail
            go_ret
            exact ⟨rfl, B⟩
        · have HM1 := Lib.hid (Int.not_lt.1 hM)
          have HM2 := Lib.hid (show pw 16 ≤ M * N by rw [Int.mul_comm]; exact Int.not_lt.1 hM)
          by_cases hpos : 0 < M
          · have hdm := Int.mul_ediv_add_emod N M
            have hmm := Int.emod_nonneg N (show M ≠ 0 by omega)
            have hml := Int.emod_lt_of_pos N hpos
            have hdn : N / M * M + N % M = N := by rw [Int.mul_comm]; exact hdm
            have HMp := Lib.hid hpos
            have HQ := Lib.hid (show N / M * M < pw 16 by omega)
            have HR := Lib.hid (show N / M * M + N % M < pw 16 by rw [hdn]; exact hrg.2)
            have HC := Lib.hid (show sgn (N % M) M = -1 by rw [sgn, if_pos hml])
            have HS3 := Lib.hid (show decide (N / M * M + N % M = N) = true by rw [decide_eq_true_iff]; exact hdn)
            clear hdm hmm hml hdn hpos hA hM hrg hrm
            go_wp2_with fail
            refine (add_num v u N M w ha hb).mono ?_
            rintro e w1 ⟨hto, b1⟩
            obtain rfl := hto.over HA1.out
            have ha := ha.below b1
            have hb := hb.below b1
            have hB := hB.below b1
            have B := B.trans (b1.mono B.size)
            clear b1
            go_wp2_with fail
            refine (add_num u v M N w1 hb ha).mono ?_
            rintro e w2 ⟨hto, b2⟩
            obtain rfl := hto.over HA2.out
            have ha := ha.below b2
            have hb := hb.below b2
            have hB := hB.below b2
            have B := B.trans (b2.mono B.size)
            clear b2
            go_wp2_with fail
            refine (mul_num v u N M w2 ha hb).mono ?_
            rintro e w3 ⟨hto, b3⟩
            obtain rfl := hto.over HM1.out
            have ha := ha.below b3
            have hb := hb.below b3
            have hB := hB.below b3
            have B := B.trans (b3.mono B.size)
            clear b3
            go_wp2_with fail
            refine (mul_num u v M N w3 hb ha).mono ?_
            rintro e w4 ⟨hto, b4⟩
            obtain rfl := hto.over HM2.out
            have ha := ha.below b4
            have hb := hb.below b4
            have hB := hB.below b4
            have B := B.trans (b4.mono B.size)
            clear b4
            go_wp2_with fail
            refine (same_nil w4).mono ?_
            rintro e w5 ⟨rfl, b5⟩
            have ha := ha.below b5
            have hb := hb.below b5
            have hB := hB.below b5
            have B := B.trans (b5.mono B.size)
            clear b5
            go_wp2_with fail
            refine (same_nil w5).mono ?_
            rintro e w6 ⟨rfl, b6⟩
            have ha := ha.below b6
            have hb := hb.below b6
            have hB := hB.below b6
            have B := B.trans (b6.mono B.size)
            clear b6
            go_wp2_with fail
            refine (alive_any w6 hB).mono ?_
            rintro e w7 ⟨rfl, b7⟩
            have ha := ha.below b7
            have hb := hb.below b7
            have hB := hB.below b7
            have B := B.trans (b7.mono B.size)
            clear b7
            go_wp2_with fail
            refine (text_num v N w7 ha).mono ?_
            rintro e w8 ⟨⟨x, rfl, hx⟩, b8⟩
            have ha := ha.below b8
            have hb := hb.below b8
            have hB := hB.below b8
            have B := B.trans (b8.mono B.size)
            clear b8
            go_wp2_with fail
            refine (parse_dec x N w8 hx HN16.out hB).mono ?_
            rintro e w9 ⟨⟨y, rfl, hy⟩, b9⟩
            have ha := ha.below b9
            have hb := hb.below b9
            have hB := hB.below b9
            have B := B.trans (b9.mono B.size)
            clear b9
            clear hx
            go_wp2_with fail
            refine (same_num y v N N w9 hy ha).mono ?_
            rintro e w10 ⟨rfl, b10⟩
            rw [show decide (N = N) = true by simp]
            clear hy
            have ha := ha.below b10
            have hb := hb.below b10
            have hB := hB.below b10
            have B := B.trans (b10.mono B.size)
            clear b10
            go_wp2_with fail
            refine (div_num v u N M w10 ha hb HMp.out).mono ?_
            rintro e w11 ⟨⟨d, r, rfl, hd, hr⟩, b11⟩
            have ha := ha.below b11
            have hb := hb.below b11
            have hB := hB.below b11
            have B := B.trans (b11.mono B.size)
            clear b11
            go_wp2_with fail
            refine (mul_num d u _ M w11 hd hb).mono ?_
            rintro e w12 ⟨hto, b12⟩
            obtain ⟨m, rfl, hm⟩ := hto.ok HQ.out
            clear hd
            have ha := ha.below b12
            have hb := hb.below b12
            have hr := hr.below b12
            have hB := hB.below b12
            have B := B.trans (b12.mono B.size)
            clear b12
            go_wp2_with fail
            refine (add_num m r _ _ w12 hm hr).mono ?_
            rintro e w13 ⟨hto, b13⟩
            obtain ⟨n, rfl, hn⟩ := hto.ok HR.out
            clear hm
            have ha := ha.below b13
            have hb := hb.below b13
            have hr := hr.below b13
            have hB := hB.below b13
            have B := B.trans (b13.mono B.size)
            clear b13
            have hC := cmp_num hr hb
            rw [HC.out] at hC
            have HCC := Lib.hid hC
            clear hC
            go_wp2_with fail
            refine (HCC.out).mono ?_
            rintro e w14 ⟨rfl, b14⟩
            clear hr
            clear hb
            have ha := ha.below b14
            have hn := hn.below b14
            have hB := hB.below b14
            have B := B.trans (b14.mono B.size)
            clear b14
            clear HCC
            go_wp2_with fail
            refine (same_num n v _ N w14 hn ha).mono ?_
            rintro e w15 ⟨rfl, b15⟩
            rw [HS3.out]
            clear hn
            have ha := ha.below b15
            have hB := hB.below b15
            have B := B.trans (b15.mono B.size)
            clear b15
            go_wp2_with fail
            go_ret
            exact ⟨rfl, B⟩
          · have HM0 := Lib.hid (show M = 0 by omega)
            clear hpos hA hM hrg hrm
            go_wp2_with fail
            refine (add_num v u N M w ha hb).mono ?_
            rintro e w1 ⟨hto, b1⟩
            obtain rfl := hto.over HA1.out
            have ha := ha.below b1
            have hb := hb.below b1
            have hB := hB.below b1
            have B := B.trans (b1.mono B.size)
            clear b1
            go_wp2_with fail
            refine (add_num u v M N w1 hb ha).mono ?_
            rintro e w2 ⟨hto, b2⟩
            obtain rfl := hto.over HA2.out
            have ha := ha.below b2
            have hb := hb.below b2
            have hB := hB.below b2
            have B := B.trans (b2.mono B.size)
            clear b2
            go_wp2_with fail
            refine (mul_num v u N M w2 ha hb).mono ?_
            rintro e w3 ⟨hto, b3⟩
            obtain rfl := hto.over HM1.out
            have ha := ha.below b3
            have hb := hb.below b3
            have hB := hB.below b3
            have B := B.trans (b3.mono B.size)
            clear b3
            go_wp2_with fail
            refine (mul_num u v M N w3 hb ha).mono ?_
            rintro e w4 ⟨hto, b4⟩
            obtain rfl := hto.over HM2.out
            have ha := ha.below b4
            have hb := hb.below b4
            have hB := hB.below b4
            have B := B.trans (b4.mono B.size)
            clear b4
            go_wp2_with fail
            refine (same_nil w4).mono ?_
            rintro e w5 ⟨rfl, b5⟩
            have ha := ha.below b5
            have hb := hb.below b5
            have hB := hB.below b5
            have B := B.trans (b5.mono B.size)
            clear b5
            go_wp2_with fail
            refine (same_nil w5).mono ?_
            rintro e w6 ⟨rfl, b6⟩
            have ha := ha.below b6
            have hb := hb.below b6
            have hB := hB.below b6
            have B := B.trans (b6.mono B.size)
            clear b6
            go_wp2_with fail
            refine (alive_any w6 hB).mono ?_
            rintro e w7 ⟨rfl, b7⟩
            have ha := ha.below b7
            have hb := hb.below b7
            have hB := hB.below b7
            have B := B.trans (b7.mono B.size)
            clear b7
            go_wp2_with fail
            refine (text_num v N w7 ha).mono ?_
            rintro e w8 ⟨⟨x, rfl, hx⟩, b8⟩
            have ha := ha.below b8
            have hb := hb.below b8
            have hB := hB.below b8
            have B := B.trans (b8.mono B.size)
            clear b8
            go_wp2_with fail
            refine (parse_dec x N w8 hx HN16.out hB).mono ?_
            rintro e w9 ⟨⟨y, rfl, hy⟩, b9⟩
            have ha := ha.below b9
            have hb := hb.below b9
            have hB := hB.below b9
            have B := B.trans (b9.mono B.size)
            clear b9
            clear hx
            go_wp2_with fail
            refine (same_num y v N N w9 hy ha).mono ?_
            rintro e w10 ⟨rfl, b10⟩
            rw [show decide (N = N) = true by simp]
            clear hy
            have ha := ha.below b10
            have hb := hb.below b10
            have hB := hB.below b10
            have B := B.trans (b10.mono B.size)
            clear b10
            have hb0 := hb
            rw [HM0.out] at hb0
            obtain ⟨bo, bc, rfl⟩ := hb0.of_zero
            go_wp2_with fail
            refine (div_zero v _ N w10 ha hb0).mono ?_
            rintro e w11 ⟨rfl, b11⟩
            have ha := ha.below b11
            have hb := hb.below b11
            have hB := hB.below b11
            have B := B.trans (b11.mono B.size)
            clear b11
            go_wp2_with fail
            go_ret
            exact ⟨rfl, B⟩
end Go.Proofs.YtondjnmpfpfpmaaDoor
