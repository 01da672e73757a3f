/- The reference's Sub. -/
import Derived.Test.YtondjnmpfpfpmaaDoorNatRefAdd
namespace Go.Proofs.YtondjnmpfpfpmaaDoor
open Go.RowKit NM

/-- The state of Sub's loop. -/
structure InSub (ds fs : List Int) (N : Int) (i : Nat) (c : Int) (es : List Int) : Prop where
  digs : Digs es
  len : es.length = i
  all : dv es + 10 ^ es.length * (dv (ds.drop i) - dv (fs.drop i) - c) = N
theorem InSub.step {ds fs : List Int} {N : Int} {i : Nat} {c d f t c' : Int} {es : List Int} (h : InSub ds fs N i c es) (hd : ds.getD i 0 = d) (hf : fs.getD i 0 = f) (t0 : 0 ≤ t) (t1 : t < 10) (ht : d - f - c = t - 10 * c') : InSub ds fs N (i + 1) c' (es ++ [t]) := by
  have h1 := h.all
  rw [dv_drop ds, dv_drop fs, hd, hf] at h1
  exact ⟨Digs_snoc h.digs t0 t1, by rw [List.length_append, h.len]; rfl, dec_step h1 (by omega)⟩
theorem InSub.done {ds fs : List Int} {N c : Int} {i : Nat} {es : List Int} (h : InSub ds fs N i c es) (hi : ds.length ≤ i) (hj : fs.length ≤ i) (hN : 0 ≤ N) (c0 : 0 ≤ c) (c1 : c ≤ 1) : dv es = N := by
  have h1 := h.all
  rw [List.drop_of_length_le hi, List.drop_of_length_le hj] at h1
  have hr := dv_range h.digs
  simp only [dv] at h1
  rcases (show c = 0 ∨ c = 1 by omega) with rfl | rfl
  · omega
  · exfalso
    have e : (10 : Int) ^ es.length * (0 - 0 - 1) = - 10 ^ es.length := by omega
    omega

set_option maxHeartbeats 1000000 in
set_option maxRecDepth 100000 in
theorem refsub_dec (ds fs : List Int) (N : Int) (w : World) (hd : Digs ds) (hf : Digs fs) (hn : 0 < ds.length) (hm : ds.length ≤ 100000) (hm2 : fs.length ≤ ds.length) (hN : dv ds - dv fs = N) (hN0 : 0 ≤ N) :
    Calls Tryd.prog 21 #[.string (dstr ds), .string (dstr fs)] w fun e w' => (∃ s, e = .returned (.string s) ∧ DecStr s N) ∧ Below w.heap.size w w' := by
  obtain ⟨i0, hi, hz0, hz1, hz2⟩ := info_parts info_u8
  have hsz := dstr_size ds
  have HN := Lib.hid hN
  have HN0 := Lib.hid hN0
  have Hd := Lib.hid hd
  have Hf := Lib.hid hf
  clear hN hd hf hN0
  obtain ⟨l, hl⟩ : ∃ l, ds.length = l := ⟨_, rfl⟩
  have Hl := Lib.hid hl
  have Hm := Lib.hid hm2
  rw [hl] at hn hm hsz
  clear hl hm2
  obtain ⟨s, hs⟩ : ∃ s, dstr ds = s := ⟨_, rfl⟩
  obtain ⟨s2, hs2⟩ : ∃ s2, dstr fs = s2 := ⟨_, rfl⟩
  have Hat := Lib.hid (fun (i : Nat) (w : World) (h : i ≤ 1000000) => at_dstr ds i w Hd.out (by rw [Hl.out]; omega) h)
  have Hat2 := Lib.hid (fun (i : Nat) (w : World) (h : i ≤ 1000000) => at_dstr fs i w Hf.out (by have := Hm.out; have := Hl.out; omega) h)
  rw [hs] at hsz Hat ⊢
  rw [hs2] at Hat2 ⊢
  clear hs hs2
  go_enter Tryd.func21, Tryd.ntmps21
  go_wp2_with fail
  go_loopw [5, 6, 7, 8] (fun vo vc vi _ wr => ∃ (i : Nat) (c : Int) (es : List Int), i ≤ l ∧ vi = .int .i64 i ∧ vc = .int .i64 c ∧ 0 ≤ c ∧ c ≤ 1 ∧ Hid (InSub ds fs N i c es) ∧ Hid (wr.ownsRow w.heap.size 5 1 vo i (D8 es)) ∧ Hid (Below w.heap.size w wr)) (fun _ _ vi _ _ => l - (intOf vi).toNat)
  case atStart =>
    refine ⟨0, 0, [], by omega, rfl, rfl, by omega, by omega, Lib.hid ⟨(fun _ h => by cases h), rfl, ?_⟩, Lib.hid ?_, Lib.hid ?_⟩
    · have := HN.out; simpa [dv] using this
    · exact World.ownsRow_made w #[] 0 (Nat.le_refl _) (by unfold maxLen; omega) rfl
    · exact (Below.refl _ _).alloc (Nat.le_refl _) _
  case round =>
    obtain ⟨i, c, es, hil0, rfl, rfl, hc0, hc1, hin, hown, hbl⟩ := hrel
    by_cases hil : i < l
    · obtain ⟨d, hdd⟩ : ∃ d, ds.getD i 0 = d := ⟨_, rfl⟩
      obtain ⟨f, hff⟩ : ∃ f, fs.getD i 0 = f := ⟨_, rfl⟩
      have hdr := digs_getD Hd.out i
      have hfr := digs_getD Hf.out i
      have hA := Hat.out i
      have hB := Hat2.out i
      rw [hdd] at hdr hA
      rw [hff] at hfr hB
      have HA := Lib.hid hA
      have HB := Lib.hid hB
      obtain ⟨n, hn0⟩ : ∃ n, d - f - c = n := ⟨_, rfl⟩
      by_cases hneg : n < 0
      · obtain ⟨t, ht⟩ : ∃ t, n + 10 = t := ⟨_, rfl⟩
        have hst := Lib.hid (hin.out.step (c' := 1) (t := t) hdd hff (by omega) (by omega) (by omega))
        have hw1 : IntKind.u8.wrap (48 + t) = 48 + t := by simp only [IntKind.wrap, IntKind.signed, IntKind.bits]; simp; omega
        have hown2 := Lib.hid (hown.out.alloc (.cells #[.int .u8 (48 + t)] 5))
        clear hdd hff hA hB Hat Hat2
        go_wp2_with fail
        refine (HA.out wr (by omega)).mono ?_
        rintro e w' ⟨rfl, rfl⟩
        go_wp2_with fail
        refine (HB.out wr (by omega)).mono ?_
        rintro e w' ⟨rfl, rfl⟩
        go_wp2_with (at_builtin; refine wpList_append_own_at _ rfl _ _ 62 rfl w.heap.size 5 i0 (.int .u8 0) 1 1 Tryd.underlying62 hi hz0 hz1 hz2 rfl (by decide) u5 i (D8 es) rfl hown2.out ⟨wr.heap.size, 0, none⟩ 1 1 [.int .u8 (48 + t)] rfl ?c1 ?c2 ?c3 ?c4 ?c5 ?c6 ?_)
        case c1 => rfl
        case c2 => exact cell_one_new _ _ _
        case c3 =>
          intro u hu
          simp at hu
          subst hu
          rfl
        case c4 => unfold maxLen; omega
        case c5 => omega
        case c6 => have := hbl.out.size; simp; omega
        intro v' w2 hown3 hgrow _ hblk
        have hb2 := Lib.hid (own_push hown.out hbl.out hgrow)
        have ho2 := Lib.hid (show w2.ownsRow w.heap.size 5 1 v' (i + 1) (D8 (es ++ [t])) by rw [D8_snoc]; exact hown3)
        clear hown3 hgrow hblk
        go_wp2_with fail
        go_roundw
        case rel => exact ⟨i + 1, 1, es ++ [t], by omega, by go_num, rfl, by omega, by omega, hst, ho2, hb2⟩
        case measure => simp [intOf]; omega
      · obtain ⟨t, ht⟩ : ∃ t, n = t := ⟨_, rfl⟩
        subst ht
        have hst := Lib.hid (hin.out.step (c' := 0) (t := n) hdd hff (by omega) (by omega) (by omega))
        have hw1 : IntKind.u8.wrap (48 + n) = 48 + n := by simp only [IntKind.wrap, IntKind.signed, IntKind.bits]; simp; omega
        have hown2 := Lib.hid (hown.out.alloc (.cells #[.int .u8 (48 + n)] 5))
        clear hdd hff hA hB Hat Hat2
        go_wp2_with fail
        refine (HA.out wr (by omega)).mono ?_
        rintro e w' ⟨rfl, rfl⟩
        go_wp2_with fail
        refine (HB.out wr (by omega)).mono ?_
        rintro e w' ⟨rfl, rfl⟩
        go_wp2_with (at_builtin; refine wpList_append_own_at _ rfl _ _ 62 rfl w.heap.size 5 i0 (.int .u8 0) 1 1 Tryd.underlying62 hi hz0 hz1 hz2 rfl (by decide) u5 i (D8 es) rfl hown2.out ⟨wr.heap.size, 0, none⟩ 1 1 [.int .u8 (48 + n)] rfl ?c1 ?c2 ?c3 ?c4 ?c5 ?c6 ?_)
        case c1 => rfl
        case c2 => exact cell_one_new _ _ _
        case c3 =>
          intro u hu
          simp at hu
          subst hu
          rfl
        case c4 => unfold maxLen; omega
        case c5 => omega
        case c6 => have := hbl.out.size; simp; omega
        intro v' w2 hown3 hgrow _ hblk
        have hb2 := Lib.hid (own_push hown.out hbl.out hgrow)
        have ho2 := Lib.hid (show w2.ownsRow w.heap.size 5 1 v' (i + 1) (D8 (es ++ [n])) by rw [D8_snoc]; exact hown3)
        clear hown3 hgrow hblk
        go_wp2_with fail
        go_roundw
        case rel => exact ⟨i + 1, 0, es ++ [n], by omega, by go_num, rfl, by omega, by omega, hst, ho2, hb2⟩
        case measure => simp [intOf]; omega
    · obtain rfl : i = l := by omega
      have hfin := hin.out.done (by rw [Hl.out]; omega) (by have := Hm.out; have := Hl.out; omega) HN0.out hc0 hc1
      have hes := hin.out.digs
      have hel := hin.out.len
      obtain ⟨g, cap, rfl, hgs, hcell⟩ := out_cells hown.out (by omega)
      have hR := reversed_any g cap (es.map fun d => 48 + d) wr hgs (by simp; omega) (by simp; omega) hcell
      rw [List.length_map, hel] at hR
      have HR := Lib.hid hR
      have hel2 : 0 < es.length ∧ es.length ≤ 1000000 := by omega
      have HT := Lib.hid (fun w => trim_dec es w hes hel2.1 hel2.2)
      have Hfin := Lib.hid hfin
      clear hR hcell hown hin hfin Hat Hat2
      go_wp2_with fail
      refine HR.out.mono ?_
      rintro e w2 ⟨rfl, hb2⟩
      go_wp2_with fail
      refine (HT.out w2).mono ?_
      rintro e w3 ⟨⟨s', rfl, hs'⟩, rfl⟩
      rw [Hfin.out] at hs'
      go_wp2_with fail
      go_ret
      exact ⟨⟨s', rfl, hs'⟩, hbl.out.trans (hb2.mono hbl.out.size)⟩

theorem refsub_str (a b : ByteArray) (A B : Int) (w : World) (ha : DecStr a A) (hb : DecStr b B) (hA : A < big) (hAB : B ≤ A) :
    Calls Tryd.prog 21 #[.string a, .string b] w fun e w' => (∃ s, e = .returned (.string s) ∧ DecStr s (A - B)) ∧ Below w.heap.size w w' := by
  obtain ⟨ds, hd, rfl⟩ := ha
  obtain ⟨es, he, rfl⟩ := hb
  have l1 := dec_small hd hA
  have l2 : es.length ≤ ds.length := by
    rcases Nat.lt_or_ge ds.length es.length with h | h
    · have := dec_lt hd he h; omega
    · exact h
  exact refsub_dec ds es (A - B) w hd.1 he.1 l1.1 (by omega) l2 (by rw [hd.2.1, he.2.1]) (by omega)
end Go.Proofs.YtondjnmpfpfpmaaDoor
