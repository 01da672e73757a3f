/- The reference's Add. -/
import Derived.Test.YtondjnmpfpfpmaaDoorNatRefIs
namespace Go.Proofs.YtondjnmpfpfpmaaDoor
open Go.RowKit NM

/-- The state of Add's loop. -/
structure InAdd (ds fs : List Int) (N : Int) (i : Nat) (c : Int) (es : List Int) : Prop where
  digs : Digs es
  len : es.length = i
  all : dv es + 10 ^ es.length * (c + dv (ds.drop i) + dv (fs.drop i)) = N
theorem InAdd.step {ds fs : List Int} {N : Int} {i : Nat} {c d f : Int} {es : List Int} (h : InAdd ds fs N i c es) (hd : ds.getD i 0 = d) (hf : fs.getD i 0 = f) : InAdd ds fs N (i + 1) ((d + f + c) / 10) (es ++ [(d + f + c) % 10]) := by
  have h1 := h.all
  rw [dv_drop ds, dv_drop fs, hd, hf] at h1
  exact ⟨Digs_snoc h.digs (by omega) (by omega), by rw [List.length_append, h.len]; rfl, dec_step h1 (by omega)⟩
theorem InAdd.done {ds fs : List Int} {N : Int} {i : Nat} {es : List Int} (h : InAdd ds fs N i 0 es) (hi : ds.length ≤ i) (hj : fs.length ≤ i) : dv es = N := by
  have h1 := h.all
  rw [List.drop_of_length_le hi, List.drop_of_length_le hj] at h1
  simpa [dv] using h1

/-- The row that a loop has written, read from its end, without zeros ahead. -/
theorem out_cells {w : World} {base n : Nat} {v : Value} {es : List Int} (h : w.ownsRow base 5 1 v n (D8 es)) (hn : 0 < n) :
    ∃ g cap, v = .slice (some ⟨g, 0, none⟩) n cap ∧ g < w.heap.size ∧ ∀ j (hj : j < (es.map fun d => 48 + d).length), w.cell? ⟨g, j, none⟩ = some (.int .u8 ((es.map fun d => 48 + d)[j])) := by
  obtain ⟨h1, h2⟩ := h
  have hl : es.length = n := by simpa [D8] using h1
  rcases h2 with ⟨rfl, h0⟩ | ⟨g, cap, cur, rfl, hg, hcur, hcap1, hcap2, hcs, htk⟩
  · omega
  · refine ⟨g, cap, rfl, lt_of_block hcur, fun j hj => ?_⟩
    have hj' : j < es.length := by simpa using hj
    simp only [World.cell?, hcur, Option.isSome_none, Bool.false_eq_true, if_false]
    have e : cur[j]? = (cur.toList.take (n * 1))[j]? := by
      rw [List.getElem?_take_of_lt (by omega)]
      simp
    rw [e, htk]
    simp [D8, hj']

set_option maxHeartbeats 1000000 in
set_option maxRecDepth 100000 in
theorem refadd_dec (ds fs : List Int) (N : Int) (w : World) (hd : Digs ds) (hf : Digs fs) (hn : 0 < ds.length) (hm : ds.length ≤ 100000) (hm2 : fs.length ≤ 100000) (hN : dv ds + dv fs = N) :
    Calls Tryd.prog 19 #[.string (dstr ds), .string (dstr fs)] w fun e w' => (∃ s, e = .returned (.string s) ∧ DecStr s N) ∧ Below w.heap.size w w' := by
  obtain ⟨i0, hi, hz0, hz1, hz2⟩ := info_parts info_u8
  have hsz := dstr_size ds
  have hsf := dstr_size fs
  have HN := Lib.hid hN
  have Hd := Lib.hid hd
  have Hf := Lib.hid hf
  clear hN hd hf
  obtain ⟨l, hl⟩ : ∃ l, ds.length = l := ⟨_, rfl⟩
  obtain ⟨m, hlm⟩ : ∃ m, fs.length = m := ⟨_, rfl⟩
  have Hl := Lib.hid hl
  have Hm := Lib.hid hlm
  rw [hl] at hn hm hsz
  rw [hlm] at hm2 hsf
  clear hl hlm
  obtain ⟨s, hs⟩ : ∃ s, dstr ds = s := ⟨_, rfl⟩
  obtain ⟨s2, hs2⟩ : ∃ s2, dstr fs = s2 := ⟨_, rfl⟩
  have Hat := Lib.hid (fun (i : Nat) (w : World) (h : i ≤ 1000000) => at_dstr ds i w Hd.out (by rw [Hl.out]; omega) h)
  have Hat2 := Lib.hid (fun (i : Nat) (w : World) (h : i ≤ 1000000) => at_dstr fs i w Hf.out (by rw [Hm.out]; omega) h)
  rw [hs] at hsz Hat ⊢
  rw [hs2] at hsf Hat2 ⊢
  clear hs hs2
  obtain ⟨L, hL1, hL2, hL3⟩ : ∃ L, l ≤ L ∧ m ≤ L ∧ (L = l ∨ L = m) := ⟨max l m, by omega, by omega, by omega⟩
  go_enter Tryd.func19, Tryd.ntmps19
  go_wp2_with fail
  go_loopg [5, 6, 7, 8] (L + 1) (fun k vo vc vi _ wr => ∃ (i : Nat) (c : Int) (es : List Int), vi = .int .i64 i ∧ vc = .int .i64 c ∧ i + k = L + 1 ∧ 0 ≤ c ∧ c ≤ 1 ∧ Hid (k = 0 → c = 0) ∧ Hid (InAdd ds fs N i c es) ∧ Hid (wr.ownsRow w.heap.size 5 1 vo i (D8 es)) ∧ Hid (Below w.heap.size w wr))
  case atStart =>
    refine ⟨0, 0, [], rfl, rfl, by omega, by omega, by omega, Lib.hid (fun _ => rfl), Lib.hid ⟨(fun _ h => by cases h), rfl, ?_⟩, Lib.hid ?_, Lib.hid ?_⟩
    · have := HN.out; simpa [dv] using this
    · exact World.ownsRow_made w #[] 0 (Nat.le_refl _) (by unfold maxLen; omega) rfl
    · exact (Below.refl _ _).alloc (Nat.le_refl _) _
  case round =>
    obtain ⟨i, c, es, rfl, rfl, hik, hc0, hc1, hck, hin, hown, hbl⟩ := hrel
    by_cases hgo : i < l ∨ i < m ∨ 0 < c
    · have hk0 : 0 < gk := by
        rcases Nat.eq_zero_or_pos gk with h | h
        · have := hck.out h
          omega
        · exact h
      obtain ⟨d, hdd⟩ : ∃ d, ds.getD i 0 = d := ⟨_, rfl⟩
      obtain ⟨f, hff⟩ : ∃ f, fs.getD i 0 = f := ⟨_, rfl⟩
      have hdr := digs_getD Hd.out i
      have hfr := digs_getD Hf.out i
      have hA := Hat.out i
      have hB := Hat2.out i
      rw [hdd] at hdr hA
      rw [hff] at hfr hB
      have hst := Lib.hid (hin.out.step hdd hff)
      obtain ⟨t, ht⟩ : ∃ t, (d + f + c) % 10 = t := ⟨_, rfl⟩
      rw [ht] at hst
      have t0 : 0 ≤ t := by omega
      have t1 : t < 10 := by omega
      have hw1 : IntKind.u8.wrap (48 + t) = 48 + t := by simp only [IntKind.wrap, IntKind.signed, IntKind.bits]; simp; omega
      have hrm : (d + f + c).tmod 10 = t := by rw [Int.tmod_eq_emod_of_nonneg (by omega)]; exact ht
      have hqu : (d + f + c).tdiv 10 = (d + f + c) / 10 := Int.tdiv_eq_ediv_of_nonneg (by omega)
      have hown2 := Lib.hid (hown.out.alloc (.cells #[.int .u8 (48 + t)] 5))
      have hck2 := Lib.hid (show gk - 1 = 0 → (d + f + c) / 10 = 0 by
        intro h
        have hiL : i = L := by omega
        have h4 : d = 0 := by
          rw [← hdd, List.getD_eq_getElem?_getD, List.getElem?_eq_none (by rw [Hl.out]; omega)]
          rfl
        have h5 : f = 0 := by
          rw [← hff, List.getD_eq_getElem?_getD, List.getElem?_eq_none (by rw [Hm.out]; omega)]
          rfl
        omega)
      have HA := Lib.hid hA
      have HB := Lib.hid hB
      clear ht hdd hff hA hB Hat Hat2
      by_cases hil : i < l
      · clear hgo
        go_wp2_with fail
        refine (HA.out wr (by omega)).mono ?_
        rintro e w' ⟨rfl, rfl⟩
        go_wp2_with fail
        refine (HB.out wr (by omega)).mono ?_
        rintro e w' ⟨rfl, rfl⟩
        go_wp2_with (at_builtin; refine wpList_append_own_at _ rfl _ _ 62 rfl w.heap.size 5 i0 (.int .u8 0) 1 1 Tryd.underlying62 hi hz0 hz1 hz2 rfl (by decide) u5 i (D8 es) rfl hown2.out ⟨wr.heap.size, 0, none⟩ 1 1 [.int .u8 (48 + t)] rfl ?c1 ?c2 ?c3 ?c4 ?c5 ?c6 ?_)
        case c1 => rfl
        case c2 => exact cell_one_new _ _ _
        case c3 =>
          intro u hu
          simp at hu
          subst hu
          rfl
        case c4 => unfold maxLen; omega
        case c5 => omega
        case c6 => have := hbl.out.size; simp; omega
        intro v' w2 hown3 hgrow _ hblk
        have hb2 := Lib.hid (own_push hown.out hbl.out hgrow)
        have ho2 := Lib.hid (show w2.ownsRow w.heap.size 5 1 v' (i + 1) (D8 (es ++ [t])) by rw [D8_snoc]; exact hown3)
        clear hown3 hgrow hblk
        go_wp2_with fail
        go_roundg (gk - 1)
        case measure => omega
        case rel => exact ⟨i + 1, (d + f + c) / 10, es ++ [t], by go_num, rfl, by omega, by omega, by omega, hck2, hst, ho2, hb2⟩
      · by_cases him : i < m
        · clear hgo
          go_wp2_with fail
          refine (HA.out wr (by omega)).mono ?_
          rintro e w' ⟨rfl, rfl⟩
          go_wp2_with fail
          refine (HB.out wr (by omega)).mono ?_
          rintro e w' ⟨rfl, rfl⟩
          go_wp2_with (at_builtin; refine wpList_append_own_at _ rfl _ _ 62 rfl w.heap.size 5 i0 (.int .u8 0) 1 1 Tryd.underlying62 hi hz0 hz1 hz2 rfl (by decide) u5 i (D8 es) rfl hown2.out ⟨wr.heap.size, 0, none⟩ 1 1 [.int .u8 (48 + t)] rfl ?c1 ?c2 ?c3 ?c4 ?c5 ?c6 ?_)
          case c1 => rfl
          case c2 => exact cell_one_new _ _ _
          case c3 =>
            intro u hu
            simp at hu
            subst hu
            rfl
          case c4 => unfold maxLen; omega
          case c5 => omega
          case c6 => have := hbl.out.size; simp; omega
          intro v' w2 hown3 hgrow _ hblk
          have hb2 := Lib.hid (own_push hown.out hbl.out hgrow)
          have ho2 := Lib.hid (show w2.ownsRow w.heap.size 5 1 v' (i + 1) (D8 (es ++ [t])) by rw [D8_snoc]; exact hown3)
          clear hown3 hgrow hblk
          go_wp2_with fail
          go_roundg (gk - 1)
          case measure => omega
          case rel => exact ⟨i + 1, (d + f + c) / 10, es ++ [t], by go_num, rfl, by omega, by omega, by omega, hck2, hst, ho2, hb2⟩
        · have hcp : 0 < c := by omega
          clear hgo
          go_wp2_with fail
          refine (HA.out wr (by omega)).mono ?_
          rintro e w' ⟨rfl, rfl⟩
          go_wp2_with fail
          refine (HB.out wr (by omega)).mono ?_
          rintro e w' ⟨rfl, rfl⟩
          go_wp2_with (at_builtin; refine wpList_append_own_at _ rfl _ _ 62 rfl w.heap.size 5 i0 (.int .u8 0) 1 1 Tryd.underlying62 hi hz0 hz1 hz2 rfl (by decide) u5 i (D8 es) rfl hown2.out ⟨wr.heap.size, 0, none⟩ 1 1 [.int .u8 (48 + t)] rfl ?c1 ?c2 ?c3 ?c4 ?c5 ?c6 ?_)
          case c1 => rfl
          case c2 => exact cell_one_new _ _ _
          case c3 =>
            intro u hu
            simp at hu
            subst hu
            rfl
          case c4 => unfold maxLen; omega
          case c5 => omega
          case c6 => have := hbl.out.size; simp; omega
          intro v' w2 hown3 hgrow _ hblk
          have hb2 := Lib.hid (own_push hown.out hbl.out hgrow)
          have ho2 := Lib.hid (show w2.ownsRow w.heap.size 5 1 v' (i + 1) (D8 (es ++ [t])) by rw [D8_snoc]; exact hown3)
          clear hown3 hgrow hblk
          go_wp2_with fail
          go_roundg (gk - 1)
          case measure => omega
          case rel => exact ⟨i + 1, (d + f + c) / 10, es ++ [t], by go_num, rfl, by omega, by omega, by omega, hck2, hst, ho2, hb2⟩
    · have hc00 : c = 0 := by omega
      have hil : l ≤ i := by omega
      have him : m ≤ i := by omega
      subst hc00
      have hfin := hin.out.done (by rw [Hl.out]; exact hil) (by rw [Hm.out]; exact him)
      have hes := hin.out.digs
      have hel := hin.out.len
      obtain ⟨g, cap, rfl, hgs, hcell⟩ := out_cells hown.out (by omega)
      have hR := reversed_any g cap (es.map fun d => 48 + d) wr hgs (by simp; omega) (by simp; omega) hcell
      rw [List.length_map, hel] at hR
      have HR := Lib.hid hR
      have hel2 : 0 < es.length ∧ es.length ≤ 1000000 := by omega
      have HT := Lib.hid (fun w => trim_dec es w hes hel2.1 hel2.2)
      have Hfin := Lib.hid hfin
      clear hR hcell hown hin hfin hck Hat Hat2
      go_wp2_with fail
      refine HR.out.mono ?_
      rintro e w2 ⟨rfl, hb2⟩
      go_wp2_with fail
      refine (HT.out w2).mono ?_
      rintro e w3 ⟨⟨s', rfl, hs'⟩, rfl⟩
      rw [Hfin.out] at hs'
      go_wp2_with fail
      go_ret
      exact ⟨⟨s', rfl, hs'⟩, hbl.out.trans (hb2.mono hbl.out.size)⟩

theorem refadd_str (a b : ByteArray) (A B : Int) (w : World) (ha : DecStr a A) (hb : DecStr b B) (hA : A < big) (hB : B < big) :
    Calls Tryd.prog 19 #[.string a, .string b] w fun e w' => (∃ s, e = .returned (.string s) ∧ DecStr s (A + B)) ∧ Below w.heap.size w w' := by
  obtain ⟨ds, hd, rfl⟩ := ha
  obtain ⟨es, he, rfl⟩ := hb
  have l1 := dec_small hd hA
  have l2 := dec_small he hB
  exact refadd_dec ds es (A + B) w hd.1 he.1 l1.1 (by omega) (by omega) (by rw [hd.2.1, he.2.1])
end Go.Proofs.YtondjnmpfpfpmaaDoor
