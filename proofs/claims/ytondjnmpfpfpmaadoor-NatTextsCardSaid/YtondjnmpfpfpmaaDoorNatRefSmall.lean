/- The reference's Small. -/
import Derived.Test.YtondjnmpfpfpmaaDoorNatRef
namespace Go.Proofs.YtondjnmpfpfpmaaDoor
open Go.RowKit NM

theorem dv_drop (ds : List Int) (i : Nat) : dv (ds.drop i) = ds.getD i 0 + 10 * dv (ds.drop (i + 1)) := by
  by_cases h : i < ds.length
  · rw [List.drop_eq_getElem_cons h, dv, List.getD_eq_getElem?_getD, List.getElem?_eq_getElem h]
    rfl
  · rw [List.drop_of_length_le (by omega), List.drop_of_length_le (by omega), List.getD_eq_getElem?_getD, List.getElem?_eq_none (by omega)]
    rfl
theorem digs_getD {ds : List Int} (h : Digs ds) (i : Nat) : 0 ≤ ds.getD i 0 ∧ ds.getD i 0 < 10 := by
  rw [List.getD_eq_getElem?_getD]
  by_cases hi : i < ds.length
  · rw [List.getElem?_eq_getElem hi]
    exact h _ (List.getElem_mem hi)
  · rw [List.getElem?_eq_none (by omega)]
    simp

/-- The state of Small's loop. -/
structure InSmall (ds : List Int) (by_ N : Int) (i : Nat) (c : Int) (es : List Int) : Prop where
  digs : Digs es
  len : es.length = i
  all : dv es + 10 ^ es.length * (c + by_ * dv (ds.drop i)) = N
theorem InSmall.step {ds : List Int} {by_ N : Int} {i : Nat} {c d n : Int} {es : List Int} (h : InSmall ds by_ N i c es) (hd : ds.getD i 0 = d) (hn : d * by_ + c = n) : InSmall ds by_ N (i + 1) (n / 10) (es ++ [n % 10]) := by
  have h1 := h.all
  rw [dv_drop, hd] at h1
  refine ⟨Digs_snoc h.digs (by omega) (by omega), by rw [List.length_append, h.len]; rfl, dec_step h1 ?_⟩
  rw [Int.mul_add, Int.mul_comm by_ d, ← Int.mul_assoc, Int.mul_comm by_ 10, Int.mul_assoc]
  omega
theorem InSmall.done {ds : List Int} {by_ N : Int} {i : Nat} {es : List Int} (h : InSmall ds by_ N i 0 es) (hi : ds.length ≤ i) : dv es = N := by
  have h1 := h.all
  rw [List.drop_of_length_le hi] at h1
  simpa [dv] using h1

set_option maxHeartbeats 1600000 in
set_option maxRecDepth 100000 in
theorem small_dec (ds : List Int) (by_ c0 N : Int) (w : World) (hd : Digs ds) (hn : 0 < ds.length) (hm : ds.length ≤ 100000) (b0 : 0 ≤ by_) (b1 : by_ ≤ 1099511627776) (m0 : 0 ≤ c0) (m1 : c0 ≤ 1099511627776) (hN : c0 + by_ * dv ds = N) :
    Calls Tryd.prog 30 #[.string (dstr ds), .int .i64 by_, .int .i64 c0] w fun e w' => (∃ s, e = .returned (.string s) ∧ DecStr s N) ∧ Below w.heap.size w w' := by
  obtain ⟨i0, hi, hz0, hz1, hz2⟩ := info_parts info_u8
  have hsz := dstr_size ds
  have HN := Lib.hid hN
  have Hd := Lib.hid hd
  clear hN hd
  obtain ⟨l, hl⟩ : ∃ l, ds.length = l := ⟨_, rfl⟩
  have Hl := Lib.hid hl
  rw [hl] at hn hm hsz
  clear hl
  obtain ⟨s, hs⟩ : ∃ s, dstr ds = s := ⟨_, rfl⟩
  have Hat := Lib.hid (fun (i : Nat) (w : World) (h : i ≤ 1000000) => at_dstr ds i w Hd.out (by rw [Hl.out]; omega) h)
  rw [hs] at hsz Hat ⊢
  clear hs
  go_enter Tryd.func30, Tryd.ntmps30
  go_wp2_with fail
  go_loopg [7, 8, 9, 10] (l + 13) (fun k vo vc vi _ wr => ∃ (i : Nat) (c : Int) (es : List Int), vi = .int .i64 i ∧ vc = .int .i64 c ∧ i + k = l + 13 ∧ 0 ≤ c ∧ c ≤ 1099511627776 ∧ Hid (k ≤ 13 → c < 10 ^ k) ∧ Hid (InSmall ds by_ N i c es) ∧ Hid (wr.ownsRow w.heap.size 5 1 vo i (D8 es)) ∧ Hid (Below w.heap.size w wr))
  case atStart =>
    refine ⟨0, c0, [], rfl, rfl, by omega, m0, m1, Lib.hid ?_, Lib.hid ⟨(fun _ h => by cases h), rfl, ?_⟩, Lib.hid ?_, Lib.hid ?_⟩
    · intro h; omega
    · have := HN.out; simpa [dv] using this
    · exact World.ownsRow_made w #[] 0 (Nat.le_refl _) (by unfold maxLen; omega) rfl
    · exact (Below.refl _ _).alloc (Nat.le_refl _) _
  case round =>
    obtain ⟨i, c, es, rfl, rfl, hik, hc0, hc1, hck, hin, hown, hbl⟩ := hrel
    by_cases hgo : i < l ∨ 0 < c
    · have hk0 : 0 < gk := by
        rcases Nat.eq_zero_or_pos gk with h | h
        · subst h
          have := hck.out (by omega)
          simp at this
          omega
        · exact h
      obtain ⟨d, hdd⟩ : ∃ d, ds.getD i 0 = d := ⟨_, rfl⟩
      have hdr := digs_getD Hd.out i
      have hA := Hat.out i
      rw [hdd] at hdr hA
      obtain ⟨P, hP⟩ : ∃ P, d * by_ = P := ⟨_, rfl⟩
      have p0 : 0 ≤ P := by rw [← hP]; exact Int.mul_nonneg hdr.1 b0
      have p1 : P ≤ 9 * by_ := by rw [← hP]; exact Int.mul_le_mul_of_nonneg_right (by omega) b0
      have hst := Lib.hid (hin.out.step hdd (show d * by_ + c = P + c by rw [hP]))
      obtain ⟨t, ht⟩ : ∃ t, (P + c) % 10 = t := ⟨_, rfl⟩
      rw [ht] at hst
      have t0 : 0 ≤ t := by omega
      have t1 : t < 10 := by omega
      have hw1 : IntKind.u8.wrap (48 + t) = 48 + t := by simp only [IntKind.wrap, IntKind.signed, IntKind.bits]; simp; omega
      have hrm : (P + c).tmod 10 = t := by rw [Int.tmod_eq_emod_of_nonneg (by omega)]; exact ht
      have hqu : (P + c).tdiv 10 = (P + c) / 10 := Int.tdiv_eq_ediv_of_nonneg (by omega)
      have hown2 := Lib.hid (hown.out.alloc (.cells #[.int .u8 (48 + t)] 5))
      have hck2 := Lib.hid (show gk - 1 ≤ 13 → (P + c) / 10 < 10 ^ (gk - 1) by
        intro h
        by_cases hil : i < l
        · have e : gk - 1 = 13 := by omega
          rw [e]
          have : (10 : Int) ^ 13 = 10000000000000 := by decide
          omega
        · have h1 := hck.out (by omega)
          have h2 := ten_succ (gk - 1)
          have h3 : gk - 1 + 1 = gk := by omega
          rw [h3] at h2
          have h4 : P = 0 := by
            have : d = 0 := by
              rw [← hdd, List.getD_eq_getElem?_getD, List.getElem?_eq_none (by rw [Hl.out]; omega)]
              rfl
            rw [← hP, this]
            simp
          omega)
      have HA := Lib.hid hA
      clear ht hdd hA Hat
      by_cases hil : i < l
      · go_wp2_with (first
          | (go_at_call 39; refine (HA.out wr (by omega)).mono ?_; rintro e w' ⟨rfl, rfl⟩)
          | (at_builtin; refine wpList_append_own_at _ rfl _ _ 62 rfl w.heap.size 5 i0 (.int .u8 0) 1 1 Tryd.underlying62 hi hz0 hz1 hz2 rfl (by decide) u7 i (D8 es) rfl hown2.out ⟨wr.heap.size, 0, none⟩ 1 1 [.int .u8 (48 + t)] rfl ?c1 ?c2 ?c3 ?c4 ?c5 ?c6 ?_))
        case c1 => rfl
        case c2 => exact cell_one_new _ _ _
        case c3 =>
          intro u hu
          simp at hu
          subst hu
          rfl
        case c4 => unfold maxLen; omega
        case c5 => omega
        case c6 => have := hbl.out.size; simp; omega
        intro v' w2 hown3 hgrow _ hblk
        have hb2 := Lib.hid (own_push hown.out hbl.out hgrow)
        have ho2 := Lib.hid (show w2.ownsRow w.heap.size 5 1 v' (i + 1) (D8 (es ++ [t])) by rw [D8_snoc]; exact hown3)
        clear hown3 hgrow hblk
        go_wp2_with fail
        go_roundg (gk - 1)
        case measure => omega
        case rel => exact ⟨i + 1, (P + c) / 10, es ++ [t], by go_num, rfl, by omega, by omega, by omega, hck2, hst, ho2, hb2⟩
      · have hcp : 0 < c := by omega
        clear hgo
        go_wp2_with (first
          | (go_at_call 39; refine (HA.out wr (by omega)).mono ?_; rintro e w' ⟨rfl, rfl⟩)
          | (at_builtin; refine wpList_append_own_at _ rfl _ _ 62 rfl w.heap.size 5 i0 (.int .u8 0) 1 1 Tryd.underlying62 hi hz0 hz1 hz2 rfl (by decide) u7 i (D8 es) rfl hown2.out ⟨wr.heap.size, 0, none⟩ 1 1 [.int .u8 (48 + t)] rfl ?c1 ?c2 ?c3 ?c4 ?c5 ?c6 ?_))
        case c1 => rfl
        case c2 => exact cell_one_new _ _ _
        case c3 =>
          intro u hu
          simp at hu
          subst hu
          rfl
        case c4 => unfold maxLen; omega
        case c5 => omega
        case c6 => have := hbl.out.size; simp; omega
        intro v' w2 hown3 hgrow _ hblk
        have hb2 := Lib.hid (own_push hown.out hbl.out hgrow)
        have ho2 := Lib.hid (show w2.ownsRow w.heap.size 5 1 v' (i + 1) (D8 (es ++ [t])) by rw [D8_snoc]; exact hown3)
        clear hown3 hgrow hblk
        go_wp2_with fail
        go_roundg (gk - 1)
        case measure => omega
        case rel => exact ⟨i + 1, (P + c) / 10, es ++ [t], by go_num, rfl, by omega, by omega, by omega, hck2, hst, ho2, hb2⟩
    · have hc00 : c = 0 := by omega
      have hil : l ≤ i := by omega
      subst hc00
      have hfin := hin.out.done (by rw [Hl.out]; exact hil)
      have hes := hin.out.digs
      have hel := hin.out.len
      obtain ⟨ho1, ho2⟩ := hown.out
      rcases ho2 with ⟨rfl, h0⟩ | ⟨g, cap, cur, rfl, hg, hcur, hcap1, hcap2, hcs, htk⟩
      · exfalso; omega
      · have hgs : g < wr.heap.size := lt_of_block hcur
        have hcell : ∀ j (hj : j < (es.map fun d => 48 + d).length), wr.cell? ⟨g, j, none⟩ = some (.int .u8 ((es.map fun d => 48 + d)[j])) := by
          intro j hj
          have hj' : j < es.length := by simpa using hj
          simp only [World.cell?, hcur, Option.isSome_none, Bool.false_eq_true, if_false]
          have e : cur[j]? = (cur.toList.take (i * 1))[j]? := by
            rw [List.getElem?_take_of_lt (by omega)]
            simp
          rw [e, htk]
          simp [D8, hj']
        have hR := reversed_any g cap (es.map fun d => 48 + d) wr hgs (by simp; omega) (by simp; omega) hcell
        rw [List.length_map, hel] at hR
        have HR := Lib.hid hR
        have hel2 : 0 < es.length ∧ es.length ≤ 1000000 := by omega
        have HT := Lib.hid (fun w => trim_dec es w hes hel2.1 hel2.2)
        have Hfin := Lib.hid hfin
        have hi0 : ((i : Int) == 0) = false := by rw [beq_eq_false_iff_ne]; omega
        clear hR hcell hcur hcs htk ho1 hown hin hfin hck Hat
        go_wp2_with fail
        refine HR.out.mono ?_
        rintro e w2 ⟨rfl, hb2⟩
        go_wp2_with fail
        refine (HT.out w2).mono ?_
        rintro e w3 ⟨⟨s', rfl, hs'⟩, rfl⟩
        rw [Hfin.out] at hs'
        go_wp2_with fail
        go_ret
        exact ⟨⟨s', rfl, hs'⟩, hbl.out.trans (hb2.mono hbl.out.size)⟩
end Go.Proofs.YtondjnmpfpfpmaaDoor
