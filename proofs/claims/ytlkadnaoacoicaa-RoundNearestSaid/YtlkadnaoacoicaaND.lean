/- The numbers of nat and of its reference, for this seat: XNatRef, XNatRefSmall, XNatRefText, XNatRefCmp, XNatRefIs, XNatRefAdd. -/
import Derived.Test.YtlkadnaoacoicaaNC
namespace Go.Proofs.Ytlkadnaoacoicaa
open Go.RowKit NM

/-- The text of digits, the least first in the list. -/
def dstr (ds : List Int) : ByteArray := strOfNums (ds.map fun d => 48 + d).reverse
theorem dstr_size (ds : List Int) : (dstr ds).size = ds.length := by
  unfold dstr
  rw [strOfNums_size]
  simp
theorem nums_byte {es : List Int} {k : Nat} (hk : k < es.length) (h0 : 0 ≤ es[k]) (h1 : es[k] < 256) : (((strOfNums es)[k]'(by rw [strOfNums_size]; exact hk)).toNat : Int) = es[k] := by
  show (((strOfNums es).data[k]'(by simpa [strOfNums] using hk)).toNat : Int) = es[k]
  simp only [strOfNums, List.getElem_toArray, List.getElem_map]
  rw [UInt8.toNat_ofNat']
  omega
theorem dstr_byte {ds : List Int} (hd : Digs ds) {k i : Nat} (hi : i < ds.length) (hk : k + 1 + i = (dstr ds).size) : (((dstr ds)[k]'(by omega)).toNat : Int) = 48 + ds[i] := by
  have hs := dstr_size ds
  have hk' : k < ((ds.map fun d => 48 + d).reverse).length := by simp; omega
  have he : ((ds.map fun d => 48 + d).reverse)[k] = 48 + ds[i] := by
    rw [List.getElem_reverse]
    simp only [List.getElem_map, List.length_map]
    have e : ds.length - 1 - k = i := by omega
    simp only [e]
  have hm := hd _ (List.getElem_mem hi)
  have h := nums_byte hk' (by rw [he]; omega) (by rw [he]; omega)
  rw [he] at h
  exact h

set_option maxHeartbeats 400000 in
set_option maxRecDepth 100000 in
theorem at_far (s : ByteArray) (i : Nat) (w : World) (h : s.size ≤ i) (_hi : i ≤ 1000000) :
    Calls Try.prog 44 #[.string s, .int .i64 (i : Int)] w fun e w' => e = .returned (.int .i64 0) ∧ w = w' := by
  go_enter Try.func44, Try.ntmps44
  go_wp2_with fail
  go_ret
  exact ⟨rfl, rfl⟩

set_option maxHeartbeats 400000 in
set_option maxRecDepth 100000 in
theorem at_in (s : ByteArray) (i k : Nat) (w : World) (hk : k + 1 + i = s.size) (hs : s.size ≤ 1000000) (h48 : 48 ≤ ((s[k]'(by omega)).toNat : Int)) :
    Calls Try.prog 44 #[.string s, .int .i64 (i : Int)] w fun e w' => e = .returned (.int .i64 (((s[k]'(by omega)).toNat : Int) - 48)) ∧ w = w' := by
  have hlt : k < s.size := by omega
  have hb := UInt8.toNat_lt (s[k]'hlt)
  have e1 : (s.size : Int) - 1 - (i : Int) = (k : Int) := by omega
  go_enter Try.func44, Try.ntmps44
  go_wp2_with fail
  go_ret
  refine ⟨ret_int ?_, rfl⟩
  omega

theorem at_dstr (ds : List Int) (i : Nat) (w : World) (hd : Digs ds) (hs : ds.length ≤ 1000000) (hi : i ≤ 1000000) :
    Calls Try.prog 44 #[.string (dstr ds), .int .i64 (i : Int)] w fun e w' => e = .returned (.int .i64 (ds.getD i 0)) ∧ w = w' := by
  have hz := dstr_size ds
  by_cases h : i < ds.length
  · have hb := dstr_byte hd h (show (ds.length - 1 - i) + 1 + i = (dstr ds).size by omega)
    have hm := hd _ (List.getElem_mem h)
    refine (at_in (dstr ds) i (ds.length - 1 - i) w (by omega) (by omega) (by rw [hb]; omega)).mono ?_
    rintro e w' ⟨rfl, rfl⟩
    refine ⟨ret_int ?_, rfl⟩
    rw [hb]
    simp [List.getD_eq_getElem?_getD, h]
    omega
  · refine (at_far (dstr ds) i w (by omega) hi).mono ?_
    rintro e w' ⟨rfl, rfl⟩
    refine ⟨ret_int ?_, rfl⟩
    simp [List.getD_eq_getElem?_getD, List.getElem?_eq_none (show ds.length ≤ i by omega)]

/-- Bytes in a row of the call's own. -/
def B8 (es : List Int) : List Value := es.map (Value.int .u8)
theorem own_push {w0 wr w2 : World} {vo : Value} {n : Nat} {xs : List Value} {x : Value} (hown : wr.ownsRow w0.heap.size 5 1 vo n xs) (hbl : Below w0.heap.size w0 wr)
    (hg : (wr.alloc (.cells #[x] 5)).grownBy w2 vo.ownBlock) : Below w0.heap.size w0 w2 :=
  (hbl.alloc hbl.size _).grown hg (by have := hbl.size; simp; omega) (fun k hk => (hown.lt k hk).1)
/-- The text of a row of bytes of the call's own. -/
theorem own_text {w : World} {base n : Nat} {v : Value} {es : List Int} (h : w.ownsRow base 5 1 v n (B8 es)) (hn : 0 < n) :
    ∃ g cap, v = .slice (some ⟨g, 0, none⟩) n cap ∧ (convert 77 9 (.slice (some ⟨g, 0, none⟩) n cap)).run Try.prog w = .ok (.string (strOfNums es)) w := by
  obtain ⟨h1, h2⟩ := h
  have hl : es.length = n := by simpa [B8] using h1
  rcases h2 with ⟨rfl, h0⟩ | ⟨g, cap, cur, rfl, hg, hcur, hcap1, hcap2, hcs, htk⟩
  · omega
  · refine ⟨g, cap, rfl, ?_⟩
    refine run_convert_bytes_arg w 77 5 Try.underlying77 Try.underlying5 g 0 n cap es hl (fun i hi => ?_) 9 Try.underlying9
    rw [Nat.zero_add]
    simp only [World.cell?, hcur, Option.isSome_none, Bool.false_eq_true, if_false]
    have e : cur[i]? = (cur.toList.take (n * 1))[i]? := by
      rw [List.getElem?_take_of_lt (by omega)]
      simp
    rw [e, htk]
    simp [B8, hl, hi]

theorem drop_rev {es : List Int} {k : Nat} (hk : k < es.length) : (es.drop k).reverse = (es.drop (k + 1)).reverse ++ [es[k]] := by
  rw [List.drop_eq_getElem_cons hk, List.reverse_cons]

set_option maxHeartbeats 1600000 in
set_option maxRecDepth 100000 in
theorem reversed_any (g cap : Nat) (es : List Int) (w : World) (hg : g < w.heap.size) (hn : 0 < es.length) (hm : es.length ≤ 1000000) (hc : ∀ j (hj : j < es.length), w.cell? ⟨g, j, none⟩ = some (.int .u8 es[j])) :
    Calls Try.prog 46 #[.slice (some ⟨g, 0, none⟩) es.length cap] w fun e w' => e = .returned (.string (strOfNums es.reverse)) ∧ Below w.heap.size w w' := by
  obtain ⟨i0, hi, hz0, hz1, hz2⟩ := info_parts info_u8
  obtain ⟨n, hnn⟩ : ∃ n, es.length = n := ⟨_, rfl⟩
  rw [hnn] at hn hm ⊢
  have Hc := Lib.hid hc
  have Hn := Lib.hid hnn
  clear hc hnn
  go_enter Try.func46, Try.ntmps46
  go_wp2_with fail
  go_loopw [3, 4] (fun vo i wr => ∃ k : Nat, k ≤ n ∧ i = .int .i64 ((k : Int) - 1) ∧ Hid (wr.ownsRow w.heap.size 5 1 vo (n - k) (B8 (es.drop k).reverse)) ∧ Hid (Below w.heap.size w wr)) (fun _ i _ => (intOf i + 1).toNat)
  case atStart => exact ⟨n, Nat.le_refl _, rfl, Lib.hid (by rw [Nat.sub_self, List.drop_of_length_le (by rw [Hn.out]; omega)]; exact World.ownsRow_made w #[] 0 (Nat.le_refl _) (by unfold maxLen; omega) rfl), Lib.hid ((Below.refl _ _).alloc (Nat.le_refl _) _)⟩
  case round =>
    obtain ⟨k, hk, rfl, hown, hbl⟩ := hrel
    cases k with
    | zero =>
      have h1 := hown.out
      rw [List.drop_zero, Nat.sub_zero] at h1
      obtain ⟨g2, cap2, rfl, hconv⟩ := own_text h1 hn
      clear h1
      go_wp2_with fail
      go_ret
      exact ⟨rfl, hbl.out⟩
    | succ k =>
      have e1 : ((k + 1 : Nat) : Int) - 1 = k := by omega
      rw [e1]
      clear e1
      have hke : k < es.length := by rw [Hn.out]; omega
      obtain ⟨x, hx⟩ : ∃ x, es[k] = x := ⟨_, rfl⟩
      have hck : wr.cell? ⟨g, k, none⟩ = some (.int .u8 x) := by
        rw [hbl.out.cell (p := ⟨g, k, none⟩) hg, Hc.out k hke, hx]
      have hown2 := Lib.hid (hown.out.alloc (.cells #[.int .u8 x] 5))
      have hdr := Lib.hid (drop_rev hke)
      rw [hx] at hdr
      clear hke hx
      go_wp2_with (at_builtin; refine wpList_append_own_at _ rfl _ _ 77 rfl w.heap.size 5 i0 (.int .u8 0) 1 1 Try.underlying77 hi hz0 hz1 hz2 rfl (by decide) u3 (n - (k + 1)) (B8 (es.drop (k + 1)).reverse) rfl hown2.out ⟨wr.heap.size, 0, none⟩ 1 1 [.int .u8 x] rfl ?c1 ?c2 ?c3 ?c4 ?c5 ?c6 ?_)
      case c1 => rfl
      case c2 => exact cell_one_new _ _ _
      case c3 =>
        intro u hu
        simp at hu
        subst hu
        rfl
      case c4 => unfold maxLen; omega
      case c5 => omega
      case c6 => have := hbl.out.size; simp; omega
      intro v' w2 hown3 hgrow _ hblk
      have hb2 := Lib.hid (own_push hown.out hbl.out hgrow)
      have ho2 := Lib.hid (show w2.ownsRow w.heap.size 5 1 v' (n - k) (B8 (es.drop k).reverse) by
        rw [hdr.out, B8, List.map_append, show n - k = n - (k + 1) + 1 by omega]
        exact hown3)
      clear hown3 hgrow hblk
      go_wp2_with fail
      go_roundw
      case rel => exact ⟨k, by omega, by go_num, ho2, hb2⟩
      case measure => simp [intOf]

theorem dv_take_succ {ds : List Int} {k : Nat} (hk : k < ds.length) : dv (ds.take (k + 1)) = dv (ds.take k) + 10 ^ k * ds[k] := by
  rw [List.take_succ_eq_append_getElem hk, dv_snoc, List.length_take, Nat.min_eq_left (by omega)]
theorem Digs_take {ds : List Int} (h : Digs ds) (k : Nat) : Digs (ds.take k) := fun d hd => h d (List.mem_of_mem_take hd)
theorem trim_end {ds : List Int} {k : Nat} (hd : Digs ds) (h0 : 0 < k) (hk : k ≤ ds.length) (hv : dv (ds.take k) = dv ds) (he : k = 1 ∨ ds.getD (k - 1) 0 ≠ 0) : Dec (ds.take k) (dv ds) := by
  refine ⟨Digs_take hd k, hv, ?_⟩
  obtain ⟨j, rfl⟩ : ∃ j, k = j + 1 := ⟨k - 1, by omega⟩
  have hj : j < ds.length := by omega
  have h1 := dv_take_succ hj
  have hm := hd _ (List.getElem_mem hj)
  have hr := dv_range (Digs_take hd j)
  have hl : (ds.take (j + 1)).length = j + 1 := by rw [List.length_take]; omega
  by_cases hz : ds[j] = 0
  · rcases he with he | he
    · left
      obtain rfl : j = 0 := by omega
      have e : ds.take 1 = [0] := by
        rw [List.take_succ_eq_append_getElem hj, hz]
        rfl
      rw [Nat.zero_add] at hv ⊢
      rw [e] at hv ⊢
      exact ⟨by rw [← hv]; rfl, rfl⟩
    · exfalso
      apply he
      rw [Nat.add_sub_cancel, List.getD_eq_getElem?_getD, List.getElem?_eq_getElem hj]
      exact hz
  · right
    rw [hl]
    refine ⟨by omega, ?_⟩
    rw [← hv, h1, Nat.add_sub_cancel]
    have h2 := ten_pos j
    have h3 : (10 : Int) ^ j * 1 ≤ 10 ^ j * ds[j] := Int.mul_le_mul_of_nonneg_left (by omega) (by omega)
    omega

theorem dstr_snoc (ds : List Int) (x : Int) : dstr (ds ++ [x]) = ⟨#[UInt8.ofNat (48 + x).toNat]⟩ ++ dstr ds := by
  apply ByteArray.ext
  simp [dstr, strOfNums]
theorem dstr_cut {ds : List Int} {j : Nat} (hj : j < ds.length) : (dstr (ds.take (j + 1))).extract 1 (j + 1) = dstr (ds.take j) := by
  rw [List.take_succ_eq_append_getElem hj, dstr_snoc]
  have hs : (dstr (ds.take j)).size = j := by rw [dstr_size, List.length_take]; omega
  apply ByteArray.ext
  have h2 : (dstr (ds.take j)).data.size = j := hs
  rw [ByteArray.data_extract, ByteArray.data_append]
  show (#[UInt8.ofNat (48 + ds[j]).toNat] ++ (dstr (ds.take j)).data).extract 1 (j + 1) = (dstr (ds.take j)).data
  rw [Array.extract_append]
  simp
  omega

set_option maxHeartbeats 1600000 in
set_option maxRecDepth 100000 in
theorem trim_dec (ds : List Int) (w : World) (hd : Digs ds) (hn : 0 < ds.length) (_hm : ds.length ≤ 1000000) :
    Calls Try.prog 45 #[.string (dstr ds)] w fun e w' => (∃ s, e = .returned (.string s) ∧ DecStr s (dv ds)) ∧ w = w' := by
  go_enter Try.func45, Try.ntmps45
  go_wp2_with fail
  go_loopg [0] ds.length (fun k s wr => 0 < k ∧ k ≤ ds.length ∧ s = .string (dstr (ds.take k)) ∧ Hid (dv (ds.take k) = dv ds) ∧ wr = w)
  case atStart => exact ⟨hn, Nat.le_refl _, by rw [List.take_length], Lib.hid (by rw [List.take_length]), rfl⟩
  case round =>
    obtain ⟨h0, hk, rfl, hv, rfl⟩ := hrel
    have hsz : (dstr (ds.take gk)).size = gk := by rw [dstr_size, List.length_take]; omega
    have hb0 := dstr_byte (Digs_take hd gk) (i := gk - 1) (k := 0) (by rw [List.length_take]; omega) (by omega)
    have hgd : (ds.take gk)[gk - 1]'(by rw [List.length_take]; omega) = ds.getD (gk - 1) 0 := by
      rw [List.getElem_take, List.getD_eq_getElem?_getD, List.getElem?_eq_getElem (show gk - 1 < ds.length by omega)]
      rfl
    rw [hgd] at hb0
    obtain ⟨d, hdd⟩ : ∃ d, ds.getD (gk - 1) 0 = d := ⟨_, rfl⟩
    rw [hdd] at hb0
    clear hgd
    have hcut : d = 0 → 1 < gk → Hid (dv (ds.take (gk - 1)) = dv ds) ∧ Hid ((dstr (ds.take gk)).extract 1 gk = dstr (ds.take (gk - 1))) := by
      intro hz h1
      obtain ⟨j, rfl⟩ : ∃ j, gk = j + 1 := ⟨gk - 1, by omega⟩
      rw [Nat.add_sub_cancel] at hdd ⊢
      have hj : j < ds.length := by omega
      have h2 := dv_take_succ hj
      have h3 : ds[j] = 0 := by
        rw [← hz, ← hdd, List.getD_eq_getElem?_getD, List.getElem?_eq_getElem hj]
        rfl
      rw [h3] at h2
      refine ⟨Lib.hid (by rw [← hv.out, h2]; omega), Lib.hid ?_⟩
      exact dstr_cut hj
    have Hdd := Lib.hid hdd
    clear hdd
    obtain ⟨t, Ht, htz, hb⟩ : ∃ t, Hid (dstr (ds.take gk) = t) ∧ ∃ h : t.size = gk, ((t[0]'(by omega)).toNat : Int) = 48 + d := ⟨_, Lib.hid rfl, hsz, hb0⟩
    rw [Ht.out] at hcut ⊢
    clear hb0
    by_cases h1 : 1 < gk
    · by_cases hz : d = 0
      · obtain ⟨hv2, hc2⟩ := hcut hz h1
        subst hz
        clear hcut
        go_wp2_with fail
        rw [hc2.out]
        go_roundg (gk - 1)
        case measure => omega
        case rel => exact ⟨by omega, by omega, rfl, hv2, rfl⟩
      · have hend := Lib.hid (trim_end hd h0 hk hv.out (.inr (by rw [Hdd.out]; exact hz)))
        have hne : (48 + d == 48) = false := by rw [beq_eq_false_iff_ne]; omega
        clear hcut
        go_wp2_with fail
        go_ret
        exact ⟨⟨t, rfl, _, hend.out, by rw [← Ht.out]; rfl⟩, rfl⟩
    · have hend := Lib.hid (trim_end hd h0 hk hv.out (.inl (by omega)))
      clear hcut
      go_wp2_with fail
      go_ret
      exact ⟨⟨t, rfl, _, hend.out, by rw [← Ht.out]; rfl⟩, rfl⟩
end Go.Proofs.Ytlkadnaoacoicaa

namespace Go.Proofs.Ytlkadnaoacoicaa
open Go.RowKit NM

theorem dv_drop (ds : List Int) (i : Nat) : dv (ds.drop i) = ds.getD i 0 + 10 * dv (ds.drop (i + 1)) := by
  by_cases h : i < ds.length
  · rw [List.drop_eq_getElem_cons h, dv, List.getD_eq_getElem?_getD, List.getElem?_eq_getElem h]
    rfl
  · rw [List.drop_of_length_le (by omega), List.drop_of_length_le (by omega), List.getD_eq_getElem?_getD, List.getElem?_eq_none (by omega)]
    rfl
theorem digs_getD {ds : List Int} (h : Digs ds) (i : Nat) : 0 ≤ ds.getD i 0 ∧ ds.getD i 0 < 10 := by
  rw [List.getD_eq_getElem?_getD]
  by_cases hi : i < ds.length
  · rw [List.getElem?_eq_getElem hi]
    exact h _ (List.getElem_mem hi)
  · rw [List.getElem?_eq_none (by omega)]
    simp

/-- The state of Small's loop. -/
structure InSmall (ds : List Int) (by_ N : Int) (i : Nat) (c : Int) (es : List Int) : Prop where
  digs : Digs es
  len : es.length = i
  all : dv es + 10 ^ es.length * (c + by_ * dv (ds.drop i)) = N
theorem InSmall.step {ds : List Int} {by_ N : Int} {i : Nat} {c d n : Int} {es : List Int} (h : InSmall ds by_ N i c es) (hd : ds.getD i 0 = d) (hn : d * by_ + c = n) : InSmall ds by_ N (i + 1) (n / 10) (es ++ [n % 10]) := by
  have h1 := h.all
  rw [dv_drop, hd] at h1
  refine ⟨Digs_snoc h.digs (by omega) (by omega), by rw [List.length_append, h.len]; rfl, dec_step h1 ?_⟩
  rw [Int.mul_add, Int.mul_comm by_ d, ← Int.mul_assoc, Int.mul_comm by_ 10, Int.mul_assoc]
  omega
theorem InSmall.done {ds : List Int} {by_ N : Int} {i : Nat} {es : List Int} (h : InSmall ds by_ N i 0 es) (hi : ds.length ≤ i) : dv es = N := by
  have h1 := h.all
  rw [List.drop_of_length_le hi] at h1
  simpa [dv] using h1

set_option maxHeartbeats 1600000 in
set_option maxRecDepth 100000 in
theorem small_dec (ds : List Int) (by_ c0 N : Int) (w : World) (hd : Digs ds) (hn : 0 < ds.length) (hm : ds.length ≤ 100000) (b0 : 0 ≤ by_) (b1 : by_ ≤ 1099511627776) (m0 : 0 ≤ c0) (m1 : c0 ≤ 1099511627776) (hN : c0 + by_ * dv ds = N) :
    Calls Try.prog 26 #[.string (dstr ds), .int .i64 by_, .int .i64 c0] w fun e w' => (∃ s, e = .returned (.string s) ∧ DecStr s N) ∧ Below w.heap.size w w' := by
  obtain ⟨i0, hi, hz0, hz1, hz2⟩ := info_parts info_u8
  have hsz := dstr_size ds
  have HN := Lib.hid hN
  have Hd := Lib.hid hd
  clear hN hd
  obtain ⟨l, hl⟩ : ∃ l, ds.length = l := ⟨_, rfl⟩
  have Hl := Lib.hid hl
  rw [hl] at hn hm hsz
  clear hl
  obtain ⟨s, hs⟩ : ∃ s, dstr ds = s := ⟨_, rfl⟩
  have Hat := Lib.hid (fun (i : Nat) (w : World) (h : i ≤ 1000000) => at_dstr ds i w Hd.out (by rw [Hl.out]; omega) h)
  rw [hs] at hsz Hat ⊢
  clear hs
  go_enter Try.func26, Try.ntmps26
  go_wp2_with fail
  go_loopg [7, 8, 9, 10] (l + 13) (fun k vo vc vi _ wr => ∃ (i : Nat) (c : Int) (es : List Int), vi = .int .i64 i ∧ vc = .int .i64 c ∧ i + k = l + 13 ∧ 0 ≤ c ∧ c ≤ 1099511627776 ∧ Hid (k ≤ 13 → c < 10 ^ k) ∧ Hid (InSmall ds by_ N i c es) ∧ Hid (wr.ownsRow w.heap.size 5 1 vo i (D8 es)) ∧ Hid (Below w.heap.size w wr))
  case atStart =>
    refine ⟨0, c0, [], rfl, rfl, by omega, m0, m1, Lib.hid ?_, Lib.hid ⟨(fun _ h => by cases h), rfl, ?_⟩, Lib.hid ?_, Lib.hid ?_⟩
    · intro h; omega
    · have := HN.out; simpa [dv] using this
    · exact World.ownsRow_made w #[] 0 (Nat.le_refl _) (by unfold maxLen; omega) rfl
    · exact (Below.refl _ _).alloc (Nat.le_refl _) _
  case round =>
    obtain ⟨i, c, es, rfl, rfl, hik, hc0, hc1, hck, hin, hown, hbl⟩ := hrel
    by_cases hgo : i < l ∨ 0 < c
    · have hk0 : 0 < gk := by
        rcases Nat.eq_zero_or_pos gk with h | h
        · subst h
          have := hck.out (by omega)
          simp at this
          omega
        · exact h
      obtain ⟨d, hdd⟩ : ∃ d, ds.getD i 0 = d := ⟨_, rfl⟩
      have hdr := digs_getD Hd.out i
      have hA := Hat.out i
      rw [hdd] at hdr hA
      obtain ⟨P, hP⟩ : ∃ P, d * by_ = P := ⟨_, rfl⟩
      have p0 : 0 ≤ P := by rw [← hP]; exact Int.mul_nonneg hdr.1 b0
      have p1 : P ≤ 9 * by_ := by rw [← hP]; exact Int.mul_le_mul_of_nonneg_right (by omega) b0
      have hst := Lib.hid (hin.out.step hdd (show d * by_ + c = P + c by rw [hP]))
      obtain ⟨t, ht⟩ : ∃ t, (P + c) % 10 = t := ⟨_, rfl⟩
      rw [ht] at hst
      have t0 : 0 ≤ t := by omega
      have t1 : t < 10 := by omega
      have hw1 : IntKind.u8.wrap (48 + t) = 48 + t := by simp only [IntKind.wrap, IntKind.signed, IntKind.bits]; simp; omega
      have hrm : (P + c).tmod 10 = t := by rw [Int.tmod_eq_emod_of_nonneg (by omega)]; exact ht
      have hqu : (P + c).tdiv 10 = (P + c) / 10 := Int.tdiv_eq_ediv_of_nonneg (by omega)
      have hown2 := Lib.hid (hown.out.alloc (.cells #[.int .u8 (48 + t)] 5))
      have hck2 := Lib.hid (show gk - 1 ≤ 13 → (P + c) / 10 < 10 ^ (gk - 1) by
        intro h
        by_cases hil : i < l
        · have e : gk - 1 = 13 := by omega
          rw [e]
          have : (10 : Int) ^ 13 = 10000000000000 := by decide
          omega
        · have h1 := hck.out (by omega)
          have h2 := ten_succ (gk - 1)
          have h3 : gk - 1 + 1 = gk := by omega
          rw [h3] at h2
          have h4 : P = 0 := by
            have : d = 0 := by
              rw [← hdd, List.getD_eq_getElem?_getD, List.getElem?_eq_none (by rw [Hl.out]; omega)]
              rfl
            rw [← hP, this]
            simp
          omega)
      have HA := Lib.hid hA
      clear ht hdd hA Hat
      by_cases hil : i < l
      · go_wp2_with (first
          | (go_at_call 44; refine (HA.out wr (by omega)).mono ?_; rintro e w' ⟨rfl, rfl⟩)
          | (at_builtin; refine wpList_append_own_at _ rfl _ _ 77 rfl w.heap.size 5 i0 (.int .u8 0) 1 1 Try.underlying77 hi hz0 hz1 hz2 rfl (by decide) u7 i (D8 es) rfl hown2.out ⟨wr.heap.size, 0, none⟩ 1 1 [.int .u8 (48 + t)] rfl ?c1 ?c2 ?c3 ?c4 ?c5 ?c6 ?_))
        case c1 => rfl
        case c2 => exact cell_one_new _ _ _
        case c3 =>
          intro u hu
          simp at hu
          subst hu
          rfl
        case c4 => unfold maxLen; omega
        case c5 => omega
        case c6 => have := hbl.out.size; simp; omega
        intro v' w2 hown3 hgrow _ hblk
        have hb2 := Lib.hid (own_push hown.out hbl.out hgrow)
        have ho2 := Lib.hid (show w2.ownsRow w.heap.size 5 1 v' (i + 1) (D8 (es ++ [t])) by rw [D8_snoc]; exact hown3)
        clear hown3 hgrow hblk
        go_wp2_with fail
        go_roundg (gk - 1)
        case measure => omega
        case rel => exact ⟨i + 1, (P + c) / 10, es ++ [t], by go_num, rfl, by omega, by omega, by omega, hck2, hst, ho2, hb2⟩
      · have hcp : 0 < c := by omega
        clear hgo
        go_wp2_with (first
          | (go_at_call 44; refine (HA.out wr (by omega)).mono ?_; rintro e w' ⟨rfl, rfl⟩)
          | (at_builtin; refine wpList_append_own_at _ rfl _ _ 77 rfl w.heap.size 5 i0 (.int .u8 0) 1 1 Try.underlying77 hi hz0 hz1 hz2 rfl (by decide) u7 i (D8 es) rfl hown2.out ⟨wr.heap.size, 0, none⟩ 1 1 [.int .u8 (48 + t)] rfl ?c1 ?c2 ?c3 ?c4 ?c5 ?c6 ?_))
        case c1 => rfl
        case c2 => exact cell_one_new _ _ _
        case c3 =>
          intro u hu
          simp at hu
          subst hu
          rfl
        case c4 => unfold maxLen; omega
        case c5 => omega
        case c6 => have := hbl.out.size; simp; omega
        intro v' w2 hown3 hgrow _ hblk
        have hb2 := Lib.hid (own_push hown.out hbl.out hgrow)
        have ho2 := Lib.hid (show w2.ownsRow w.heap.size 5 1 v' (i + 1) (D8 (es ++ [t])) by rw [D8_snoc]; exact hown3)
        clear hown3 hgrow hblk
        go_wp2_with fail
        go_roundg (gk - 1)
        case measure => omega
        case rel => exact ⟨i + 1, (P + c) / 10, es ++ [t], by go_num, rfl, by omega, by omega, by omega, hck2, hst, ho2, hb2⟩
    · have hc00 : c = 0 := by omega
      have hil : l ≤ i := by omega
      subst hc00
      have hfin := hin.out.done (by rw [Hl.out]; exact hil)
      have hes := hin.out.digs
      have hel := hin.out.len
      obtain ⟨ho1, ho2⟩ := hown.out
      rcases ho2 with ⟨rfl, h0⟩ | ⟨g, cap, cur, rfl, hg, hcur, hcap1, hcap2, hcs, htk⟩
      · exfalso; omega
      · have hgs : g < wr.heap.size := lt_of_block hcur
        have hcell : ∀ j (hj : j < (es.map fun d => 48 + d).length), wr.cell? ⟨g, j, none⟩ = some (.int .u8 ((es.map fun d => 48 + d)[j])) := by
          intro j hj
          have hj' : j < es.length := by simpa using hj
          simp only [World.cell?, hcur, Option.isSome_none, Bool.false_eq_true, if_false]
          have e : cur[j]? = (cur.toList.take (i * 1))[j]? := by
            rw [List.getElem?_take_of_lt (by omega)]
            simp
          rw [e, htk]
          simp [D8, hj']
        have hR := reversed_any g cap (es.map fun d => 48 + d) wr hgs (by simp; omega) (by simp; omega) hcell
        rw [List.length_map, hel] at hR
        have HR := Lib.hid hR
        have hel2 : 0 < es.length ∧ es.length ≤ 1000000 := by omega
        have HT := Lib.hid (fun w => trim_dec es w hes hel2.1 hel2.2)
        have Hfin := Lib.hid hfin
        have hi0 : ((i : Int) == 0) = false := by rw [beq_eq_false_iff_ne]; omega
        clear hR hcell hcur hcs htk ho1 hown hin hfin hck Hat
        go_wp2_with fail
        refine HR.out.mono ?_
        rintro e w2 ⟨rfl, hb2⟩
        go_wp2_with fail
        refine (HT.out w2).mono ?_
        rintro e w3 ⟨⟨s', rfl, hs'⟩, rfl⟩
        rw [Hfin.out] at hs'
        go_wp2_with fail
        go_ret
        exact ⟨⟨s', rfl, hs'⟩, hbl.out.trans (hb2.mono hbl.out.size)⟩
end Go.Proofs.Ytlkadnaoacoicaa

namespace Go.Proofs.Ytlkadnaoacoicaa
open Go.RowKit NM

/-- Far above all numbers that the laws meet. -/
def big : Int := 10 ^ 1000
theorem pw_big {n : Nat} (h : n ≤ 100) : pw n ≤ big := by
  have h1 := pw_mono h
  have h2 : pw 100 ≤ big := by unfold big; decide +kernel
  omega
theorem dec_small {ds : List Int} {A : Int} (h : Dec ds A) (hA : A < big) : 0 < ds.length ∧ ds.length ≤ 1000 := by
  rcases h.2.2 with ⟨_, rfl⟩ | ⟨h1, h2⟩
  · simp
  · have := ten_inv (show (10 : Int) ^ (ds.length - 1) < 10 ^ 1000 from Int.lt_of_le_of_lt h2 hA)
    omega

theorem small_str (s : ByteArray) (A by_ c0 N : Int) (w : World) (h : DecStr s A) (hA : A < big) (b0 : 0 ≤ by_) (b1 : by_ ≤ 1099511627776) (m0 : 0 ≤ c0) (m1 : c0 ≤ 1099511627776) (hN : c0 + by_ * A = N) :
    Calls Try.prog 26 #[.string s, .int .i64 by_, .int .i64 c0] w fun e w' => (∃ s, e = .returned (.string s) ∧ DecStr s N) ∧ Below w.heap.size w w' := by
  obtain ⟨ds, hd, rfl⟩ := h
  have hl := dec_small hd hA
  exact small_dec ds by_ c0 N w hd.1 hl.1 (by omega) b0 b1 m0 m1 (by rw [hd.2.1]; exact hN)

set_option maxHeartbeats 1600000 in
set_option maxRecDepth 100000 in
theorem reftext_sl (v : Value) (xs : List Int) (w : World) (h : Sl w v xs) (hl : xs.length ≤ 100) :
    Calls Try.prog 10 #[v] w fun e w' => (∃ s, e = .returned (.string s) ∧ DecStr s (val xs)) ∧ Below w.heap.size w w' := by
  obtain ⟨ao, ca, rfl, _, ra, ux, _⟩ := h
  obtain ⟨n, hn⟩ : ∃ n, xs.length = n := ⟨_, rfl⟩
  rw [hn] at hl ⊢
  have Hn := Lib.hid hn
  clear hn
  go_enter Try.func10, Try.ntmps10
  go_wp2_with fail
  go_loopw [3, 4] (fun so i wr => ∃ (k : Nat) (s : ByteArray), k ≤ n ∧ i = .int .i64 ((k : Int) - 1) ∧ so = .string s ∧ Hid (DecStr s (val (xs.drop k))) ∧ Hid (Below w.heap.size w wr)) (fun _ i _ => (intOf i + 1).toNat)
  case atStart => exact ⟨n, _, Nat.le_refl _, rfl, rfl, Lib.hid (by rw [List.drop_of_length_le (by rw [Hn.out]; omega)]; exact decStr_zero), Lib.hid (Below.refl _ _)⟩
  case round =>
    obtain ⟨k, s, hk, rfl, rfl, hs, hbl⟩ := hrel
    cases k with
    | zero =>
      have h1 := hs.out
      rw [List.drop_zero] at h1
      have H1 := Lib.hid h1
      clear h1
      go_wp2_with fail
      go_ret
      exact ⟨⟨_, rfl, H1.out⟩, hbl.out⟩
    | succ k =>
      have e1 : ((k + 1 : Nat) : Int) - 1 = k := by omega
      rw [e1]
      clear e1
      have rw' := ra
      obtain ⟨b, off, rfl, hbs, hc⟩ := ra.cells (by rw [Hn.out]; omega)
      have hck : wr.cell? ⟨b, off + k, none⟩ = some (.int .u32 (lb xs k)) := by
        rw [hbl.out.cell (p := ⟨b, off + k, none⟩) hbs]
        exact hc k (by rw [Hn.out]; omega)
      obtain ⟨x0, x1⟩ := lb_range ux k
      have hvd := val_drop (xs := xs) (k := k) (by rw [Hn.out]; omega)
      have hlt : val (xs.drop (k + 1)) < big := by
        have h1 := val_lt (U32s_drop ux (k + 1))
        have h2 := pw_big (n := (xs.drop (k + 1)).length) (by rw [List.length_drop, Hn.out]; omega)
        omega
      have HS := Lib.hid (small_str s _ 4294967296 (lb xs k) _ wr hs.out hlt (by omega) (by omega) x0 (by omega) hvd.symm)
      clear hc rw' hvd hlt
      go_wp2_with fail
      refine HS.out.mono ?_
      rintro e w2 ⟨⟨s', rfl, hs'⟩, hb2⟩
      have hb3 := Lib.hid (hbl.out.trans (hb2.mono hbl.out.size))
      have Hs' := Lib.hid hs'
      clear HS hs' hb2
      go_wp2_with fail
      go_roundw
      case rel => exact ⟨k, s', by omega, by go_num, rfl, Hs', hb3⟩
      case measure => simp [intOf]
end Go.Proofs.Ytlkadnaoacoicaa

namespace Go.Proofs.Ytlkadnaoacoicaa
open Go.RowKit NM

theorem dec_one : DecStr ⟨#[49]⟩ 1 := ⟨[1], ⟨by intro d hd; simp at hd; omega, by decide, .inr ⟨by decide, by decide⟩⟩, by decide +kernel⟩
theorem pow_big {n : Nat} (h : n ≤ 2000) : (2 : Int) ^ n < big := by
  have h1 := pow_le h
  have h2 : (2 : Int) ^ 2000 < big := by unfold big; decide +kernel
  omega

set_option maxHeartbeats 800000 in
set_option maxRecDepth 100000 in
theorem power_any (n : Nat) (w : World) (hn : n ≤ 2000) :
    Calls Try.prog 42 #[.int .i64 (n : Int)] w fun e w' => (∃ s, e = .returned (.string s) ∧ DecStr s (2 ^ n)) ∧ Below w.heap.size w w' := by
  go_enter Try.func42, Try.ntmps42
  go_wp2_with fail
  go_loopw [3, 4] (fun so i wr => ∃ (k : Nat) (s : ByteArray), k ≤ n ∧ i = .int .i64 k ∧ so = .string s ∧ Hid (DecStr s (2 ^ k)) ∧ Hid (Below w.heap.size w wr)) (fun _ i _ => n - (intOf i).toNat)
  case atStart => exact ⟨0, _, Nat.zero_le _, rfl, rfl, Lib.hid (by rw [Int.pow_zero]; exact dec_one), Lib.hid (Below.refl _ _)⟩
  case round =>
    obtain ⟨k, s, hk, rfl, rfl, hs, hbl⟩ := hrel
    by_cases hkn : k < n
    · have HS := Lib.hid (small_str s _ 2 0 (2 ^ (k + 1)) wr hs.out (pow_big (by omega)) (by omega) (by omega) (by omega) (by omega) (by rw [Int.pow_succ, Int.mul_comm]; omega))
      go_wp2_with fail
      refine HS.out.mono ?_
      rintro e w2 ⟨⟨s', rfl, hs'⟩, hb2⟩
      have hb3 := Lib.hid (hbl.out.trans (hb2.mono hbl.out.size))
      have Hs' := Lib.hid hs'
      clear HS hs' hb2
      go_wp2_with fail
      go_roundw
      case rel => exact ⟨k + 1, s', by omega, by go_num, rfl, Hs', hb3⟩
      case measure => simp [intOf]; omega
    · obtain rfl : k = n := by omega
      go_wp2_with fail
      go_ret
      exact ⟨⟨_, rfl, hs.out⟩, hbl.out⟩

/-- A digit's byte. -/
def b8 (d : Int) : UInt8 := UInt8.ofNat (48 + d).toNat
theorem b8_nat {d : Int} (h0 : 0 ≤ d) (h1 : d < 10) : ((b8 d).toNat : Int) = 48 + d := by
  unfold b8
  rw [UInt8.toNat_ofNat']
  omega
theorem b8_lt {x y : Int} (x0 : 0 ≤ x) (x1 : x < 10) (y0 : 0 ≤ y) (y1 : y < 10) : (b8 x < b8 y) ↔ x < y := by
  rw [UInt8.lt_iff_toNat_lt]
  have h1 := b8_nat x0 x1
  have h2 := b8_nat y0 y1
  omega
theorem b8_eq {x y : Int} (x0 : 0 ≤ x) (x1 : x < 10) (y0 : 0 ≤ y) (y1 : y < 10) : (b8 x = b8 y) ↔ x = y := by
  rw [← UInt8.toNat_inj]
  have h1 := b8_nat x0 x1
  have h2 := b8_nat y0 y1
  omega
theorem Digs_tail {d : Int} {ds : List Int} (h : Digs (d :: ds)) : Digs ds := fun x hx => h x (List.mem_cons_of_mem _ hx)
theorem Digs_rev {ds : List Int} (h : Digs ds) : Digs ds.reverse := fun x hx => h x (List.mem_reverse.1 hx)
theorem dv_rev_cons (x : Int) (L : List Int) : dv (x :: L).reverse = dv L.reverse + 10 ^ L.length * x := by
  rw [List.reverse_cons, dv_snoc, List.length_reverse]
/-- One digit ahead decides. -/
theorem ahead_lt {T a b x y : Int} (a0 : 0 ≤ a) (a1 : a < T) (b0 : 0 ≤ b) (b1 : b < T) : (a + T * x < b + T * y) ↔ (x < y ∨ (x = y ∧ a < b)) := by
  constructor
  · intro h
    rcases Int.lt_trichotomy x y with h1 | h1 | h1
    · exact .inl h1
    · subst h1; exact .inr ⟨rfl, by omega⟩
    · exfalso
      have h2 : T * (y + 1) ≤ T * x := Int.mul_le_mul_of_nonneg_left (by omega) (by omega)
      rw [Int.mul_add] at h2
      omega
  · rintro (h1 | ⟨rfl, h1⟩)
    · have h2 : T * (x + 1) ≤ T * y := Int.mul_le_mul_of_nonneg_left (by omega) (by omega)
      rw [Int.mul_add] at h2
      omega
    · omega
theorem less_rev : ∀ (L M : List Int), L.length = M.length → Digs L → Digs M → Op.bytesLess (L.map b8) (M.map b8) = decide (dv L.reverse < dv M.reverse)
  | [], [], _, _, _ => by simp [Op.bytesLess, dv]
  | x :: L, [], h, _, _ => by simp at h
  | [], y :: M, h, _, _ => by simp at h
  | x :: L, y :: M, h, hL, hM => by
    have hl : L.length = M.length := by simpa using h
    have ih := less_rev L M hl (Digs_tail hL) (Digs_tail hM)
    have hx := hL x (List.mem_cons_self ..)
    have hy := hM y (List.mem_cons_self ..)
    have rL := dv_range (Digs_rev (Digs_tail hL))
    have rM := dv_range (Digs_rev (Digs_tail hM))
    rw [List.length_reverse] at rL rM
    rw [← hl] at rM
    rw [List.map_cons, List.map_cons, Op.bytesLess, ih, dv_rev_cons, dv_rev_cons, ← hl, Bool.eq_iff_iff, decide_eq_true_iff, ahead_lt rL.1 rL.2 rM.1 rM.2]
    simp only [Bool.or_eq_true, Bool.and_eq_true, decide_eq_true_iff, beq_iff_eq]
    rw [b8_lt hx.1 hx.2 hy.1 hy.2, b8_eq hx.1 hx.2 hy.1 hy.2]
theorem dstr_list (ds : List Int) : (dstr ds).toList = ds.reverse.map b8 := by
  rw [ByteArray.toList_eq]
  unfold dstr
  rw [strOfNums_data, ← List.map_reverse, List.map_map]
  rfl
theorem dstr_less {ds es : List Int} (hl : ds.length = es.length) (hd : Digs ds) (he : Digs es) : Op.bytesLess (dstr ds).toList (dstr es).toList = decide (dv ds < dv es) := by
  rw [dstr_list, dstr_list, less_rev _ _ (by simpa using hl) (Digs_rev hd) (Digs_rev he), List.reverse_reverse, List.reverse_reverse]
theorem dstr_beq {ds es : List Int} (hl : ds.length = es.length) (hd : Digs ds) (he : Digs es) : ((dstr ds).toList == (dstr es).toList) = decide (dv ds = dv es) := by
  rw [Bool.eq_iff_iff, beq_iff_eq, decide_eq_true_iff]
  constructor
  · intro h
    have h1 := dstr_less hl hd he
    have h2 := dstr_less hl.symm he hd
    rw [h] at h1
    rw [h, h1] at h2
    rw [Bool.eq_iff_iff, decide_eq_true_iff, decide_eq_true_iff] at h2
    omega
  · intro h
    rw [dv_same hd he hl h]
theorem dec_lt {ds es : List Int} {A B : Int} (ha : Dec ds A) (hb : Dec es B) (h : ds.length < es.length) : A < B := by
  obtain ⟨a1, a2, a3⟩ := ha
  obtain ⟨_, _, b3⟩ := hb
  have hr := dv_range a1
  have h0 : 0 < ds.length := by
    rcases a3 with ⟨_, rfl⟩ | ⟨h, _⟩
    · simp
    · exact h
  rcases b3 with ⟨_, rfl⟩ | ⟨_, h2⟩
  · rw [List.length_singleton] at h; omega
  · have := ten_le (show ds.length ≤ es.length - 1 by omega)
    omega

set_option maxHeartbeats 800000 in
set_option maxRecDepth 100000 in
theorem cmp_dec (a b : ByteArray) (A B : Int) (w : World) (ha : DecStr a A) (hb : DecStr b B) (hA : A < big) (hB : B < big) :
    Calls Try.prog 38 #[.string a, .string b] w fun e w' => e = .returned (.int .i64 (sgn A B)) ∧ w = w' := by
  obtain ⟨ds, hd, ea⟩ := ha
  obtain ⟨es, he, eb⟩ := hb
  have e1 : a = dstr ds := ea
  have e2 : b = dstr es := eb
  have sa : a.size = ds.length := by rw [e1, dstr_size]
  have sb : b.size = es.length := by rw [e2, dstr_size]
  have la := dec_small hd hA
  have lb := dec_small he hB
  have ma : a.size ≤ 1000 := by omega
  have mb : b.size ≤ 1000 := by omega
  rcases Nat.lt_trichotomy a.size b.size with h | h | h
  · have hs := Lib.hid (show sgn A B = -1 by have := dec_lt hd he (by omega); rw [sgn, if_pos this])
    clear hd he ea eb e1 e2 sa sb la lb
    go_enter Try.func38, Try.ntmps38
    go_wp2_with fail
    all_goals
      go_ret
      exact ⟨ret_int hs.out.symm, rfl⟩
  · have hl : ds.length = es.length := by omega
    have h1 := dstr_less hl hd.1 he.1
    have h2 := dstr_beq hl hd.1 he.1
    rw [hd.2.1, he.2.1, ← e1, ← e2] at h1 h2
    rcases Int.lt_trichotomy A B with h3 | h3 | h3
    · have hs := Lib.hid (show sgn A B = -1 by rw [sgn, if_pos h3])
      rw [decide_eq_true h3] at h1
      clear hd he ea eb e1 e2 sa sb la lb h2 h3 hl
      go_enter Try.func38, Try.ntmps38
      go_wp2_with fail
      all_goals
        go_ret
        exact ⟨ret_int hs.out.symm, rfl⟩
    · have hs := Lib.hid (show sgn A B = 0 by rw [sgn, if_neg (by omega), if_neg (by omega)])
      rw [decide_eq_false (by omega)] at h1
      rw [decide_eq_true h3] at h2
      clear hd he ea eb e1 e2 sa sb la lb h3 hl
      go_enter Try.func38, Try.ntmps38
      go_wp2_with fail
      all_goals
        go_ret
        exact ⟨ret_int hs.out.symm, rfl⟩
    · have hs := Lib.hid (show sgn A B = 1 by rw [sgn, if_neg (by omega), if_pos h3])
      rw [decide_eq_false (by omega)] at h1 h2
      clear hd he ea eb e1 e2 sa sb la lb h3 hl
      go_enter Try.func38, Try.ntmps38
      go_wp2_with fail
      all_goals
        go_ret
        exact ⟨ret_int hs.out.symm, rfl⟩
  · have hs := Lib.hid (show sgn A B = 1 by have := dec_lt he hd (by omega); rw [sgn, if_neg (by omega), if_pos this])
    clear hd he ea eb e1 e2 sa sb la lb
    go_enter Try.func38, Try.ntmps38
    go_wp2_with fail
    all_goals
      go_ret
      exact ⟨ret_int hs.out.symm, rfl⟩

end Go.Proofs.Ytlkadnaoacoicaa

namespace Go.Proofs.Ytlkadnaoacoicaa
open Go.RowKit NM

end Go.Proofs.Ytlkadnaoacoicaa

namespace Go.Proofs.Ytlkadnaoacoicaa
open Go.RowKit NM

/-- The state of Add's loop. -/
structure InAdd (ds fs : List Int) (N : Int) (i : Nat) (c : Int) (es : List Int) : Prop where
  digs : Digs es
  len : es.length = i
  all : dv es + 10 ^ es.length * (c + dv (ds.drop i) + dv (fs.drop i)) = N
theorem InAdd.step {ds fs : List Int} {N : Int} {i : Nat} {c d f : Int} {es : List Int} (h : InAdd ds fs N i c es) (hd : ds.getD i 0 = d) (hf : fs.getD i 0 = f) : InAdd ds fs N (i + 1) ((d + f + c) / 10) (es ++ [(d + f + c) % 10]) := by
  have h1 := h.all
  rw [dv_drop ds, dv_drop fs, hd, hf] at h1
  exact ⟨Digs_snoc h.digs (by omega) (by omega), by rw [List.length_append, h.len]; rfl, dec_step h1 (by omega)⟩
theorem InAdd.done {ds fs : List Int} {N : Int} {i : Nat} {es : List Int} (h : InAdd ds fs N i 0 es) (hi : ds.length ≤ i) (hj : fs.length ≤ i) : dv es = N := by
  have h1 := h.all
  rw [List.drop_of_length_le hi, List.drop_of_length_le hj] at h1
  simpa [dv] using h1

/-- The row that a loop has written, read from its end, without zeros ahead. -/
theorem out_cells {w : World} {base n : Nat} {v : Value} {es : List Int} (h : w.ownsRow base 5 1 v n (D8 es)) (hn : 0 < n) :
    ∃ g cap, v = .slice (some ⟨g, 0, none⟩) n cap ∧ g < w.heap.size ∧ ∀ j (hj : j < (es.map fun d => 48 + d).length), w.cell? ⟨g, j, none⟩ = some (.int .u8 ((es.map fun d => 48 + d)[j])) := by
  obtain ⟨h1, h2⟩ := h
  have hl : es.length = n := by simpa [D8] using h1
  rcases h2 with ⟨rfl, h0⟩ | ⟨g, cap, cur, rfl, hg, hcur, hcap1, hcap2, hcs, htk⟩
  · omega
  · refine ⟨g, cap, rfl, lt_of_block hcur, fun j hj => ?_⟩
    have hj' : j < es.length := by simpa using hj
    simp only [World.cell?, hcur, Option.isSome_none, Bool.false_eq_true, if_false]
    have e : cur[j]? = (cur.toList.take (n * 1))[j]? := by
      rw [List.getElem?_take_of_lt (by omega)]
      simp
    rw [e, htk]
    simp [D8, hj']

set_option maxHeartbeats 1000000 in
set_option maxRecDepth 100000 in
theorem refadd_dec (ds fs : List Int) (N : Int) (w : World) (hd : Digs ds) (hf : Digs fs) (hn : 0 < ds.length) (hm : ds.length ≤ 100000) (hm2 : fs.length ≤ 100000) (hN : dv ds + dv fs = N) :
    Calls Try.prog 56 #[.string (dstr ds), .string (dstr fs)] w fun e w' => (∃ s, e = .returned (.string s) ∧ DecStr s N) ∧ Below w.heap.size w w' := by
  obtain ⟨i0, hi, hz0, hz1, hz2⟩ := info_parts info_u8
  have hsz := dstr_size ds
  have hsf := dstr_size fs
  have HN := Lib.hid hN
  have Hd := Lib.hid hd
  have Hf := Lib.hid hf
  clear hN hd hf
  obtain ⟨l, hl⟩ : ∃ l, ds.length = l := ⟨_, rfl⟩
  obtain ⟨m, hlm⟩ : ∃ m, fs.length = m := ⟨_, rfl⟩
  have Hl := Lib.hid hl
  have Hm := Lib.hid hlm
  rw [hl] at hn hm hsz
  rw [hlm] at hm2 hsf
  clear hl hlm
  obtain ⟨s, hs⟩ : ∃ s, dstr ds = s := ⟨_, rfl⟩
  obtain ⟨s2, hs2⟩ : ∃ s2, dstr fs = s2 := ⟨_, rfl⟩
  have Hat := Lib.hid (fun (i : Nat) (w : World) (h : i ≤ 1000000) => at_dstr ds i w Hd.out (by rw [Hl.out]; omega) h)
  have Hat2 := Lib.hid (fun (i : Nat) (w : World) (h : i ≤ 1000000) => at_dstr fs i w Hf.out (by rw [Hm.out]; omega) h)
  rw [hs] at hsz Hat ⊢
  rw [hs2] at hsf Hat2 ⊢
  clear hs hs2
  obtain ⟨L, hL1, hL2, hL3⟩ : ∃ L, l ≤ L ∧ m ≤ L ∧ (L = l ∨ L = m) := ⟨max l m, by omega, by omega, by omega⟩
  go_enter Try.func56, Try.ntmps56
  go_wp2_with fail
  go_loopg [5, 6, 7, 8] (L + 1) (fun k vo vc vi _ wr => ∃ (i : Nat) (c : Int) (es : List Int), vi = .int .i64 i ∧ vc = .int .i64 c ∧ i + k = L + 1 ∧ 0 ≤ c ∧ c ≤ 1 ∧ Hid (k = 0 → c = 0) ∧ Hid (InAdd ds fs N i c es) ∧ Hid (wr.ownsRow w.heap.size 5 1 vo i (D8 es)) ∧ Hid (Below w.heap.size w wr))
  case atStart =>
    refine ⟨0, 0, [], rfl, rfl, by omega, by omega, by omega, Lib.hid (fun _ => rfl), Lib.hid ⟨(fun _ h => by cases h), rfl, ?_⟩, Lib.hid ?_, Lib.hid ?_⟩
    · have := HN.out; simpa [dv] using this
    · exact World.ownsRow_made w #[] 0 (Nat.le_refl _) (by unfold maxLen; omega) rfl
    · exact (Below.refl _ _).alloc (Nat.le_refl _) _
  case round =>
    obtain ⟨i, c, es, rfl, rfl, hik, hc0, hc1, hck, hin, hown, hbl⟩ := hrel
    by_cases hgo : i < l ∨ i < m ∨ 0 < c
    · have hk0 : 0 < gk := by
        rcases Nat.eq_zero_or_pos gk with h | h
        · have := hck.out h
          omega
        · exact h
      obtain ⟨d, hdd⟩ : ∃ d, ds.getD i 0 = d := ⟨_, rfl⟩
      obtain ⟨f, hff⟩ : ∃ f, fs.getD i 0 = f := ⟨_, rfl⟩
      have hdr := digs_getD Hd.out i
      have hfr := digs_getD Hf.out i
      have hA := Hat.out i
      have hB := Hat2.out i
      rw [hdd] at hdr hA
      rw [hff] at hfr hB
      have hst := Lib.hid (hin.out.step hdd hff)
      obtain ⟨t, ht⟩ : ∃ t, (d + f + c) % 10 = t := ⟨_, rfl⟩
      rw [ht] at hst
      have t0 : 0 ≤ t := by omega
      have t1 : t < 10 := by omega
      have hw1 : IntKind.u8.wrap (48 + t) = 48 + t := by simp only [IntKind.wrap, IntKind.signed, IntKind.bits]; simp; omega
      have hrm : (d + f + c).tmod 10 = t := by rw [Int.tmod_eq_emod_of_nonneg (by omega)]; exact ht
      have hqu : (d + f + c).tdiv 10 = (d + f + c) / 10 := Int.tdiv_eq_ediv_of_nonneg (by omega)
      have hown2 := Lib.hid (hown.out.alloc (.cells #[.int .u8 (48 + t)] 5))
      have hck2 := Lib.hid (show gk - 1 = 0 → (d + f + c) / 10 = 0 by
        intro h
        have hiL : i = L := by omega
        have h4 : d = 0 := by
          rw [← hdd, List.getD_eq_getElem?_getD, List.getElem?_eq_none (by rw [Hl.out]; omega)]
          rfl
        have h5 : f = 0 := by
          rw [← hff, List.getD_eq_getElem?_getD, List.getElem?_eq_none (by rw [Hm.out]; omega)]
          rfl
        omega)
      have HA := Lib.hid hA
      have HB := Lib.hid hB
      clear ht hdd hff hA hB Hat Hat2
      by_cases hil : i < l
      · clear hgo
        go_wp2_with fail
        refine (HA.out wr (by omega)).mono ?_
        rintro e w' ⟨rfl, rfl⟩
        go_wp2_with fail
        refine (HB.out wr (by omega)).mono ?_
        rintro e w' ⟨rfl, rfl⟩
        go_wp2_with (at_builtin; refine wpList_append_own_at _ rfl _ _ 77 rfl w.heap.size 5 i0 (.int .u8 0) 1 1 Try.underlying77 hi hz0 hz1 hz2 rfl (by decide) u5 i (D8 es) rfl hown2.out ⟨wr.heap.size, 0, none⟩ 1 1 [.int .u8 (48 + t)] rfl ?c1 ?c2 ?c3 ?c4 ?c5 ?c6 ?_)
        case c1 => rfl
        case c2 => exact cell_one_new _ _ _
        case c3 =>
          intro u hu
          simp at hu
          subst hu
          rfl
        case c4 => unfold maxLen; omega
        case c5 => omega
        case c6 => have := hbl.out.size; simp; omega
        intro v' w2 hown3 hgrow _ hblk
        have hb2 := Lib.hid (own_push hown.out hbl.out hgrow)
        have ho2 := Lib.hid (show w2.ownsRow w.heap.size 5 1 v' (i + 1) (D8 (es ++ [t])) by rw [D8_snoc]; exact hown3)
        clear hown3 hgrow hblk
        go_wp2_with fail
        go_roundg (gk - 1)
        case measure => omega
        case rel => exact ⟨i + 1, (d + f + c) / 10, es ++ [t], by go_num, rfl, by omega, by omega, by omega, hck2, hst, ho2, hb2⟩
      · by_cases him : i < m
        · clear hgo
          go_wp2_with fail
          refine (HA.out wr (by omega)).mono ?_
          rintro e w' ⟨rfl, rfl⟩
          go_wp2_with fail
          refine (HB.out wr (by omega)).mono ?_
          rintro e w' ⟨rfl, rfl⟩
          go_wp2_with (at_builtin; refine wpList_append_own_at _ rfl _ _ 77 rfl w.heap.size 5 i0 (.int .u8 0) 1 1 Try.underlying77 hi hz0 hz1 hz2 rfl (by decide) u5 i (D8 es) rfl hown2.out ⟨wr.heap.size, 0, none⟩ 1 1 [.int .u8 (48 + t)] rfl ?c1 ?c2 ?c3 ?c4 ?c5 ?c6 ?_)
          case c1 => rfl
          case c2 => exact cell_one_new _ _ _
          case c3 =>
            intro u hu
            simp at hu
            subst hu
            rfl
          case c4 => unfold maxLen; omega
          case c5 => omega
          case c6 => have := hbl.out.size; simp; omega
          intro v' w2 hown3 hgrow _ hblk
          have hb2 := Lib.hid (own_push hown.out hbl.out hgrow)
          have ho2 := Lib.hid (show w2.ownsRow w.heap.size 5 1 v' (i + 1) (D8 (es ++ [t])) by rw [D8_snoc]; exact hown3)
          clear hown3 hgrow hblk
          go_wp2_with fail
          go_roundg (gk - 1)
          case measure => omega
          case rel => exact ⟨i + 1, (d + f + c) / 10, es ++ [t], by go_num, rfl, by omega, by omega, by omega, hck2, hst, ho2, hb2⟩
        · have hcp : 0 < c := by omega
          clear hgo
          go_wp2_with fail
          refine (HA.out wr (by omega)).mono ?_
          rintro e w' ⟨rfl, rfl⟩
          go_wp2_with fail
          refine (HB.out wr (by omega)).mono ?_
          rintro e w' ⟨rfl, rfl⟩
          go_wp2_with (at_builtin; refine wpList_append_own_at _ rfl _ _ 77 rfl w.heap.size 5 i0 (.int .u8 0) 1 1 Try.underlying77 hi hz0 hz1 hz2 rfl (by decide) u5 i (D8 es) rfl hown2.out ⟨wr.heap.size, 0, none⟩ 1 1 [.int .u8 (48 + t)] rfl ?c1 ?c2 ?c3 ?c4 ?c5 ?c6 ?_)
          case c1 => rfl
          case c2 => exact cell_one_new _ _ _
          case c3 =>
            intro u hu
            simp at hu
            subst hu
            rfl
          case c4 => unfold maxLen; omega
          case c5 => omega
          case c6 => have := hbl.out.size; simp; omega
          intro v' w2 hown3 hgrow _ hblk
          have hb2 := Lib.hid (own_push hown.out hbl.out hgrow)
          have ho2 := Lib.hid (show w2.ownsRow w.heap.size 5 1 v' (i + 1) (D8 (es ++ [t])) by rw [D8_snoc]; exact hown3)
          clear hown3 hgrow hblk
          go_wp2_with fail
          go_roundg (gk - 1)
          case measure => omega
          case rel => exact ⟨i + 1, (d + f + c) / 10, es ++ [t], by go_num, rfl, by omega, by omega, by omega, hck2, hst, ho2, hb2⟩
    · have hc00 : c = 0 := by omega
      have hil : l ≤ i := by omega
      have him : m ≤ i := by omega
      subst hc00
      have hfin := hin.out.done (by rw [Hl.out]; exact hil) (by rw [Hm.out]; exact him)
      have hes := hin.out.digs
      have hel := hin.out.len
      obtain ⟨g, cap, rfl, hgs, hcell⟩ := out_cells hown.out (by omega)
      have hR := reversed_any g cap (es.map fun d => 48 + d) wr hgs (by simp; omega) (by simp; omega) hcell
      rw [List.length_map, hel] at hR
      have HR := Lib.hid hR
      have hel2 : 0 < es.length ∧ es.length ≤ 1000000 := by omega
      have HT := Lib.hid (fun w => trim_dec es w hes hel2.1 hel2.2)
      have Hfin := Lib.hid hfin
      clear hR hcell hown hin hfin hck Hat Hat2
      go_wp2_with fail
      refine HR.out.mono ?_
      rintro e w2 ⟨rfl, hb2⟩
      go_wp2_with fail
      refine (HT.out w2).mono ?_
      rintro e w3 ⟨⟨s', rfl, hs'⟩, rfl⟩
      rw [Hfin.out] at hs'
      go_wp2_with fail
      go_ret
      exact ⟨⟨s', rfl, hs'⟩, hbl.out.trans (hb2.mono hbl.out.size)⟩

theorem refadd_str (a b : ByteArray) (A B : Int) (w : World) (ha : DecStr a A) (hb : DecStr b B) (hA : A < big) (hB : B < big) :
    Calls Try.prog 56 #[.string a, .string b] w fun e w' => (∃ s, e = .returned (.string s) ∧ DecStr s (A + B)) ∧ Below w.heap.size w w' := by
  obtain ⟨ds, hd, rfl⟩ := ha
  obtain ⟨es, he, rfl⟩ := hb
  have l1 := dec_small hd hA
  have l2 := dec_small he hB
  exact refadd_dec ds es (A + B) w hd.1 he.1 l1.1 (by omega) (by omega) (by rw [hd.2.1, he.2.1])
end Go.Proofs.Ytlkadnaoacoicaa

