/- The reference's digits: at, reversed, trim. -/
import Derived.Test.YtondjnmpfpfpmaaDoorNatText
namespace Go.Proofs.YtondjnmpfpfpmaaDoor
open Go.RowKit NM

/-- The text of digits, the least first in the list. -/
def dstr (ds : List Int) : ByteArray := strOfNums (ds.map fun d => 48 + d).reverse
theorem dstr_size (ds : List Int) : (dstr ds).size = ds.length := by
  unfold dstr
  rw [strOfNums_size]
  simp
theorem nums_byte {es : List Int} {k : Nat} (hk : k < es.length) (h0 : 0 ≤ es[k]) (h1 : es[k] < 256) : (((strOfNums es)[k]'(by rw [strOfNums_size]; exact hk)).toNat : Int) = es[k] := by
  show (((strOfNums es).data[k]'(by simpa [strOfNums] using hk)).toNat : Int) = es[k]
  simp only [strOfNums, List.getElem_toArray, List.getElem_map]
  rw [UInt8.toNat_ofNat']
  omega
theorem dstr_byte {ds : List Int} (hd : Digs ds) {k i : Nat} (hi : i < ds.length) (hk : k + 1 + i = (dstr ds).size) : (((dstr ds)[k]'(by omega)).toNat : Int) = 48 + ds[i] := by
  have hs := dstr_size ds
  have hk' : k < ((ds.map fun d => 48 + d).reverse).length := by simp; omega
  have he : ((ds.map fun d => 48 + d).reverse)[k] = 48 + ds[i] := by
    rw [List.getElem_reverse]
    simp only [List.getElem_map, List.length_map]
    have e : ds.length - 1 - k = i := by omega
    simp only [e]
  have hm := hd _ (List.getElem_mem hi)
  have h := nums_byte hk' (by rw [he]; omega) (by rw [he]; omega)
  rw [he] at h
  exact h

set_option maxHeartbeats 400000 in
set_option maxRecDepth 100000 in
theorem at_far (s : ByteArray) (i : Nat) (w : World) (h : s.size ≤ i) (_hi : i ≤ 1000000) :
    Calls Tryd.prog 39 #[.string s, .int .i64 (i : Int)] w fun e w' => e = .returned (.int .i64 0) ∧ w = w' := by
  go_enter Tryd.func39, Tryd.ntmps39
  go_wp2_with fail
  go_ret
  exact ⟨rfl, rfl⟩

set_option maxHeartbeats 400000 in
set_option maxRecDepth 100000 in
theorem at_in (s : ByteArray) (i k : Nat) (w : World) (hk : k + 1 + i = s.size) (hs : s.size ≤ 1000000) (h48 : 48 ≤ ((s[k]'(by omega)).toNat : Int)) :
    Calls Tryd.prog 39 #[.string s, .int .i64 (i : Int)] w fun e w' => e = .returned (.int .i64 (((s[k]'(by omega)).toNat : Int) - 48)) ∧ w = w' := by
  have hlt : k < s.size := by omega
  have hb := UInt8.toNat_lt (s[k]'hlt)
  have e1 : (s.size : Int) - 1 - (i : Int) = (k : Int) := by omega
  go_enter Tryd.func39, Tryd.ntmps39
  go_wp2_with fail
  go_ret
  refine ⟨ret_int ?_, rfl⟩
  omega

theorem at_dstr (ds : List Int) (i : Nat) (w : World) (hd : Digs ds) (hs : ds.length ≤ 1000000) (hi : i ≤ 1000000) :
    Calls Tryd.prog 39 #[.string (dstr ds), .int .i64 (i : Int)] w fun e w' => e = .returned (.int .i64 (ds.getD i 0)) ∧ w = w' := by
  have hz := dstr_size ds
  by_cases h : i < ds.length
  · have hb := dstr_byte hd h (show (ds.length - 1 - i) + 1 + i = (dstr ds).size by omega)
    have hm := hd _ (List.getElem_mem h)
    refine (at_in (dstr ds) i (ds.length - 1 - i) w (by omega) (by omega) (by rw [hb]; omega)).mono ?_
    rintro e w' ⟨rfl, rfl⟩
    refine ⟨ret_int ?_, rfl⟩
    rw [hb]
    simp [List.getD_eq_getElem?_getD, h]
    omega
  · refine (at_far (dstr ds) i w (by omega) hi).mono ?_
    rintro e w' ⟨rfl, rfl⟩
    refine ⟨ret_int ?_, rfl⟩
    simp [List.getD_eq_getElem?_getD, List.getElem?_eq_none (show ds.length ≤ i by omega)]

/-- Bytes in a row of the call's own. -/
def B8 (es : List Int) : List Value := es.map (Value.int .u8)
theorem own_push {w0 wr w2 : World} {vo : Value} {n : Nat} {xs : List Value} {x : Value} (hown : wr.ownsRow w0.heap.size 5 1 vo n xs) (hbl : Below w0.heap.size w0 wr)
    (hg : (wr.alloc (.cells #[x] 5)).grownBy w2 vo.ownBlock) : Below w0.heap.size w0 w2 :=
  (hbl.alloc hbl.size _).grown hg (by have := hbl.size; simp; omega) (fun k hk => (hown.lt k hk).1)
/-- The text of a row of bytes of the call's own. -/
theorem own_text {w : World} {base n : Nat} {v : Value} {es : List Int} (h : w.ownsRow base 5 1 v n (B8 es)) (hn : 0 < n) :
    ∃ g cap, v = .slice (some ⟨g, 0, none⟩) n cap ∧ (convert 62 9 (.slice (some ⟨g, 0, none⟩) n cap)).run Tryd.prog w = .ok (.string (strOfNums es)) w := by
  obtain ⟨h1, h2⟩ := h
  have hl : es.length = n := by simpa [B8] using h1
  rcases h2 with ⟨rfl, h0⟩ | ⟨g, cap, cur, rfl, hg, hcur, hcap1, hcap2, hcs, htk⟩
  · omega
  · refine ⟨g, cap, rfl, ?_⟩
    refine run_convert_bytes_arg w 62 5 Tryd.underlying62 Tryd.underlying5 g 0 n cap es hl (fun i hi => ?_) 9 Tryd.underlying9
    rw [Nat.zero_add]
    simp only [World.cell?, hcur, Option.isSome_none, Bool.false_eq_true, if_false]
    have e : cur[i]? = (cur.toList.take (n * 1))[i]? := by
      rw [List.getElem?_take_of_lt (by omega)]
      simp
    rw [e, htk]
    simp [B8, hl, hi]

theorem drop_rev {es : List Int} {k : Nat} (hk : k < es.length) : (es.drop k).reverse = (es.drop (k + 1)).reverse ++ [es[k]] := by
  rw [List.drop_eq_getElem_cons hk, List.reverse_cons]

set_option maxHeartbeats 1600000 in
set_option maxRecDepth 100000 in
theorem reversed_any (g cap : Nat) (es : List Int) (w : World) (hg : g < w.heap.size) (hn : 0 < es.length) (hm : es.length ≤ 1000000) (hc : ∀ j (hj : j < es.length), w.cell? ⟨g, j, none⟩ = some (.int .u8 es[j])) :
    Calls Tryd.prog 41 #[.slice (some ⟨g, 0, none⟩) es.length cap] w fun e w' => e = .returned (.string (strOfNums es.reverse)) ∧ Below w.heap.size w w' := by
  obtain ⟨i0, hi, hz0, hz1, hz2⟩ := info_parts info_u8
  obtain ⟨n, hnn⟩ : ∃ n, es.length = n := ⟨_, rfl⟩
  rw [hnn] at hn hm ⊢
  have Hc := Lib.hid hc
  have Hn := Lib.hid hnn
  clear hc hnn
  go_enter Tryd.func41, Tryd.ntmps41
  go_wp2_with fail
  go_loopw [3, 4] (fun vo i wr => ∃ k : Nat, k ≤ n ∧ i = .int .i64 ((k : Int) - 1) ∧ Hid (wr.ownsRow w.heap.size 5 1 vo (n - k) (B8 (es.drop k).reverse)) ∧ Hid (Below w.heap.size w wr)) (fun _ i _ => (intOf i + 1).toNat)
  case atStart => exact ⟨n, Nat.le_refl _, rfl, Lib.hid (by rw [Nat.sub_self, List.drop_of_length_le (by rw [Hn.out]; omega)]; exact World.ownsRow_made w #[] 0 (Nat.le_refl _) (by unfold maxLen; omega) rfl), Lib.hid ((Below.refl _ _).alloc (Nat.le_refl _) _)⟩
  case round =>
    obtain ⟨k, hk, rfl, hown, hbl⟩ := hrel
    cases k with
    | zero =>
      have h1 := hown.out
      rw [List.drop_zero, Nat.sub_zero] at h1
      obtain ⟨g2, cap2, rfl, hconv⟩ := own_text h1 hn
      clear h1
      go_wp2_with fail
      go_ret
      exact ⟨rfl, hbl.out⟩
    | succ k =>
      have e1 : ((k + 1 : Nat) : Int) - 1 = k := by omega
      rw [e1]
      clear e1
      have hke : k < es.length := by rw [Hn.out]; omega
      obtain ⟨x, hx⟩ : ∃ x, es[k] = x := ⟨_, rfl⟩
      have hck : wr.cell? ⟨g, k, none⟩ = some (.int .u8 x) := by
        rw [hbl.out.cell (p := ⟨g, k, none⟩) hg, Hc.out k hke, hx]
      have hown2 := Lib.hid (hown.out.alloc (.cells #[.int .u8 x] 5))
      have hdr := Lib.hid (drop_rev hke)
      rw [hx] at hdr
      clear hke hx
      go_wp2_with (at_builtin; refine wpList_append_own_at _ rfl _ _ 62 rfl w.heap.size 5 i0 (.int .u8 0) 1 1 Tryd.underlying62 hi hz0 hz1 hz2 rfl (by decide) u3 (n - (k + 1)) (B8 (es.drop (k + 1)).reverse) rfl hown2.out ⟨wr.heap.size, 0, none⟩ 1 1 [.int .u8 x] rfl ?c1 ?c2 ?c3 ?c4 ?c5 ?c6 ?_)
      case c1 => rfl
      case c2 => exact cell_one_new _ _ _
      case c3 =>
        intro u hu
        simp at hu
        subst hu
        rfl
      case c4 => unfold maxLen; omega
      case c5 => omega
      case c6 => have := hbl.out.size; simp; omega
      intro v' w2 hown3 hgrow _ hblk
      have hb2 := Lib.hid (own_push hown.out hbl.out hgrow)
      have ho2 := Lib.hid (show w2.ownsRow w.heap.size 5 1 v' (n - k) (B8 (es.drop k).reverse) by
        rw [hdr.out, B8, List.map_append, show n - k = n - (k + 1) + 1 by omega]
        exact hown3)
      clear hown3 hgrow hblk
      go_wp2_with fail
      go_roundw
      case rel => exact ⟨k, by omega, by go_num, ho2, hb2⟩
      case measure => simp [intOf]

theorem dv_take_succ {ds : List Int} {k : Nat} (hk : k < ds.length) : dv (ds.take (k + 1)) = dv (ds.take k) + 10 ^ k * ds[k] := by
  rw [List.take_succ_eq_append_getElem hk, dv_snoc, List.length_take, Nat.min_eq_left (by omega)]
theorem Digs_take {ds : List Int} (h : Digs ds) (k : Nat) : Digs (ds.take k) := fun d hd => h d (List.mem_of_mem_take hd)
theorem trim_end {ds : List Int} {k : Nat} (hd : Digs ds) (h0 : 0 < k) (hk : k ≤ ds.length) (hv : dv (ds.take k) = dv ds) (he : k = 1 ∨ ds.getD (k - 1) 0 ≠ 0) : Dec (ds.take k) (dv ds) := by
  refine ⟨Digs_take hd k, hv, ?_⟩
  obtain ⟨j, rfl⟩ : ∃ j, k = j + 1 := ⟨k - 1, by omega⟩
  have hj : j < ds.length := by omega
  have h1 := dv_take_succ hj
  have hm := hd _ (List.getElem_mem hj)
  have hr := dv_range (Digs_take hd j)
  have hl : (ds.take (j + 1)).length = j + 1 := by rw [List.length_take]; omega
  by_cases hz : ds[j] = 0
  · rcases he with he | he
    · left
      obtain rfl : j = 0 := by omega
      have e : ds.take 1 = [0] := by
        rw [List.take_succ_eq_append_getElem hj, hz]
        rfl
      rw [Nat.zero_add] at hv ⊢
      rw [e] at hv ⊢
      exact ⟨by rw [← hv]; rfl, rfl⟩
    · exfalso
      apply he
      rw [Nat.add_sub_cancel, List.getD_eq_getElem?_getD, List.getElem?_eq_getElem hj]
      exact hz
  · right
    rw [hl]
    refine ⟨by omega, ?_⟩
    rw [← hv, h1, Nat.add_sub_cancel]
    have h2 := ten_pos j
    have h3 : (10 : Int) ^ j * 1 ≤ 10 ^ j * ds[j] := Int.mul_le_mul_of_nonneg_left (by omega) (by omega)
    omega

theorem dstr_snoc (ds : List Int) (x : Int) : dstr (ds ++ [x]) = ⟨#[UInt8.ofNat (48 + x).toNat]⟩ ++ dstr ds := by
  apply ByteArray.ext
  simp [dstr, strOfNums]
theorem dstr_cut {ds : List Int} {j : Nat} (hj : j < ds.length) : (dstr (ds.take (j + 1))).extract 1 (j + 1) = dstr (ds.take j) := by
  rw [List.take_succ_eq_append_getElem hj, dstr_snoc]
  have hs : (dstr (ds.take j)).size = j := by rw [dstr_size, List.length_take]; omega
  apply ByteArray.ext
  have h2 : (dstr (ds.take j)).data.size = j := hs
  rw [ByteArray.data_extract, ByteArray.data_append]
  show (#[UInt8.ofNat (48 + ds[j]).toNat] ++ (dstr (ds.take j)).data).extract 1 (j + 1) = (dstr (ds.take j)).data
  rw [Array.extract_append]
  simp
  omega

set_option maxHeartbeats 1600000 in
set_option maxRecDepth 100000 in
theorem trim_dec (ds : List Int) (w : World) (hd : Digs ds) (hn : 0 < ds.length) (_hm : ds.length ≤ 1000000) :
    Calls Tryd.prog 40 #[.string (dstr ds)] w fun e w' => (∃ s, e = .returned (.string s) ∧ DecStr s (dv ds)) ∧ w = w' := by
  go_enter Tryd.func40, Tryd.ntmps40
  go_wp2_with fail
  go_loopg [0] ds.length (fun k s wr => 0 < k ∧ k ≤ ds.length ∧ s = .string (dstr (ds.take k)) ∧ Hid (dv (ds.take k) = dv ds) ∧ wr = w)
  case atStart => exact ⟨hn, Nat.le_refl _, by rw [List.take_length], Lib.hid (by rw [List.take_length]), rfl⟩
  case round =>
    obtain ⟨h0, hk, rfl, hv, rfl⟩ := hrel
    have hsz : (dstr (ds.take gk)).size = gk := by rw [dstr_size, List.length_take]; omega
    have hb0 := dstr_byte (Digs_take hd gk) (i := gk - 1) (k := 0) (by rw [List.length_take]; omega) (by omega)
    have hgd : (ds.take gk)[gk - 1]'(by rw [List.length_take]; omega) = ds.getD (gk - 1) 0 := by
      rw [List.getElem_take, List.getD_eq_getElem?_getD, List.getElem?_eq_getElem (show gk - 1 < ds.length by omega)]
      rfl
    rw [hgd] at hb0
    obtain ⟨d, hdd⟩ : ∃ d, ds.getD (gk - 1) 0 = d := ⟨_, rfl⟩
    rw [hdd] at hb0
    clear hgd
    have hcut : d = 0 → 1 < gk → Hid (dv (ds.take (gk - 1)) = dv ds) ∧ Hid ((dstr (ds.take gk)).extract 1 gk = dstr (ds.take (gk - 1))) := by
      intro hz h1
      obtain ⟨j, rfl⟩ : ∃ j, gk = j + 1 := ⟨gk - 1, by omega⟩
      rw [Nat.add_sub_cancel] at hdd ⊢
      have hj : j < ds.length := by omega
      have h2 := dv_take_succ hj
      have h3 : ds[j] = 0 := by
        rw [← hz, ← hdd, List.getD_eq_getElem?_getD, List.getElem?_eq_getElem hj]
        rfl
      rw [h3] at h2
      refine ⟨Lib.hid (by rw [← hv.out, h2]; omega), Lib.hid ?_⟩
      exact dstr_cut hj
    have Hdd := Lib.hid hdd
    clear hdd
    obtain ⟨t, Ht, htz, hb⟩ : ∃ t, Hid (dstr (ds.take gk) = t) ∧ ∃ h : t.size = gk, ((t[0]'(by omega)).toNat : Int) = 48 + d := ⟨_, Lib.hid rfl, hsz, hb0⟩
    rw [Ht.out] at hcut ⊢
    clear hb0
    by_cases h1 : 1 < gk
    · by_cases hz : d = 0
      · obtain ⟨hv2, hc2⟩ := hcut hz h1
        subst hz
        clear hcut
        go_wp2_with fail
        rw [hc2.out]
        go_roundg (gk - 1)
        case measure => omega
        case rel => exact ⟨by omega, by omega, rfl, hv2, rfl⟩
      · have hend := Lib.hid (trim_end hd h0 hk hv.out (.inr (by rw [Hdd.out]; exact hz)))
        have hne : (48 + d == 48) = false := by rw [beq_eq_false_iff_ne]; omega
        clear hcut
        go_wp2_with fail
        go_ret
        exact ⟨⟨t, rfl, _, hend.out, by rw [← Ht.out]; rfl⟩, rfl⟩
    · have hend := Lib.hid (trim_end hd h0 hk hv.out (.inl (by omega)))
      clear hcut
      go_wp2_with fail
      go_ret
      exact ⟨⟨t, rfl, _, hend.out, by rw [← Ht.out]; rfl⟩, rfl⟩
end Go.Proofs.YtondjnmpfpfpmaaDoor
