/- The numbers of nat and of its reference, for this seat: XNatRef, XNatRefSmall, XNatRefText, XNatRefCmp, XNatRefIs, XNatRefAdd. -/
import Derived.Test.YtkafkcmhekgheaaGreatDoorNC
namespace Go.Proofs.YtkafkcmhekgheaaGreatDoor.Q
open Go.RowKit NM

/-- The text of digits, the least first in the list. -/
def dstr (ds : List Int) : ByteArray := strOfNums (ds.map fun d => 48 + d).reverse
theorem dstr_size (ds : List Int) : (dstr ds).size = ds.length := by
  unfold dstr
  rw [strOfNums_size]
  simp
theorem nums_byte {es : List Int} {k : Nat} (hk : k < es.length) (h0 : 0 ≤ es[k]) (h1 : es[k] < 256) : (((strOfNums es)[k]'(by rw [strOfNums_size]; exact hk)).toNat : Int) = es[k] := by
  show (((strOfNums es).data[k]'(by simpa [strOfNums] using hk)).toNat : Int) = es[k]
  simp only [strOfNums, List.getElem_toArray, List.getElem_map]
  rw [UInt8.toNat_ofNat']
  omega
theorem dstr_byte {ds : List Int} (hd : Digs ds) {k i : Nat} (hi : i < ds.length) (hk : k + 1 + i = (dstr ds).size) : (((dstr ds)[k]'(by omega)).toNat : Int) = 48 + ds[i] := by
  have hs := dstr_size ds
  have hk' : k < ((ds.map fun d => 48 + d).reverse).length := by simp; omega
  have he : ((ds.map fun d => 48 + d).reverse)[k] = 48 + ds[i] := by
    rw [List.getElem_reverse]
    simp only [List.getElem_map, List.length_map]
    have e : ds.length - 1 - k = i := by omega
    simp only [e]
  have hm := hd _ (List.getElem_mem hi)
  have h := nums_byte hk' (by rw [he]; omega) (by rw [he]; omega)
  rw [he] at h
  exact h

/-- Bytes in a row of the call's own. -/
def B8 (es : List Int) : List Value := es.map (Value.int .u8)
theorem own_push {w0 wr w2 : World} {vo : Value} {n : Nat} {xs : List Value} {x : Value} (hown : wr.ownsRow w0.heap.size 5 1 vo n xs) (hbl : Below w0.heap.size w0 wr)
    (hg : (wr.alloc (.cells #[x] 5)).grownBy w2 vo.ownBlock) : Below w0.heap.size w0 w2 :=
  (hbl.alloc hbl.size _).grown hg (by have := hbl.size; simp; omega) (fun k hk => (hown.lt k hk).1)
/-- The text of a row of bytes of the call's own. -/
theorem own_text {w : World} {base n : Nat} {v : Value} {es : List Int} (h : w.ownsRow base 5 1 v n (B8 es)) (hn : 0 < n) :
    ∃ g cap, v = .slice (some ⟨g, 0, none⟩) n cap ∧ (convert 43 9 (.slice (some ⟨g, 0, none⟩) n cap)).run Tryz.prog w = .ok (.string (strOfNums es)) w := by
  obtain ⟨h1, h2⟩ := h
  have hl : es.length = n := by simpa [B8] using h1
  rcases h2 with ⟨rfl, h0⟩ | ⟨g, cap, cur, rfl, hg, hcur, hcap1, hcap2, hcs, htk⟩
  · omega
  · refine ⟨g, cap, rfl, ?_⟩
    refine run_convert_bytes_arg w 43 5 Tryz.underlying43 Tryz.underlying5 g 0 n cap es hl (fun i hi => ?_) 9 Tryz.underlying9
    rw [Nat.zero_add]
    simp only [World.cell?, hcur, Option.isSome_none, Bool.false_eq_true, if_false]
    have e : cur[i]? = (cur.toList.take (n * 1))[i]? := by
      rw [List.getElem?_take_of_lt (by omega)]
      simp
    rw [e, htk]
    simp [B8, hl, hi]

theorem drop_rev {es : List Int} {k : Nat} (hk : k < es.length) : (es.drop k).reverse = (es.drop (k + 1)).reverse ++ [es[k]] := by
  rw [List.drop_eq_getElem_cons hk, List.reverse_cons]

theorem dv_take_succ {ds : List Int} {k : Nat} (hk : k < ds.length) : dv (ds.take (k + 1)) = dv (ds.take k) + 10 ^ k * ds[k] := by
  rw [List.take_succ_eq_append_getElem hk, dv_snoc, List.length_take, Nat.min_eq_left (by omega)]
theorem Digs_take {ds : List Int} (h : Digs ds) (k : Nat) : Digs (ds.take k) := fun d hd => h d (List.mem_of_mem_take hd)
theorem trim_end {ds : List Int} {k : Nat} (hd : Digs ds) (h0 : 0 < k) (hk : k ≤ ds.length) (hv : dv (ds.take k) = dv ds) (he : k = 1 ∨ ds.getD (k - 1) 0 ≠ 0) : Dec (ds.take k) (dv ds) := by
  refine ⟨Digs_take hd k, hv, ?_⟩
  obtain ⟨j, rfl⟩ : ∃ j, k = j + 1 := ⟨k - 1, by omega⟩
  have hj : j < ds.length := by omega
  have h1 := dv_take_succ hj
  have hm := hd _ (List.getElem_mem hj)
  have hr := dv_range (Digs_take hd j)
  have hl : (ds.take (j + 1)).length = j + 1 := by rw [List.length_take]; omega
  by_cases hz : ds[j] = 0
  · rcases he with he | he
    · left
      obtain rfl : j = 0 := by omega
      have e : ds.take 1 = [0] := by
        rw [List.take_succ_eq_append_getElem hj, hz]
        rfl
      rw [Nat.zero_add] at hv ⊢
      rw [e] at hv ⊢
      exact ⟨by rw [← hv]; rfl, rfl⟩
    · exfalso
      apply he
      rw [Nat.add_sub_cancel, List.getD_eq_getElem?_getD, List.getElem?_eq_getElem hj]
      exact hz
  · right
    rw [hl]
    refine ⟨by omega, ?_⟩
    rw [← hv, h1, Nat.add_sub_cancel]
    have h2 := ten_pos j
    have h3 : (10 : Int) ^ j * 1 ≤ 10 ^ j * ds[j] := Int.mul_le_mul_of_nonneg_left (by omega) (by omega)
    omega

theorem dstr_snoc (ds : List Int) (x : Int) : dstr (ds ++ [x]) = ⟨#[UInt8.ofNat (48 + x).toNat]⟩ ++ dstr ds := by
  apply ByteArray.ext
  simp [dstr, strOfNums]
theorem dstr_cut {ds : List Int} {j : Nat} (hj : j < ds.length) : (dstr (ds.take (j + 1))).extract 1 (j + 1) = dstr (ds.take j) := by
  rw [List.take_succ_eq_append_getElem hj, dstr_snoc]
  have hs : (dstr (ds.take j)).size = j := by rw [dstr_size, List.length_take]; omega
  apply ByteArray.ext
  have h2 : (dstr (ds.take j)).data.size = j := hs
  rw [ByteArray.data_extract, ByteArray.data_append]
  show (#[UInt8.ofNat (48 + ds[j]).toNat] ++ (dstr (ds.take j)).data).extract 1 (j + 1) = (dstr (ds.take j)).data
  rw [Array.extract_append]
  simp
  omega

end Go.Proofs.YtkafkcmhekgheaaGreatDoor.Q

namespace Go.Proofs.YtkafkcmhekgheaaGreatDoor.Q
open Go.RowKit NM

theorem dv_drop (ds : List Int) (i : Nat) : dv (ds.drop i) = ds.getD i 0 + 10 * dv (ds.drop (i + 1)) := by
  by_cases h : i < ds.length
  · rw [List.drop_eq_getElem_cons h, dv, List.getD_eq_getElem?_getD, List.getElem?_eq_getElem h]
    rfl
  · rw [List.drop_of_length_le (by omega), List.drop_of_length_le (by omega), List.getD_eq_getElem?_getD, List.getElem?_eq_none (by omega)]
    rfl
theorem digs_getD {ds : List Int} (h : Digs ds) (i : Nat) : 0 ≤ ds.getD i 0 ∧ ds.getD i 0 < 10 := by
  rw [List.getD_eq_getElem?_getD]
  by_cases hi : i < ds.length
  · rw [List.getElem?_eq_getElem hi]
    exact h _ (List.getElem_mem hi)
  · rw [List.getElem?_eq_none (by omega)]
    simp

/-- The state of Small's loop. -/
structure InSmall (ds : List Int) (by_ N : Int) (i : Nat) (c : Int) (es : List Int) : Prop where
  digs : Digs es
  len : es.length = i
  all : dv es + 10 ^ es.length * (c + by_ * dv (ds.drop i)) = N
theorem InSmall.step {ds : List Int} {by_ N : Int} {i : Nat} {c d n : Int} {es : List Int} (h : InSmall ds by_ N i c es) (hd : ds.getD i 0 = d) (hn : d * by_ + c = n) : InSmall ds by_ N (i + 1) (n / 10) (es ++ [n % 10]) := by
  have h1 := h.all
  rw [dv_drop, hd] at h1
  refine ⟨Digs_snoc h.digs (by omega) (by omega), by rw [List.length_append, h.len]; rfl, dec_step h1 ?_⟩
  rw [Int.mul_add, Int.mul_comm by_ d, ← Int.mul_assoc, Int.mul_comm by_ 10, Int.mul_assoc]
  omega
theorem InSmall.done {ds : List Int} {by_ N : Int} {i : Nat} {es : List Int} (h : InSmall ds by_ N i 0 es) (hi : ds.length ≤ i) : dv es = N := by
  have h1 := h.all
  rw [List.drop_of_length_le hi] at h1
  simpa [dv] using h1

end Go.Proofs.YtkafkcmhekgheaaGreatDoor.Q

namespace Go.Proofs.YtkafkcmhekgheaaGreatDoor.Q
open Go.RowKit NM

/-- Far above all numbers that the laws meet. -/
def big : Int := 10 ^ 1000
theorem pw_big {n : Nat} (h : n ≤ 100) : pw n ≤ big := by
  have h1 := pw_mono h
  have h2 : pw 100 ≤ big := by unfold big; decide +kernel
  omega
theorem dec_small {ds : List Int} {A : Int} (h : Dec ds A) (hA : A < big) : 0 < ds.length ∧ ds.length ≤ 1000 := by
  rcases h.2.2 with ⟨_, rfl⟩ | ⟨h1, h2⟩
  · simp
  · have := ten_inv (show (10 : Int) ^ (ds.length - 1) < 10 ^ 1000 from Int.lt_of_le_of_lt h2 hA)
    omega

end Go.Proofs.YtkafkcmhekgheaaGreatDoor.Q

namespace Go.Proofs.YtkafkcmhekgheaaGreatDoor.Q
open Go.RowKit NM

theorem dec_one : DecStr ⟨#[49]⟩ 1 := ⟨[1], ⟨by intro d hd; simp at hd; omega, by decide, .inr ⟨by decide, by decide⟩⟩, by decide +kernel⟩
theorem pow_big {n : Nat} (h : n ≤ 2000) : (2 : Int) ^ n < big := by
  have h1 := pow_le h
  have h2 : (2 : Int) ^ 2000 < big := by unfold big; decide +kernel
  omega

/-- A digit's byte. -/
def b8 (d : Int) : UInt8 := UInt8.ofNat (48 + d).toNat
theorem b8_nat {d : Int} (h0 : 0 ≤ d) (h1 : d < 10) : ((b8 d).toNat : Int) = 48 + d := by
  unfold b8
  rw [UInt8.toNat_ofNat']
  omega
theorem b8_lt {x y : Int} (x0 : 0 ≤ x) (x1 : x < 10) (y0 : 0 ≤ y) (y1 : y < 10) : (b8 x < b8 y) ↔ x < y := by
  rw [UInt8.lt_iff_toNat_lt]
  have h1 := b8_nat x0 x1
  have h2 := b8_nat y0 y1
  omega
theorem b8_eq {x y : Int} (x0 : 0 ≤ x) (x1 : x < 10) (y0 : 0 ≤ y) (y1 : y < 10) : (b8 x = b8 y) ↔ x = y := by
  rw [← UInt8.toNat_inj]
  have h1 := b8_nat x0 x1
  have h2 := b8_nat y0 y1
  omega
theorem Digs_tail {d : Int} {ds : List Int} (h : Digs (d :: ds)) : Digs ds := fun x hx => h x (List.mem_cons_of_mem _ hx)
theorem Digs_rev {ds : List Int} (h : Digs ds) : Digs ds.reverse := fun x hx => h x (List.mem_reverse.1 hx)
theorem dv_rev_cons (x : Int) (L : List Int) : dv (x :: L).reverse = dv L.reverse + 10 ^ L.length * x := by
  rw [List.reverse_cons, dv_snoc, List.length_reverse]
/-- One digit ahead decides. -/
theorem ahead_lt {T a b x y : Int} (a0 : 0 ≤ a) (a1 : a < T) (b0 : 0 ≤ b) (b1 : b < T) : (a + T * x < b + T * y) ↔ (x < y ∨ (x = y ∧ a < b)) := by
  constructor
  · intro h
    rcases Int.lt_trichotomy x y with h1 | h1 | h1
    · exact .inl h1
    · subst h1; exact .inr ⟨rfl, by omega⟩
    · exfalso
      have h2 : T * (y + 1) ≤ T * x := Int.mul_le_mul_of_nonneg_left (by omega) (by omega)
      rw [Int.mul_add] at h2
      omega
  · rintro (h1 | ⟨rfl, h1⟩)
    · have h2 : T * (x + 1) ≤ T * y := Int.mul_le_mul_of_nonneg_left (by omega) (by omega)
      rw [Int.mul_add] at h2
      omega
    · omega
theorem less_rev : ∀ (L M : List Int), L.length = M.length → Digs L → Digs M → Op.bytesLess (L.map b8) (M.map b8) = decide (dv L.reverse < dv M.reverse)
  | [], [], _, _, _ => by simp [Op.bytesLess, dv]
  | x :: L, [], h, _, _ => by simp at h
  | [], y :: M, h, _, _ => by simp at h
  | x :: L, y :: M, h, hL, hM => by
    have hl : L.length = M.length := by simpa using h
    have ih := less_rev L M hl (Digs_tail hL) (Digs_tail hM)
    have hx := hL x (List.mem_cons_self ..)
    have hy := hM y (List.mem_cons_self ..)
    have rL := dv_range (Digs_rev (Digs_tail hL))
    have rM := dv_range (Digs_rev (Digs_tail hM))
    rw [List.length_reverse] at rL rM
    rw [← hl] at rM
    rw [List.map_cons, List.map_cons, Op.bytesLess, ih, dv_rev_cons, dv_rev_cons, ← hl, Bool.eq_iff_iff, decide_eq_true_iff, ahead_lt rL.1 rL.2 rM.1 rM.2]
    simp only [Bool.or_eq_true, Bool.and_eq_true, decide_eq_true_iff, beq_iff_eq]
    rw [b8_lt hx.1 hx.2 hy.1 hy.2, b8_eq hx.1 hx.2 hy.1 hy.2]
theorem dstr_list (ds : List Int) : (dstr ds).toList = ds.reverse.map b8 := by
  rw [ByteArray.toList_eq]
  unfold dstr
  rw [strOfNums_data, ← List.map_reverse, List.map_map]
  rfl
theorem dstr_less {ds es : List Int} (hl : ds.length = es.length) (hd : Digs ds) (he : Digs es) : Op.bytesLess (dstr ds).toList (dstr es).toList = decide (dv ds < dv es) := by
  rw [dstr_list, dstr_list, less_rev _ _ (by simpa using hl) (Digs_rev hd) (Digs_rev he), List.reverse_reverse, List.reverse_reverse]
theorem dstr_beq {ds es : List Int} (hl : ds.length = es.length) (hd : Digs ds) (he : Digs es) : ((dstr ds).toList == (dstr es).toList) = decide (dv ds = dv es) := by
  rw [Bool.eq_iff_iff, beq_iff_eq, decide_eq_true_iff]
  constructor
  · intro h
    have h1 := dstr_less hl hd he
    have h2 := dstr_less hl.symm he hd
    rw [h] at h1
    rw [h, h1] at h2
    rw [Bool.eq_iff_iff, decide_eq_true_iff, decide_eq_true_iff] at h2
    omega
  · intro h
    rw [dv_same hd he hl h]
theorem dec_lt {ds es : List Int} {A B : Int} (ha : Dec ds A) (hb : Dec es B) (h : ds.length < es.length) : A < B := by
  obtain ⟨a1, a2, a3⟩ := ha
  obtain ⟨_, _, b3⟩ := hb
  have hr := dv_range a1
  have h0 : 0 < ds.length := by
    rcases a3 with ⟨_, rfl⟩ | ⟨h, _⟩
    · simp
    · exact h
  rcases b3 with ⟨_, rfl⟩ | ⟨_, h2⟩
  · rw [List.length_singleton] at h; omega
  · have := ten_le (show ds.length ≤ es.length - 1 by omega)
    omega

end Go.Proofs.YtkafkcmhekgheaaGreatDoor.Q

namespace Go.Proofs.YtkafkcmhekgheaaGreatDoor.Q
open Go.RowKit NM

end Go.Proofs.YtkafkcmhekgheaaGreatDoor.Q

namespace Go.Proofs.YtkafkcmhekgheaaGreatDoor.Q
open Go.RowKit NM

/-- The state of Add's loop. -/
structure InAdd (ds fs : List Int) (N : Int) (i : Nat) (c : Int) (es : List Int) : Prop where
  digs : Digs es
  len : es.length = i
  all : dv es + 10 ^ es.length * (c + dv (ds.drop i) + dv (fs.drop i)) = N
theorem InAdd.step {ds fs : List Int} {N : Int} {i : Nat} {c d f : Int} {es : List Int} (h : InAdd ds fs N i c es) (hd : ds.getD i 0 = d) (hf : fs.getD i 0 = f) : InAdd ds fs N (i + 1) ((d + f + c) / 10) (es ++ [(d + f + c) % 10]) := by
  have h1 := h.all
  rw [dv_drop ds, dv_drop fs, hd, hf] at h1
  exact ⟨Digs_snoc h.digs (by omega) (by omega), by rw [List.length_append, h.len]; rfl, dec_step h1 (by omega)⟩
theorem InAdd.done {ds fs : List Int} {N : Int} {i : Nat} {es : List Int} (h : InAdd ds fs N i 0 es) (hi : ds.length ≤ i) (hj : fs.length ≤ i) : dv es = N := by
  have h1 := h.all
  rw [List.drop_of_length_le hi, List.drop_of_length_le hj] at h1
  simpa [dv] using h1

/-- The row that a loop has written, read from its end, without zeros ahead. -/
theorem out_cells {w : World} {base n : Nat} {v : Value} {es : List Int} (h : w.ownsRow base 5 1 v n (D8 es)) (hn : 0 < n) :
    ∃ g cap, v = .slice (some ⟨g, 0, none⟩) n cap ∧ g < w.heap.size ∧ ∀ j (hj : j < (es.map fun d => 48 + d).length), w.cell? ⟨g, j, none⟩ = some (.int .u8 ((es.map fun d => 48 + d)[j])) := by
  obtain ⟨h1, h2⟩ := h
  have hl : es.length = n := by simpa [D8] using h1
  rcases h2 with ⟨rfl, h0⟩ | ⟨g, cap, cur, rfl, hg, hcur, hcap1, hcap2, hcs, htk⟩
  · omega
  · refine ⟨g, cap, rfl, lt_of_block hcur, fun j hj => ?_⟩
    have hj' : j < es.length := by simpa using hj
    simp only [World.cell?, hcur, Option.isSome_none, Bool.false_eq_true, if_false]
    have e : cur[j]? = (cur.toList.take (n * 1))[j]? := by
      rw [List.getElem?_take_of_lt (by omega)]
      simp
    rw [e, htk]
    simp [D8, hj']

end Go.Proofs.YtkafkcmhekgheaaGreatDoor.Q

