import Derived.Test.YtkmnfkhchcoamaaGreatDoorTypRowC
import Derived.Test.YtkmnfkhchcoamaaGreatDoorTypShelf
import Derived.Lib.AppendIntMem
import Derived.Lib.BufferKept
import Derived.Lib.OwnKind
import Derived.Lib.ItoaLen
import Derived.Lib.Slices
import Derived.Lib.Hide
import Derived.OwnWalk
import Derived.WalkKit
import Derived.BigCall
import Derived.BigGuard
import Derived.CellFam
/- strconv.AppendInt, onto a row told by its cells. -/
namespace Go.Proofs.YtkmnfkhchcoamaaGreatDoor
open Go Go.RowKit Go.Sort
set_option linter.unusedSimpArgs false
set_option linter.unusedVariables false

/-- The table of powers of ten. -/
def PowAt (w : World) : Prop := Lib.TabIs Tryz.prog w "internal/strconv.uint64pow10" .u64 Lib.pow10Tab
theorem PowAt.below {w w' : World} (h : PowAt w) (hb : Below w.heap.size w w') : PowAt w' := Lib.tabBelow_of_tabIs h w' hb
theorem grow_below (w : World) (k : Nat) (os : Array Obj) : Below w.heap.size w (Sort.grow (w.drewN k) os) := Lib.below_grow _ w (Nat.le_refl _) k os
theorem info_u8 : (Tryz.prog.info? 5).map (fun i => (i.zero, i.size, i.bytes)) = some (some (.int .u8 0), 1, 1) := by kernel_rfl
theorem info_partsI {t : TypeId} {z : Value} {s b : Nat} (h : (Tryz.prog.info? t).map (fun i => (i.zero, i.size, i.bytes)) = some (some z, s, b)) : ∃ i, Tryz.prog.info? t = some i ∧ i.zero = some z ∧ i.size = s ∧ i.bytes = b := by
  obtain ⟨i, hi, hz⟩ := Option.map_eq_some_iff.1 h
  simp only [Prod.mk.injEq] at hz
  exact ⟨i, hi, hz.1, hz.2.1, hz.2.2⟩
/-- What such a call gives. -/
def AppR (B n : Nat) (xs : List Value) (ds : List UInt8) (w : World) (e : Ending) (w' : World) : Prop := ∃ v', e = .returned v' ∧ RowC w' B v' (n + ds.length) (xs ++ Lib.byteCells ds) ∧ Below B w w'
set_option maxHeartbeats 6400000 in
set_option maxRecDepth 100000 in
theorem appendUint_small (B n u : Nat) (hu : u < 100) (sv : Value) (xs : List Value) (w : World) (hown : RowC w B sv n xs) (hBw : B ≤ w.heap.size) (hlim : n + 20 ≤ 140737488355328) :
    Calls Tryz.prog 114 #[sv, .int .u64 u, .int .i64 10] w (AppR B n xs (Lib.decDigits u) w) := by
  obtain ⟨i0, hi, hz0, hz1, hz2⟩ := info_partsI info_u8
  have hlen : (Lib.decDigits u).length ≤ 20 := by
    rw [Lib.decDigits_length]
    by_cases h10 : u < 10
    · rw [Lib.nDigits_small h10]; omega
    · rw [Lib.nDigits_big h10, Lib.nDigits_small (show u / 10 < 10 by omega)]; omega
  have hsz : (⟨(Lib.decDigits u).toArray⟩ : ByteArray).size = (Lib.decDigits u).length := by simp [ByteArray.size]
  have HS := Lib.hid (fun w => Tryz.internal_strconv_small u hu w)
  have HSZ := Lib.hid hsz
  have HLEN := Lib.hid hlen
  have HOWN := Lib.hid hown
  clear hsz hlen hown
  go_enter Tryz.func114, Tryz.ntmps114
  go_wp2_with fail
  refine (HS.out w).mono ?_
  rintro e w' ⟨rfl, rfl⟩
  go_wp2_with (at_builtin; refine wpList_append_CS _ rfl _ _ rfl B Tryz.underlying113 Tryz.underlying9 hi hz0 hz1 hz2 _ _ _ rfl HOWN.out ⟨(Lib.decDigits u).toArray⟩ rfl (by rw [HSZ.out]; have := HLEN.out; omega) hBw ?_)
  intro v' w1 hown' hgrow
  have HO := Lib.hid hown'
  have HG := Lib.hid hgrow
  clear hown' hgrow
  go_wp2_with fail
  go_ret
  refine ⟨v', rfl, ?_, (Below.refl B _).grown HG.out hBw (fun k hk => (HOWN.out.lt k hk).1)⟩
  exact HO.out
set_option maxHeartbeats 12800000 in
set_option maxRecDepth 100000 in
theorem appendUint_big (B n u : Nat) (hu : 100 ≤ u) (hu64 : u < 18446744073709551616) (sv : Value) (xs : List Value) (w : World) (hown : RowC w B sv n xs) (hBw : B ≤ w.heap.size) (hlim : n + 20 ≤ 140737488355328) (htab : PowAt w) :
    Calls Tryz.prog 114 #[sv, .int .u64 u, .int .i64 10] w (AppR B n xs (Lib.decDigits u) w) := by
  obtain ⟨i0, hi, hz0, hz1, hz2⟩ := info_partsI info_u8
  have hu1 : 1 ≤ u := by omega
  have hnd20 : Lib.nDigits u ≤ 20 := by have := Lib.numDigits_eq u hu1 hu64; split at this <;> omega
  have hal : Tryz.prog.arrayLen 143 = 24 := by simp [Program.arrayLen, Tryz.underlying143]
  have hsl : ∀ W, (Instr.sliceAt 143 (.pointer (some ⟨w.heap.size, 0, none⟩)) none (some (.int .i64 (Lib.nDigits u : Int))) none).run Tryz.prog W = .ok (.slice (some ⟨w.heap.size, 0, none⟩) (Lib.nDigits u) 24) W := fun W => by
    rw [run_sliceAt_array_h W 143 ⟨w.heap.size, 0, none⟩ (by simp [Program.arrayLen, Program.elem, Tryz.underlying143]) .i64 (Lib.nDigits u : Int) (by omega) (by rw [hal]; omega)]
    go_simp
  have hH0 := Lib.holds_zero0 w 143 (Lib.nDigits u) (by omega)
  have hfmt := Tryz.internal_strconv_formatBase10 w.heap.size 0 24 u (Array.replicate (Lib.nDigits u) 0) (w.alloc (.cells Lib.zeros24 143)) hH0 (by rw [Array.size_replicate]; exact Lib.lt_pow_nDigits u) hu64 (by rw [Array.size_replicate]; omega)
  rw [Array.size_replicate] at hfmt
  have HH0 := Lib.hid hH0
  have HN := Lib.hid (Tryz.internal_strconv_numDigits u hu1 hu64 _ (Lib.tabIs_alloc htab (.cells Lib.zeros24 143)))
  have iu : (100 : Int) ≤ (u : Int) := by omega
  have HOWN := Lib.hid hown
  clear hH0 hal hown
  go_enter Tryz.func114, Tryz.ntmps114
  go_wp2_with (go_at_call 117; refine HN.out.mono ?_; rintro e w' ⟨rfl, rfl⟩)
  refine hfmt.mono ?_
  rintro e w' ⟨rfl, k, v', dk, rfl, hF⟩
  have hcells : ∀ j u', (Lib.byteCells (Lib.decDigits u))[j]? = some u' → ((putRow (fun (b : UInt8) => Value.int .u8 (b.toNat : Int)) (w.alloc (.cells Lib.zeros24 143)) w.heap.size 0 dk).drewN k).cell? ((⟨w.heap.size, 0, none⟩ : Addr).add j) = some u' := by
    intro j u' hj
    have hjl : j < (Lib.decDigits u).length := by
      have h5 := (List.getElem?_eq_some_iff.1 hj).1
      rwa [Lib.byteCells_length] at h5
    have e5 : (Lib.byteCells (Lib.decDigits u))[j]? = some (Value.int .u8 ((Lib.decDigits u)[j].toNat : Int)) := by simp [Lib.byteCells, hjl]
    rw [e5] at hj
    cases hj
    rw [Lib.row_is_numeral hF j hjl, Lib.add_plain, World.cell?_drewN]
    exact cell?_putRow (fun (b : UInt8) => Value.int .u8 (b.toNat : Int)) _ w.heap.size 0 _ dk HH0.out (by rw [hF.size, Array.size_replicate]) j (by rw [hF.size]; rw [Lib.decDigits_length] at hjl; exact hjl)
  obtain ⟨os, eo⟩ := Lib.fin_at w (.cells Lib.zeros24 143) dk k 0
  have hnx2 : Below w.heap.size w ((putRow (fun (b : UInt8) => Value.int .u8 (b.toNat : Int)) (w.alloc (.cells Lib.zeros24 143)) w.heap.size 0 dk).drewN k) := by rw [eo]; exact Lib.below_grow _ w (Nat.le_refl _) k os
  generalize (putRow (fun (b : UInt8) => Value.int .u8 (b.toNat : Int)) (w.alloc (.cells Lib.zeros24 143)) w.heap.size 0 dk).drewN k = W2 at hcells hnx2 ⊢
  have HC := Lib.hid hcells
  have HB := Lib.hid hnx2
  have HO2 := Lib.hid (HOWN.out.below hnx2)
  clear eo HH0 hfmt hcells hnx2
  go_wp2_with (at_builtin; refine wpList_append_C _ rfl _ _ rfl B Tryz.underlying113 hi hz0 hz1 hz2 _ _ _ rfl HO2.out ⟨w.heap.size, 0, none⟩ (Lib.nDigits u) 24 (Lib.byteCells (Lib.decDigits u)) rfl ?c0 HC.out ?c2 ?c3 ?c5 ?_)
  case c0 => rw [Lib.byteCells_length, Lib.decDigits_length]
  case c2 => intro u' hu'; simp only [Lib.byteCells, List.mem_map] at hu'; obtain ⟨b, _, rfl⟩ := hu'; rfl
  case c3 => omega
  case c5 => have := HB.out.size; omega
  intro v2 w3 hown' hgrow
  have HO := Lib.hid hown'
  have HG := Lib.hid hgrow
  clear hown' hgrow
  go_wp2_with fail
  go_ret
  refine ⟨v2, rfl, ?_, (HB.out.mono hBw).grown HG.out (by have := HB.out.size; omega) (fun k hk => (HOWN.out.lt k hk).1)⟩
  rw [Lib.decDigits_length]
  exact HO.out
theorem appendUint_any (B n u : Nat) (hu64 : u < 18446744073709551616) (sv : Value) (xs : List Value) (w : World) (hown : RowC w B sv n xs) (hBw : B ≤ w.heap.size) (hlim : n + 20 ≤ 140737488355328) (htab : PowAt w) :
    Calls Tryz.prog 114 #[sv, .int .u64 u, .int .i64 10] w (AppR B n xs (Lib.decDigits u) w) := by
  by_cases h : u < 100
  · exact appendUint_small B n u h sv xs w hown hBw hlim
  · exact appendUint_big B n u (by omega) hu64 sv xs w hown hBw hlim htab
set_option maxHeartbeats 6400000 in
set_option maxRecDepth 100000 in
/-- W: where the call's own blocks begin. -/
theorem appendInt_in (W : World) (n : Nat) (i : Int) (h0 : -9223372036854775808 ≤ i) (h1 : i ≤ 9223372036854775807) (sv : Value) (xs : List Value) (w : World) (hown : RowC w W.heap.size sv n xs) (hBw : Below W.heap.size W w) (hlim : n + 21 ≤ 140737488355328) (htab : PowAt W) :
    Calls Tryz.prog 103 #[sv, .int .i64 i, .int .i64 10] w (AppR W.heap.size n xs (Lib.itoa i) w) := by
  obtain ⟨i0, hi, hz0, hz1, hz2⟩ := info_partsI info_u8
  have HOWN := Lib.hid hown
  by_cases hneg : i < 0
  · obtain ⟨u, rfl⟩ : ∃ u : Nat, i = -(u : Int) := ⟨i.natAbs, by omega⟩
    have hu1 : 1 ≤ u := by omega
    have hu64 : u < 18446744073709551616 := by omega
    have hwr : IntKind.u64.wrap (-IntKind.u64.wrap (-(u : Int))) = (u : Int) := by rw [IntKind.wrap_u64, IntKind.wrap_u64]; omega
    rw [Lib.itoa_neg u hu1]
    have HB := Lib.hid hBw
    clear hown hBw
    go_enter Tryz.func103, Tryz.ntmps103
    go_wp2_with (at_builtin; refine wpList_append_C _ rfl _ _ rfl W.heap.size Tryz.underlying113 hi hz0 hz1 hz2 _ _ _ rfl (HOWN.out.alloc _) ⟨w.heap.size, 0, none⟩ 1 1 [Value.int .u8 45] rfl rfl ?c1 ?c2 ?c3 ?c4 ?_)
    case c1 => intro j u' hj; match j, hj with | 0, hj => simp at hj; subst hj; simp [Addr.add]
    case c2 => intro u' hu'; simp at hu'; subst hu'; rfl
    case c3 => omega
    case c4 => have := HB.out.size; simp; omega
    intro v1 w1 hown1 hgrow
    have HN := Lib.hid (((Below.refl W.heap.size w).alloc (by exact HB.out.size) _).grown hgrow (by have := HB.out.size; simp; omega) (fun k hk => (HOWN.out.lt k hk).1))
    have HO1 := Lib.hid hown1
    clear hown1 hgrow
    go_wp2_with fail
    refine (appendUint_any W.heap.size (n + 1) u hu64 v1 _ w1 HO1.out (by have := HN.out.size; have := HB.out.size; omega) (by omega) (htab.below (HB.out.trans HN.out))).mono ?_
    rintro e w2 ⟨v2, rfl, hown2, hnx2⟩
    have HO2 := Lib.hid hown2
    have HN2 := Lib.hid hnx2
    clear hown2 hnx2
    go_wp2_with fail
    go_ret
    refine ⟨v2, rfl, ?_, HN.out.trans HN2.out⟩
    have e1 : n + ((45 : UInt8) :: Lib.decDigits u).length = n + 1 + (Lib.decDigits u).length := by rw [List.length_cons]; omega
    have e2 : xs ++ Lib.byteCells (45 :: Lib.decDigits u) = xs ++ [Value.int .u8 45] ++ Lib.byteCells (Lib.decDigits u) := by simp [Lib.byteCells]
    rw [e1, e2]
    exact HO2.out
  · obtain ⟨u, rfl⟩ : ∃ u : Nat, i = u := ⟨i.toNat, by omega⟩
    have hu64 : u < 18446744073709551616 := by omega
    rw [Lib.itoa_nonneg]
    have HU := Lib.hid (appendUint_any W.heap.size n u hu64 sv xs w hown hBw.size (by omega) (htab.below hBw))
    clear hown
    go_enter Tryz.func103, Tryz.ntmps103
    go_wp2_with fail
    refine HU.out.mono ?_
    rintro e w2 ⟨v2, rfl, hown2, hnx2⟩
    have HO2 := Lib.hid hown2
    have HN2 := Lib.hid hnx2
    clear hown2 hnx2
    go_wp2_with fail
    first | go_ret | go_ret2
    exact ⟨v2, rfl, HO2.out, HN2.out⟩
set_option maxHeartbeats 6400000 in
theorem appendInt_any (W : World) (n : Nat) (i : Int) (h0 : -9223372036854775808 ≤ i) (h1 : i ≤ 9223372036854775807) (sv : Value) (xs : List Value) (w : World) (hown : RowC w W.heap.size sv n xs) (hBw : Below W.heap.size W w) (hlim : n + 21 ≤ 140737488355328) (htab : PowAt W) :
    Calls Tryz.prog 90 #[sv, .int .i64 i, .int .i64 10] w (AppR W.heap.size n xs (Lib.itoa i) w) := by
  have HI := Lib.hid (appendInt_in W n i h0 h1 sv xs w hown hBw hlim htab)
  clear hown hBw htab
  go_enter Tryz.func90, Tryz.ntmps90
  go_wp2_with fail
  refine HI.out.mono ?_
  rintro e w2 ⟨v2, rfl, hown2, hnx2⟩
  have HO2 := Lib.hid hown2
  have HN2 := Lib.hid hnx2
  clear hown2 hnx2
  go_wp2_with fail
  go_ret
  exact ⟨v2, rfl, HO2.out, HN2.out⟩
end Go.Proofs.YtkmnfkhchcoamaaGreatDoor

