/- slices.Sort at this translation: one application of the library's own contract; what it makes of a row of the call's own. -/
import Derived.Shelf.Sort.Plain
import Derived.Test.YtfcoelnibpinmaaDoorAstPart
namespace Go.Proofs
open Go.Shelf
def Tryd.lays189_ren : Go.Shelf.Ren := ⟨fun | 189 => 24 | 125 => 30 | 257 => 29 | 128 => 40 | 129 => 41 | 294 => 31 | 295 => 32 | 296 => 33 | 297 => 34 | 298 => 35 | 299 => 36 | 216 => 37 | 300 => 38 | 301 => 39 | 328 => 42 | 329 => 43 | 330 => 44 | 331 => 45 | 332 => 46 | 215 => 47 | 343 => 48 | n => n, fun | 28 => 35 | 3 => 3 | 46 => 56 | 0 => 0 | 51 => 66 | 53 => 68 | 4 => 4 | 183 => 59 | 182 => 58 | 131 => 63 | 5 => 5 | 9 => 9 | 218 => 69 | 222 => 73 | 228 => 76 | 229 => 77 | n => n, fun | n => n⟩
theorem Tryd.lays189 : Go.Proofs.Lays.n189 Tryd.prog Tryd.lays189_ren := {
  mixed := by kernel_rfl
  f125 := Tryd.func30.trans (congrArg some (by kernel_rfl))
  f128 := Tryd.func40.trans (congrArg some (by kernel_rfl))
  f129 := Tryd.func41.trans (congrArg some (by kernel_rfl))
  f189 := Tryd.func24.trans (congrArg some (by kernel_rfl))
  f215 := Tryd.func47.trans (congrArg some (by kernel_rfl))
  f216 := Tryd.func37.trans (congrArg some (by kernel_rfl))
  f257 := Tryd.func29.trans (congrArg some (by kernel_rfl))
  f294 := Tryd.func31.trans (congrArg some (by kernel_rfl))
  f295 := Tryd.func32.trans (congrArg some (by kernel_rfl))
  f296 := Tryd.func33.trans (congrArg some (by kernel_rfl))
  f297 := Tryd.func34.trans (congrArg some (by kernel_rfl))
  f298 := Tryd.func35.trans (congrArg some (by kernel_rfl))
  f299 := Tryd.func36.trans (congrArg some (by kernel_rfl))
  f300 := Tryd.func38.trans (congrArg some (by kernel_rfl))
  f301 := Tryd.func39.trans (congrArg some (by kernel_rfl))
  f328 := Tryd.func42.trans (congrArg some (by kernel_rfl))
  f329 := Tryd.func43.trans (congrArg some (by kernel_rfl))
  f330 := Tryd.func44.trans (congrArg some (by kernel_rfl))
  f331 := Tryd.func45.trans (congrArg some (by kernel_rfl))
  f332 := Tryd.func46.trans (congrArg some (by kernel_rfl))
  f343 := Tryd.func48.trans (congrArg some (by kernel_rfl))
  t0 := Tryd.underlying0
  a0 := Tryd.isAgg0
  z0 := Tryd.sizeOf0
  v0 := Tryd.zeroValue0
  t3 := Tryd.underlying3
  a3 := Tryd.isAgg3
  z3 := Tryd.sizeOf3
  v3 := Tryd.zeroValue3
  t4 := Tryd.underlying4
  a4 := Tryd.isAgg4
  z4 := Tryd.sizeOf4
  v4 := Tryd.zeroValue4
  t5 := Tryd.underlying5
  a5 := Tryd.isAgg5
  z5 := Tryd.sizeOf5
  v5 := Tryd.zeroValue5
  t9 := Tryd.underlying9
  a9 := Tryd.isAgg9
  z9 := Tryd.sizeOf9
  v9 := Tryd.zeroValue9
  t28 := Tryd.underlying35
  a28 := Tryd.isAgg35
  z28 := Tryd.sizeOf35
  v28 := Tryd.zeroValue35
  t46 := Tryd.underlying56
  a46 := Tryd.isAgg56
  z46 := Tryd.sizeOf56
  v46 := Tryd.zeroValue56
  t51 := Tryd.underlying66
  a51 := Tryd.isAgg66
  z51 := Tryd.sizeOf66
  v51 := Tryd.zeroValue66
  t53 := Tryd.underlying68
  a53 := Tryd.isAgg68
  z53 := Tryd.sizeOf68
  v53 := Tryd.zeroValue68
  t131 := Tryd.underlying63
  a131 := Tryd.isAgg63
  z131 := Tryd.sizeOf63
  v131 := Tryd.zeroValue63
  t182 := Tryd.underlying58
  a182 := Tryd.isAgg58
  z182 := Tryd.sizeOf58
  v182 := Tryd.zeroValue58
  t183 := Tryd.underlying59
  a183 := Tryd.isAgg59
  z183 := Tryd.sizeOf59
  v183 := Tryd.zeroValue59
  t218 := Tryd.underlying69
  a218 := Tryd.isAgg69
  z218 := Tryd.sizeOf69
  v218 := Tryd.zeroValue69
  t222 := Tryd.underlying73
  a222 := Tryd.isAgg73
  z222 := Tryd.sizeOf73
  v222 := Tryd.zeroValue73
  t228 := Tryd.underlying76
  a228 := Tryd.isAgg76
  z228 := Tryd.sizeOf76
  v228 := Tryd.zeroValue76
  t229 := Tryd.underlying77
  a229 := Tryd.isAgg77
  z229 := Tryd.sizeOf77
  v229 := Tryd.zeroValue77 }
open Go.Sort Go.RowKit in
theorem Tryd.slices_Sort_int (blk off cap : Nat) (zs : List Int) (w : World) (hH : Holds (Value.int .i64) w blk off zs.toArray) (hblk : blk < w.heap.size) (hsz : zs.length < 4611686018427387904) :
    Calls Tryd.prog 24 #[.slice (some ⟨blk, off, none⟩) zs.length cap] w fun e w' =>
      e = .returned (.tuple #[]) ∧ ∃ n os, w' = grow (putRow (Value.int .i64) (Sort.ahead w n) blk off (zs.mergeSort fun x y => decide (x ≤ y)).toArray) os := Any.slices_Sort_int Tryd.lays189 blk off cap zs w hH hblk hsz
end Go.Proofs
namespace Go.Proofs.YtfcoelnibpinmaaDoor
open Go.RowKit Go.Sort

/-- slices.Sort over the places of a node's part. -/
theorem sort_part (ns : List Nd) (tp : TreeP ns) (i : Nat) (hi : i < ns.length) (base g cap : Nat) (w : World) (ho : w.ownsRow base 3 1 (.slice (some ⟨g, 0, none⟩) (part ns i).length cap) (part ns i).length (IV (part ns i))) :
    Calls Tryd.prog 24 #[.slice (some ⟨g, 0, none⟩) (part ns i).length cap] w fun e w' => e = .returned (.tuple #[]) ∧ w.grownBy w' (some g) ∧ ∀ j, j < (srt ns i).length → w'.cell? ⟨g, j, none⟩ = some (.int .i64 (((srt ns i).getD j 0 : Nat) : Int)) := by
  have hlen : (part ns i).length ≤ 4000 := by
    rw [← srt_length tp hi]
    have h1 := List.length_filter_le (fun j => decide (j ∈ part ns i)) (List.range (i + 1))
    rw [List.length_range] at h1
    have := tp.2.1
    unfold srt
    omega
  obtain ⟨h1, h2 | ⟨g', cap', cur, e, hg, hh, hc1, hc2, hcs, htk⟩⟩ := ho
  · simp at h2
  · obtain ⟨rfl, rfl⟩ : g = g' ∧ cap = cap' := by simpa using e
    have hlt : g < w.heap.size := (Array.getElem?_eq_some_iff.1 hh).1
    have el : (II (part ns i)).length = (part ns i).length := by simp [II]
    have hH : Holds (Value.int .i64) w g 0 (II (part ns i)).toArray := by
      intro j hj
      have hj' : j < (part ns i).length := by simpa [II] using hj
      rw [Nat.zero_add]
      have hc : cur[j]? = some (.int .i64 (((part ns i)[j] : Nat) : Int)) := by
        have h3 : cur.toList[j]? = (IV (part ns i))[j]? := by rw [← htk, List.getElem?_take_of_lt (by omega)]
        rw [← Array.getElem?_toList, h3]
        simp [IV, hj']
      refine ⟨?_, ?_⟩
      · simp only [World.cell?, hh, Option.isSome_none, Bool.false_eq_true, if_false]
        rw [hc, getElem!_pos _ j hj]
        simp [II]
      · simp [World.frozen?, hh]
    have HS := Tryd.slices_Sort_int g 0 cap (II (part ns i)) w hH hlt (by rw [el]; omega)
    rw [el] at HS
    refine HS.mono ?_
    rintro e w' ⟨rfl, n, os, rfl⟩
    have es : (II (part ns i)).mergeSort (fun x y => decide (x ≤ y)) = II (srt ns i) := srt_sort tp hi
    rw [es]
    refine ⟨rfl, ⟨rfl, rfl, rfl, ?_, ?_⟩, ?_⟩
    · simp [grow, putRow, mapBlock]
    · intro k hk hne
      rw [heap_grow_old _ _ (by simpa [putRow, mapBlock] using hk)]
      simp only [putRow, mapBlock, heap_ahead, Array.getElem?_modify]
      rw [if_neg (fun e => hne (by rw [e]))]
    · intro j hj
      have es2 : (II (srt ns i)).length = (II (part ns i)).length := by rw [el]; simp only [II, List.length_map]; exact srt_length tp hi
      have h := cell?_putRow (Value.int .i64) (Sort.ahead w n) g 0 (II (part ns i)).toArray (II (srt ns i)).toArray (holds_ahead _ w n g 0 _ hH) (by simpa using es2) j (by simpa [II] using hj)
      rw [Nat.zero_add] at h
      rw [cell?_grow _ _ _ (by simpa [putRow, mapBlock] using hlt), h, getElem!_pos _ j (by simpa [II] using hj)]
      simp [II, hj]
end Go.Proofs.YtfcoelnibpinmaaDoor
