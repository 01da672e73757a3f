/- The program's Start. -/
import Derived.Test.YthgdceikmipppaaDoorTypPX
import Derived.Deep.MidRow
namespace Go.Proofs.YthgdceikmipppaaDoor
open Go.RowKit
set_option linter.unusedSimpArgs false
set_option linter.unusedVariables false

theorem make_cells (W : World) (m : Nat) (hm : m ≤ 1000) : ∃ cur : Array Value, cur.size = m * 5 ∧
    (Instr.makeSlice 22 (.int .i64 0) (.int .i64 (m : Int))).run Tryd.prog W = .ok (.slice (some ⟨W.heap.size, 0, none⟩) 0 m) (W.alloc (.cells cur 31)) := by
  obtain ⟨i0, hi, hz0, hz1, hz2⟩ := info_parts info_ty
  have h := run_make (P := Tryd.prog) W 22 31 i0 _ Tryd.underlying22 hi hz0 .i64 .i64 (0 : Int) (m : Int) (by omega) (by omega) (by rw [hz2]; omega) (by omega)
  rw [Int.toNat_natCast, hz1] at h
  exact ⟨_, size_madeCells _ _, h⟩
theorem index_names : ∀ (k : Nat), k < 20 → ∀ W, (Instr.index 46 (.agg (basicNames.map Value.string).toArray) (.int .i64 (k : Int))).run Tryd.prog W = .ok (.string (basicNames.getD k ⟨#[]⟩)) W
  | 0, _, W => by
    show (Instr.index 46 (.agg (basicNames.map Value.string).toArray) (.int .i64 0)).run Tryd.prog W = .ok (.string (basicNames.getD 0 ⟨#[]⟩)) W
    kernel_rfl
  | 1, _, W => by
    show (Instr.index 46 (.agg (basicNames.map Value.string).toArray) (.int .i64 1)).run Tryd.prog W = .ok (.string (basicNames.getD 1 ⟨#[]⟩)) W
    kernel_rfl
  | 2, _, W => by
    show (Instr.index 46 (.agg (basicNames.map Value.string).toArray) (.int .i64 2)).run Tryd.prog W = .ok (.string (basicNames.getD 2 ⟨#[]⟩)) W
    kernel_rfl
  | 3, _, W => by
    show (Instr.index 46 (.agg (basicNames.map Value.string).toArray) (.int .i64 3)).run Tryd.prog W = .ok (.string (basicNames.getD 3 ⟨#[]⟩)) W
    kernel_rfl
  | 4, _, W => by
    show (Instr.index 46 (.agg (basicNames.map Value.string).toArray) (.int .i64 4)).run Tryd.prog W = .ok (.string (basicNames.getD 4 ⟨#[]⟩)) W
    kernel_rfl
  | 5, _, W => by
    show (Instr.index 46 (.agg (basicNames.map Value.string).toArray) (.int .i64 5)).run Tryd.prog W = .ok (.string (basicNames.getD 5 ⟨#[]⟩)) W
    kernel_rfl
  | 6, _, W => by
    show (Instr.index 46 (.agg (basicNames.map Value.string).toArray) (.int .i64 6)).run Tryd.prog W = .ok (.string (basicNames.getD 6 ⟨#[]⟩)) W
    kernel_rfl
  | 7, _, W => by
    show (Instr.index 46 (.agg (basicNames.map Value.string).toArray) (.int .i64 7)).run Tryd.prog W = .ok (.string (basicNames.getD 7 ⟨#[]⟩)) W
    kernel_rfl
  | 8, _, W => by
    show (Instr.index 46 (.agg (basicNames.map Value.string).toArray) (.int .i64 8)).run Tryd.prog W = .ok (.string (basicNames.getD 8 ⟨#[]⟩)) W
    kernel_rfl
  | 9, _, W => by
    show (Instr.index 46 (.agg (basicNames.map Value.string).toArray) (.int .i64 9)).run Tryd.prog W = .ok (.string (basicNames.getD 9 ⟨#[]⟩)) W
    kernel_rfl
  | 10, _, W => by
    show (Instr.index 46 (.agg (basicNames.map Value.string).toArray) (.int .i64 10)).run Tryd.prog W = .ok (.string (basicNames.getD 10 ⟨#[]⟩)) W
    kernel_rfl
  | 11, _, W => by
    show (Instr.index 46 (.agg (basicNames.map Value.string).toArray) (.int .i64 11)).run Tryd.prog W = .ok (.string (basicNames.getD 11 ⟨#[]⟩)) W
    kernel_rfl
  | 12, _, W => by
    show (Instr.index 46 (.agg (basicNames.map Value.string).toArray) (.int .i64 12)).run Tryd.prog W = .ok (.string (basicNames.getD 12 ⟨#[]⟩)) W
    kernel_rfl
  | 13, _, W => by
    show (Instr.index 46 (.agg (basicNames.map Value.string).toArray) (.int .i64 13)).run Tryd.prog W = .ok (.string (basicNames.getD 13 ⟨#[]⟩)) W
    kernel_rfl
  | 14, _, W => by
    show (Instr.index 46 (.agg (basicNames.map Value.string).toArray) (.int .i64 14)).run Tryd.prog W = .ok (.string (basicNames.getD 14 ⟨#[]⟩)) W
    kernel_rfl
  | 15, _, W => by
    show (Instr.index 46 (.agg (basicNames.map Value.string).toArray) (.int .i64 15)).run Tryd.prog W = .ok (.string (basicNames.getD 15 ⟨#[]⟩)) W
    kernel_rfl
  | 16, _, W => by
    show (Instr.index 46 (.agg (basicNames.map Value.string).toArray) (.int .i64 16)).run Tryd.prog W = .ok (.string (basicNames.getD 16 ⟨#[]⟩)) W
    kernel_rfl
  | 17, _, W => by
    show (Instr.index 46 (.agg (basicNames.map Value.string).toArray) (.int .i64 17)).run Tryd.prog W = .ok (.string (basicNames.getD 17 ⟨#[]⟩)) W
    kernel_rfl
  | 18, _, W => by
    show (Instr.index 46 (.agg (basicNames.map Value.string).toArray) (.int .i64 18)).run Tryd.prog W = .ok (.string (basicNames.getD 18 ⟨#[]⟩)) W
    kernel_rfl
  | 19, _, W => by
    show (Instr.index 46 (.agg (basicNames.map Value.string).toArray) (.int .i64 19)).run Tryd.prog W = .ok (.string (basicNames.getD 19 ⟨#[]⟩)) W
    kernel_rfl
  | k + 20, h, _ => absurd h (by omega)
theorem info_names : (Tryd.prog.info? 46).map (·.size) = some 20 := by kernel_rfl
theorem env_range {w : World} (h : EnvB w) : w.rangeAt 0 0 (basicNames.map Value.string) := fun j v hv => by
  obtain ⟨hj, rfl⟩ := List.getElem?_eq_some_iff.1 hv
  have hj' : j < 20 := by rw [List.length_map] at hj; exact hj
  rw [Nat.zero_add, h j hj', List.getElem_map, getD_of]
set_option maxHeartbeats 8000000 in
set_option maxRecDepth 100000 in
theorem pstart_any (w : World) (hE : EnvB w) :
    Calls Tryd.prog 9 #[] w fun e w' => (∃ ao cap, e = .returned (.slice ao 22 cap) ∧ ARow w' ao basics ∧ 22 ≤ cap) ∧ Below w.heap.size w w' := by
  obtain ⟨i0, hi, hz0, hz1, hz2⟩ := info_parts info_ty
  obtain ⟨cur, hcs, hmk⟩ := make_cells w 22 (by decide)
  obtain ⟨w1, h1⟩ : ∃ w1, w.alloc (.cells cur 31) = w1 := ⟨_, rfl⟩
  have O0 := Lib.hid (show OwnZ w1 w.heap.size (.slice (some ⟨w.heap.size, 0, none⟩) 0 22) [] from by rw [← h1]; exact World.ownsRow_made w cur 22 (Nat.le_refl _) (by unfold maxLen; omega) hcs)
  have B1 := Lib.hid (show Below w.heap.size w w1 by rw [← h1]; exact (Below.refl _ _).alloc (Nat.le_refl _) _)
  rw [h1, show ((22 : Nat) : Int) = 22 from rfl] at hmk
  have HEV := Lib.hid (env_range (hE.below B1.out))
  obtain ⟨na, hna⟩ : ∃ na, (basicNames.map Value.string).toArray = na := ⟨_, rfl⟩
  have HIX0 := index_names
  rw [hna] at HIX0
  have HIX := Lib.hid HIX0
  clear h1 hcs hE HIX0
  go_enter Tryd.func9, Tryd.ntmps9
  go_wp2_with (refine wpList_load_mid rfl 46 _ rfl 0 0 rfl (basicNames.map Value.string) _ HEV.out Tryd.underlying46 rfl info_names ?_; rw [hna])
  clear hmk hna
  go_loopw [1, 6] (fun vo i wr => ∃ k : Nat, k ≤ 20 ∧ i = .int .i64 k ∧ Hid (OwnZ wr w.heap.size vo ((basicNames.take k).map bz)) ∧ Hid (Below w.heap.size w wr)) (fun _ i _ => 20 - (intOf i).toNat)
  case atStart => exact ⟨0, Nat.zero_le _, rfl, O0, B1⟩
  case round =>
    obtain ⟨k, hk, rfl, Hown, HB⟩ := hrel
    by_cases hkl : k < 20
    · have hix := HIX.out k hkl
      obtain ⟨s, hs⟩ : ∃ s, basicNames.getD k ⟨#[]⟩ = s := ⟨_, rfl⟩
      rw [hs] at hix
      have HS := Lib.hid hs
      have BZ := Lib.hid HB.out.size
      clear hs
      have hlen : ((basicNames.take k).map bz).length = k := by rw [List.length_map, List.length_take]; have : basicNames.length = 20 := rfl; omega
      have HLEN := Lib.hid hlen
      obtain ⟨xs, hxs⟩ : ∃ xs, (basicNames.take k).map bz = xs := ⟨_, rfl⟩
      have HXS := Lib.hid hxs
      rw [hxs] at Hown HLEN
      clear hxs hlen
      have Hown' := Hown.out
      unfold OwnZ at Hown'
      rw [HLEN.out] at Hown'
      have HO := Lib.hid Hown'
      clear Hown'
      go_wp2_with (at_builtin; refine wpList_append_own_at _ rfl _ _ 22 rfl w.heap.size 31 i0 (.agg #[.int .i64 0, .string ⟨#[]⟩, .int .i64 0, .slice none 0 0, .slice none 0 0]) 5 80 Tryd.underlying22 hi hz0 hz1 hz2 rfl (by decide) _ k (tzC (xs)) rfl (HO.out.alloc _) ⟨wr.heap.size, 0, none⟩ 1 1 (tzC ([bz s])) rfl ?c1 ?c2 ?c3 ?c4 ?c5 ?c6 ?_)
      case c1 => rfl
      case c2 => exact cell_news _ _ _
      case c3 => exact tzC_one _
      case c4 => unfold maxLen; omega
      case c5 => omega
      case c6 => have := BZ.out; simp; omega
      intro v' w3 hown3 hgrow _ hblk
      have hp := push_all (r := [bz s]) (by rw [HLEN.out]; rfl) (Nat.le_refl _) Hown.out HB.out hown3 hgrow
      have ho2 := Lib.hid (show OwnZ w3 w.heap.size v' ((basicNames.take (k + 1)).map bz) by
        have e : (basicNames.take (k + 1)).map bz = xs ++ [bz s] := by
          rw [List.take_add_one, List.map_append, HXS.out]
          have hl : basicNames.length = 20 := rfl
          have := HS.out
          rw [List.getD_eq_getElem?_getD, List.getElem?_eq_getElem (by omega)] at this
          rw [List.getElem?_eq_getElem (by omega)]
          simp at this
          simp [this]
        rw [e]
        exact hp.1)
      have hb2 := Lib.hid hp.2.1
      clear hown3 hgrow hblk hp hix
      go_wp2_with fail
      go_roundw
      case rel => exact ⟨k + 1, by omega, by go_num, ho2, hb2⟩
      case measure => first | (simp [intOf]; done) | (simp [intOf]; omega)
    · obtain rfl : k = 20 := by omega
      have BZ := Lib.hid HB.out.size
      have Hown2 := Lib.hid (show OwnZ wr w.heap.size _ (basicNames.map bz) from Hown.out)
      have HO := Lib.hid (show wr.ownsRow w.heap.size 31 5 _ 20 (tzC (basicNames.map bz)) from Hown.out)
      go_wp2_with (at_builtin; refine wpList_append_own_at _ rfl _ _ 22 rfl w.heap.size 31 i0 (.agg #[.int .i64 0, .string ⟨#[]⟩, .int .i64 0, .slice none 0 0, .slice none 0 0]) 5 80 Tryd.underlying22 hi hz0 hz1 hz2 rfl (by decide) _ 20 (tzC (basicNames.map bz)) rfl (HO.out.alloc _) ⟨wr.heap.size, 0, none⟩ 2 2 (tzC ([iz 0, iz 1])) rfl ?c1 ?c2 ?c3 ?c4 ?c5 ?c6 ?_)
      case c1 => rfl
      case c2 => exact cell_news _ _ _
      case c3 => exact tzC_one _
      case c4 => unfold maxLen; omega
      case c5 => omega
      case c6 => have := BZ.out; simp; omega
      intro v' w3 hown3 hgrow _ hblk
      have hp := push_all (r := [iz 0, iz 1]) rfl (Nat.le_refl _) Hown2.out HB.out hown3 hgrow
      have hb2 := Lib.hid hp.2.1
      obtain ⟨ao, cap, rfl, ha, hcap⟩ := own_arow (show OwnZ w3 w.heap.size v' startZ from hp.1) (startZ_in _)
      have HA := Lib.hid (And.intro ha hcap)
      clear hown3 hgrow hblk hp ha hcap
      go_wp2_with fail
      go_ret
      exact ⟨⟨ao, cap, rfl, HA.out.1, HA.out.2⟩, hb2.out⟩
end Go.Proofs.YthgdceikmipppaaDoor
