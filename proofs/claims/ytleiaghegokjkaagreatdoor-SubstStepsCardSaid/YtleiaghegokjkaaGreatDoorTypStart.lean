/- The reference's Names and Start. -/
import Derived.Test.YtleiaghegokjkaaGreatDoorTypRow
import Derived.Deep.DeepCutAuto
namespace Go.Proofs.YtleiaghegokjkaaGreatDoor
open Go.RowKit
set_option linter.unusedSimpArgs false
set_option linter.unusedVariables false

def nameCells : Array Value := #[.string ⟨#[98, 111, 111, 108]⟩, .string ⟨#[115, 116, 114, 105, 110, 103]⟩, .string ⟨#[105, 110, 116]⟩, .string ⟨#[105, 110, 116, 56]⟩, .string ⟨#[105, 110, 116, 49, 54]⟩, .string ⟨#[105, 110, 116, 51, 50]⟩, .string ⟨#[105, 110, 116, 54, 52]⟩, .string ⟨#[117, 105, 110, 116]⟩, .string ⟨#[117, 105, 110, 116, 56]⟩, .string ⟨#[117, 105, 110, 116, 49, 54]⟩, .string ⟨#[117, 105, 110, 116, 51, 50]⟩, .string ⟨#[117, 105, 110, 116, 54, 52]⟩, .string ⟨#[102, 108, 111, 97, 116, 51, 50]⟩, .string ⟨#[102, 108, 111, 97, 116, 54, 52]⟩, .string ⟨#[117, 110, 116, 121, 112, 101, 100, 32, 98, 111, 111, 108]⟩, .string ⟨#[117, 110, 116, 121, 112, 101, 100, 32, 115, 116, 114, 105, 110, 103]⟩, .string ⟨#[117, 110, 116, 121, 112, 101, 100, 32, 105, 110, 116]⟩, .string ⟨#[117, 110, 116, 121, 112, 101, 100, 32, 114, 117, 110, 101]⟩, .string ⟨#[117, 110, 116, 121, 112, 101, 100, 32, 102, 108, 111, 97, 116]⟩, .string ⟨#[117, 110, 116, 121, 112, 101, 100, 32, 110, 105, 108]⟩]
theorem nameCells_eq : nameCells = (basicNames.map Value.string).toArray := rfl
theorem nameCells_at {i : Nat} (h : i < 20) : nameCells[i]? = some (.string (basicNames.getD i ⟨#[]⟩)) := by
  rw [nameCells_eq]
  have hl : basicNames.length = 20 := rfl
  rw [List.getElem?_toArray, List.getElem?_map, List.getD_eq_getElem?_getD, List.getElem?_eq_getElem (by omega)]
  rfl
set_option maxHeartbeats 1000000 in
set_option maxRecDepth 100000 in
theorem names_any (w : World) :
    Calls Tryz.prog 35 #[] w fun e w' => e = .returned (.slice (some ⟨w.heap.size, 0, none⟩) 20 20) ∧ w' = w.alloc (.cells nameCells 9) := by
  unfold nameCells
  go_enter Tryz.func35, Tryz.ntmps35
  go_wp2_with fail
  go_ret
  exact ⟨rfl, rfl⟩
theorem tzC1_one (z : Tz) : ∀ u ∈ tzC1 z, u.oneCell' = true := by
  intro u hu
  simp only [tzC1, List.mem_cons, List.not_mem_nil, or_false] at hu
  rcases hu with rfl | rfl | rfl | rfl | rfl <;> rfl
theorem tzC_one (l : List Tz) : ∀ u ∈ tzC l, u.oneCell' = true := by
  intro u hu
  obtain ⟨z, hz, h⟩ := List.mem_flatMap.1 hu
  exact tzC1_one z u h
/-- A basic type that has a name. -/
def bz (s : ByteArray) : Tz := ⟨⟨0, s, 0, [], []⟩, none, 0, none, 0⟩
def iz (n : Int) : Tz := ⟨⟨7, ⟨#[]⟩, n, [], []⟩, none, 0, none, 0⟩
theorem bz_in (w : World) (s : ByteArray) (h : s.size ≤ 50) : InZ w (bz s) :=
  ⟨Nat.le_refl _, Nat.le_refl _, ⟨.inl rfl, .inl rfl, ⟨h, by simp [bz], by simp [bz], by simp [bz], by simp [bz], by simp [bz]⟩⟩⟩
theorem iz_in (w : World) (n : Int) (h : n = 0 ∨ n = 1) : InZ w (iz n) :=
  ⟨Nat.le_refl _, Nat.le_refl _, ⟨.inl rfl, .inl rfl, ⟨by simp [iz]; decide, by simp [iz], by simp [iz], by simp [iz], by simp [iz]; omega, by simp [iz]⟩⟩⟩
def startZ : List Tz := basicNames.map bz ++ [iz 0, iz 1]
theorem startZ_eq : startZ.map (·.t) = basics := rfl
theorem startZ_in (w : World) : ∀ z ∈ startZ, InZ w z := by
  intro z hz
  unfold startZ at hz
  rw [List.mem_append] at hz
  rcases hz with hz | hz
  · obtain ⟨s, hs, rfl⟩ := List.mem_map.1 hz
    refine bz_in w s ?_
    have : ∀ s ∈ basicNames, s.size ≤ 50 := by decide
    exact this s hs
  · simp at hz
    rcases hz with rfl | rfl
    · exact iz_in w 0 (.inl rfl)
    · exact iz_in w 1 (.inr rfl)
theorem cell_news (w : World) (xs : List Value) (t : TypeId) : ∀ (j : Nat) (u : Value), xs[j]? = some u → (w.alloc (.cells xs.toArray t)).cell? ((⟨w.heap.size, 0, none⟩ : Addr).add j) = some u := by
  intro j u hu
  have hadd : (⟨w.heap.size, 0, none⟩ : Addr).add j = ⟨w.heap.size, j, none⟩ := by unfold Addr.add; split <;> simp_all
  rw [hadd, World.cell?_alloc_at _ _ _ _ rfl]
  simpa using hu
set_option maxHeartbeats 8000000 in
set_option maxRecDepth 100000 in
theorem start_any (w : World) :
    Calls Tryz.prog 19 #[] w fun e w' => (∃ ao cap, e = .returned (.slice ao 22 cap) ∧ ARow w' ao basics ∧ 22 ≤ cap) ∧ Below w.heap.size w w' := by
  obtain ⟨i0, hi, hz0, hz1, hz2⟩ := info_parts info_ty
  have HNM := fun W => Lib.hid (names_any W)
  go_enter Tryz.func19, Tryz.ntmps19
  go_wp2_with fail
  have O0 := Lib.hid (show OwnZ (w.alloc (.cells #[] 41)) w.heap.size (.slice (some ⟨w.heap.size, 0, none⟩) 0 0) [] from World.ownsRow_made w #[] 0 (Nat.le_refl _) (by unfold maxLen; omega) rfl)
  obtain ⟨w1, h1⟩ : ∃ w1, w.alloc (.cells #[] 41) = w1 := ⟨_, rfl⟩
  rw [h1] at O0 ⊢
  have B1 := Lib.hid (show Below w.heap.size w w1 by rw [← h1]; exact (Below.refl _ _).alloc (Nat.le_refl _) _)
  have S1 := Lib.hid (show w1.heap.size = w.heap.size + 1 by rw [← h1]; simp)
  clear h1
  refine (HNM _).out.mono ?_
  rintro e w' ⟨rfl, rfl⟩
  obtain ⟨w2, h2⟩ : ∃ w2, w1.alloc (.cells nameCells 9) = w2 := ⟨_, rfl⟩
  rw [h2]
  obtain ⟨k2, q2, z2⟩ := box_new h2
  have O1 := Lib.hid (O0.out.kept q2)
  have K2 := Lib.hid k2
  have B2 := Lib.hid (B1.out.trans (q2.mono B1.out.size))
  have Z2 := Lib.hid z2
  clear h2 k2 q2 z2 O0 HNM
  go_wp2_with fail
  go_loopw [1, 7] (fun vo i wr => ∃ k : Nat, k ≤ 20 ∧ i = .int .i64 k ∧ Hid (OwnZ wr w.heap.size vo ((basicNames.take k).map bz)) ∧ Hid (BlockAt wr w1.heap.size nameCells 9 ∧ vo.ownBlock ≠ some w1.heap.size) ∧ Hid (Below w.heap.size w wr)) (fun _ i _ => 20 - (intOf i).toNat)
  case atStart => exact ⟨0, Nat.zero_le _, rfl, O1, Lib.hid ⟨K2.out, by intro h; have h2 : some w.heap.size = some w1.heap.size := h; rw [Option.some_inj] at h2; have := S1.out; omega⟩, B2⟩
  case round =>
    obtain ⟨k, hk, rfl, Hown, HK, HB⟩ := hrel
    by_cases hkl : k < 20
    · have ck := HK.out.1.cell k
      rw [nameCells_at hkl] at ck
      obtain ⟨s, hs⟩ : ∃ s, basicNames.getD k ⟨#[]⟩ = s := ⟨_, rfl⟩
      rw [hs] at ck
      have HS := Lib.hid hs
      have BZ := Lib.hid HB.out.size
      clear hs
      have hlen : ((basicNames.take k).map bz).length = k := by rw [List.length_map, List.length_take]; have : basicNames.length = 20 := rfl; omega
      have HLEN := Lib.hid hlen
      obtain ⟨xs, hxs⟩ : ∃ xs, (basicNames.take k).map bz = xs := ⟨_, rfl⟩
      have HXS := Lib.hid hxs
      rw [hxs] at Hown HLEN
      clear hxs hlen
      have Hown' := Hown.out
      unfold OwnZ at Hown'
      rw [HLEN.out] at Hown'
      have HO := Lib.hid Hown'
      clear Hown'
      go_wp2_with (at_builtin; refine wpList_append_own_at _ rfl _ _ 22 rfl w.heap.size 41 i0 (.agg #[.int .i64 0, .string ⟨#[]⟩, .int .i64 0, .slice none 0 0, .slice none 0 0]) 5 80 Tryz.underlying22 hi hz0 hz1 hz2 rfl (by decide) _ k (tzC xs) rfl (HO.out.alloc _) ⟨wr.heap.size, 0, none⟩ 1 1 (tzC1 (bz s)) rfl ?c1 ?c2 ?c3 ?c4 ?c5 ?c6 ?_)
      case c1 => rfl
      case c2 => exact cell_news _ _ _
      case c3 =>
        exact tzC1_one _
      case c4 => unfold maxLen; omega
      case c5 => omega
      case c6 => have := BZ.out; simp; omega
      intro v' w3 hown3 hgrow _ hblk
      have hp := push_all (r := [bz s]) (by rw [HLEN.out]; rfl) (Nat.le_refl _) Hown.out HB.out hown3 hgrow
      have ho2 := Lib.hid (show OwnZ w3 w.heap.size v' ((basicNames.take (k + 1)).map bz) by
        have e : (basicNames.take (k + 1)).map bz = xs ++ [bz s] := by
          rw [List.take_add_one, List.map_append, HXS.out]
          have hl : basicNames.length = 20 := rfl
          have := HS.out
          rw [List.getD_eq_getElem?_getD, List.getElem?_eq_getElem (by omega)] at this
          rw [List.getElem?_eq_getElem (by omega)]
          simp at this
          simp [this]
        rw [e]
        exact hp.1)
      have hk2 := Lib.hid (show BlockAt w3 w1.heap.size nameCells 9 ∧ v'.ownBlock ≠ some w1.heap.size from ⟨by
        unfold BlockAt
        rw [hp.2.2 _ HK.out.1.lt HK.out.2]
        exact HK.out.1, fun h => by
        rcases hblk with h3 | h3
        · exact HK.out.2 (h3.symm.trans h)
        · rw [h3, Option.some_inj] at h
          have := HK.out.1.lt
          try simp at h
          omega⟩)
      have hb2 := Lib.hid hp.2.1
      clear hown3 hgrow hblk hp
      go_wp2_with fail
      go_roundw
      case rel => exact ⟨k + 1, by omega, by go_num, ho2, hk2, hb2⟩
      case measure => first | (simp [intOf]; done) | (simp [intOf]; omega)
    · obtain rfl : k = 20 := by omega
      have BZ := Lib.hid HB.out.size
      have Hown2 := Lib.hid (show OwnZ wr w.heap.size _ (basicNames.map bz) from Hown.out)
      have HO := Lib.hid (show wr.ownsRow w.heap.size 41 5 _ 20 (tzC (basicNames.map bz)) from Hown.out)
      go_wp2_with (at_builtin; refine wpList_append_own_at _ rfl _ _ 22 rfl w.heap.size 41 i0 (.agg #[.int .i64 0, .string ⟨#[]⟩, .int .i64 0, .slice none 0 0, .slice none 0 0]) 5 80 Tryz.underlying22 hi hz0 hz1 hz2 rfl (by decide) _ 20 (tzC (basicNames.map bz)) rfl (HO.out.alloc _) ⟨wr.heap.size, 0, none⟩ 2 2 (tzC [iz 0, iz 1]) rfl ?c1 ?c2 ?c3 ?c4 ?c5 ?c6 ?_)
      case c1 => rfl
      case c2 => exact cell_news _ _ _
      case c3 =>
        exact tzC_one _
      case c4 => unfold maxLen; omega
      case c5 => omega
      case c6 => have := BZ.out; simp; omega
      intro v' w3 hown3 hgrow _ hblk
      have hp := push_all (r := [iz 0, iz 1]) rfl (Nat.le_refl _) Hown2.out HB.out hown3 hgrow
      have hb2 := Lib.hid hp.2.1
      obtain ⟨ao, cap, rfl, ha, hcap⟩ := own_arow (show OwnZ w3 w.heap.size v' startZ from hp.1) (startZ_in _)
      have HA := Lib.hid (And.intro ha hcap)
      clear hown3 hgrow hblk hp ha hcap
      go_wp2_with fail
      go_ret
      exact ⟨⟨ao, cap, rfl, HA.out.1, HA.out.2⟩, hb2.out⟩
end Go.Proofs.YtleiaghegokjkaaGreatDoor
