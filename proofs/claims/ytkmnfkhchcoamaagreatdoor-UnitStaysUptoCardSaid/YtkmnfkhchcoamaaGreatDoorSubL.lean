import Derived.Test.YtkmnfkhchcoamaaGreatDoorSubG
import Derived.Test.YtkmnfkhchcoamaaGreatDoorTyB
import Derived.Test.YtkmnfkhchcoamaaGreatDoorTyC
import Derived.Test.YtkmnfkhchcoamaaGreatDoorRegT
import Derived.Test.YtkmnfkhchcoamaaGreatDoorTypRefAdd
import Derived.Test.YtkmnfkhchcoamaaGreatDoorRegG
import Derived.Deep.DeepCutAuto
import Derived.Laws.Small
/- alive. -/
namespace Go.Proofs.YtkmnfkhchcoamaaGreatDoor
open Go.RowKit
set_option linter.unusedSimpArgs false
set_option linter.unusedVariables false

set_option maxHeartbeats 8000000 in
set_option maxRecDepth 100000 in
theorem start_own (w : World) :
    Calls Tryz.prog 32 #[] w fun e w' => (∃ ao cap, e = .returned (.slice ao 22 cap) ∧ OwnZ w' w.heap.size (.slice ao 22 cap) startZ) ∧ Below w.heap.size w w' := by
  obtain ⟨i0, hi, hz0, hz1, hz2⟩ := info_parts info_ty
  have HNM := fun W => Lib.hid (names_any W)
  go_enter Tryz.func32, Tryz.ntmps32
  go_wp2_with fail
  have O0 := Lib.hid (show OwnZ (w.alloc (.cells #[] 38)) w.heap.size (.slice (some ⟨w.heap.size, 0, none⟩) 0 0) [] from World.ownsRow_made w #[] 0 (Nat.le_refl _) (by unfold maxLen; omega) rfl)
  obtain ⟨w1, h1⟩ : ∃ w1, w.alloc (.cells #[] 38) = w1 := ⟨_, rfl⟩
  rw [h1] at O0 ⊢
  have B1 := Lib.hid (show Below w.heap.size w w1 by rw [← h1]; exact (Below.refl _ _).alloc (Nat.le_refl _) _)
  have S1 := Lib.hid (show w1.heap.size = w.heap.size + 1 by rw [← h1]; simp)
  clear h1
  refine (HNM _).out.mono ?_
  rintro e w' ⟨rfl, rfl⟩
  obtain ⟨w2, h2⟩ : ∃ w2, w1.alloc (.cells nameCells 9) = w2 := ⟨_, rfl⟩
  rw [h2]
  obtain ⟨k2, q2, z2⟩ := box_new h2
  have O1 := Lib.hid (O0.out.kept q2)
  have K2 := Lib.hid k2
  have B2 := Lib.hid (B1.out.trans (q2.mono B1.out.size))
  have Z2 := Lib.hid z2
  clear h2 k2 q2 z2 O0 HNM
  go_wp2_with fail
  go_loopw [1, 7] (fun vo i wr => ∃ k : Nat, k ≤ 20 ∧ i = .int .i64 k ∧ Hid (OwnZ wr w.heap.size vo ((basicNames.take k).map bz)) ∧ Hid (BlockAt wr w1.heap.size nameCells 9 ∧ vo.ownBlock ≠ some w1.heap.size) ∧ Hid (Below w.heap.size w wr)) (fun _ i _ => 20 - (intOf i).toNat)
  case atStart => exact ⟨0, Nat.zero_le _, rfl, O1, Lib.hid ⟨K2.out, by intro h; have h2 : some w.heap.size = some w1.heap.size := h; rw [Option.some_inj] at h2; have := S1.out; omega⟩, B2⟩
  case round =>
    obtain ⟨k, hk, rfl, Hown, HK, HB⟩ := hrel
    by_cases hkl : k < 20
    · have ck := HK.out.1.cell k
      rw [nameCells_at hkl] at ck
      obtain ⟨s, hs⟩ : ∃ s, basicNames.getD k ⟨#[]⟩ = s := ⟨_, rfl⟩
      rw [hs] at ck
      have HS := Lib.hid hs
      have BZ := Lib.hid HB.out.size
      clear hs
      have hlen : ((basicNames.take k).map bz).length = k := by rw [List.length_map, List.length_take]; have : basicNames.length = 20 := rfl; omega
      have HLEN := Lib.hid hlen
      obtain ⟨xs, hxs⟩ : ∃ xs, (basicNames.take k).map bz = xs := ⟨_, rfl⟩
      have HXS := Lib.hid hxs
      rw [hxs] at Hown HLEN
      clear hxs hlen
      have Hown' := Hown.out
      unfold OwnZ at Hown'
      rw [HLEN.out] at Hown'
      have HO := Lib.hid Hown'
      clear Hown'
      go_wp2_with (at_builtin; refine wpList_append_own_at _ rfl _ _ 22 rfl w.heap.size 38 i0 (.agg #[.int .i64 0, .string ⟨#[]⟩, .int .i64 0, .slice none 0 0, .slice none 0 0]) 5 80 Tryz.underlying22 hi hz0 hz1 hz2 rfl (by decide) _ k (tzC xs) rfl (HO.out.alloc _) ⟨wr.heap.size, 0, none⟩ 1 1 (tzC1 (bz s)) rfl ?c1 ?c2 ?c3 ?c4 ?c5 ?c6 ?_)
      case c1 => rfl
      case c2 => exact cell_news _ _ _
      case c3 =>
        exact tzC1_one _
      case c4 => unfold maxLen; omega
      case c5 => omega
      case c6 => have := BZ.out; simp; omega
      intro v' w3 hown3 hgrow _ hblk
      have hp := push_all (r := [bz s]) (by rw [HLEN.out]; rfl) (Nat.le_refl _) Hown.out HB.out hown3 hgrow
      have ho2 := Lib.hid (show OwnZ w3 w.heap.size v' ((basicNames.take (k + 1)).map bz) by
        have e : (basicNames.take (k + 1)).map bz = xs ++ [bz s] := by
          rw [List.take_add_one, List.map_append, HXS.out]
          have hl : basicNames.length = 20 := rfl
          have := HS.out
          rw [List.getD_eq_getElem?_getD, List.getElem?_eq_getElem (by omega)] at this
          rw [List.getElem?_eq_getElem (by omega)]
          simp at this
          simp [this]
        rw [e]
        exact hp.1)
      have hk2 := Lib.hid (show BlockAt w3 w1.heap.size nameCells 9 ∧ v'.ownBlock ≠ some w1.heap.size from ⟨by
        unfold BlockAt
        rw [hp.2.2 _ HK.out.1.lt HK.out.2]
        exact HK.out.1, fun h => by
        rcases hblk with h3 | h3
        · exact HK.out.2 (h3.symm.trans h)
        · rw [h3, Option.some_inj] at h
          have := HK.out.1.lt
          try simp at h
          omega⟩)
      have hb2 := Lib.hid hp.2.1
      clear hown3 hgrow hblk hp
      go_wp2_with fail
      go_roundw
      case rel => exact ⟨k + 1, by omega, by go_num, ho2, hk2, hb2⟩
      case measure => first | (simp [intOf]; done) | (simp [intOf]; omega)
    · obtain rfl : k = 20 := by omega
      have BZ := Lib.hid HB.out.size
      have Hown2 := Lib.hid (show OwnZ wr w.heap.size _ (basicNames.map bz) from Hown.out)
      have HO := Lib.hid (show wr.ownsRow w.heap.size 38 5 _ 20 (tzC (basicNames.map bz)) from Hown.out)
      go_wp2_with (at_builtin; refine wpList_append_own_at _ rfl _ _ 22 rfl w.heap.size 38 i0 (.agg #[.int .i64 0, .string ⟨#[]⟩, .int .i64 0, .slice none 0 0, .slice none 0 0]) 5 80 Tryz.underlying22 hi hz0 hz1 hz2 rfl (by decide) _ 20 (tzC (basicNames.map bz)) rfl (HO.out.alloc _) ⟨wr.heap.size, 0, none⟩ 2 2 (tzC [iz 0, iz 1]) rfl ?c1 ?c2 ?c3 ?c4 ?c5 ?c6 ?_)
      case c1 => rfl
      case c2 => exact cell_news _ _ _
      case c3 =>
        exact tzC_one _
      case c4 => unfold maxLen; omega
      case c5 => omega
      case c6 => have := BZ.out; simp; omega
      intro v' w3 hown3 hgrow _ hblk
      have hp := push_all (r := [iz 0, iz 1]) rfl (Nat.le_refl _) Hown2.out HB.out hown3 hgrow
      have hb2 := Lib.hid hp.2.1
      obtain ⟨ao, cap, rfl, ha, hcap⟩ := own_arow (show OwnZ w3 w.heap.size v' startZ from hp.1) (startZ_in _)
      have HA := Lib.hid (show OwnZ w3 w.heap.size (.slice ao 22 cap) startZ from hp.1)
      clear hown3 hgrow hblk hp ha hcap
      go_wp2_with fail
      go_ret
      exact ⟨⟨ao, cap, rfl, HA.out⟩, hb2.out⟩
def tp0 : Ty := ⟨9, ⟨#[]⟩, 0, [], []⟩
def tp1 : Ty := ⟨2, ⟨#[]⟩, 0, [], [22]⟩
def tp2 : Ty := ⟨2, ⟨#[]⟩, 0, [], [2]⟩
def la : List Ty := basics ++ [tp0, tp1]
def lb : List Ty := la ++ [tp2]
theorem ok_tp0 : TyOk tp0 := ⟨by decide, by decide, by decide, fun s hs => absurd hs (by simp [tp0]), by decide, fun k hk => absurd hk (by simp [tp0])⟩
theorem ok_tp1 : TyOk tp1 := ⟨by decide, by decide, by decide, fun s hs => absurd hs (by simp [tp1]), by decide, fun k hk => by simp [tp1] at hk; subst hk; decide⟩
theorem cell_block {w : World} {b : Nat} {xs : Array Value} {T : TypeId} {cs : List Value} (h : BlockAt w b xs T) (e : xs = cs.toArray) : ∀ j u, cs[j]? = some u → w.cell? ((⟨b, 0, none⟩ : Addr).add j) = some u := by
  intro j u hu
  have hadd : (⟨b, 0, none⟩ : Addr).add j = ⟨b, j, none⟩ := by unfold Addr.add; split <;> simp_all
  rw [hadd, h.cell j, e]
  simpa using hu
theorem be_grown0 {w W w' : World} {E : TypeId} {size n : Nat} {v : Value} {xs : List Value} (h : W.ownsRow w.heap.size E size v n xs) (hb : Below w.heap.size w W) (hg : W.grownBy w' v.ownBlock) : Below w.heap.size w w' :=
  hb.grown hg hb.size (fun k hk => (World.ownsRow.lt h k hk).1)
end Go.Proofs.YtkmnfkhchcoamaaGreatDoor
/- The law's own few: types that came in, cut. -/
namespace Go.Proofs.YtkmnfkhchcoamaaGreatDoor
open Go.RowKit
set_option linter.unusedSimpArgs false
set_option linter.unusedVariables false

/-- A type that came in. -/
structure TyIn (w : World) (wo ko : Option Addr) (wc kc : Nat) (t : Ty) : Prop where
  words : SRow w wo t.words
  kids : IRow w ko t.kids
  wc1 : t.words.length ≤ wc
  wc2 : wc ≤ 9223372036854775807
  kc1 : t.kids.length ≤ kc
  kc2 : kc ≤ 9223372036854775807
  nl : t.name.size ≤ 9223372036854775807
  ws : ∀ s ∈ t.words, s.size ≤ 9223372036854775807
  nums : (-9223372036854775808 ≤ t.kind ∧ t.kind ≤ 9223372036854775807) ∧ -9223372036854775808 ≤ t.n ∧ t.n ≤ 9223372036854775807
  ks : ∀ k ∈ t.kids, -9223372036854775808 ≤ k ∧ k ≤ 9223372036854775807
theorem TyIn.below {w w' : World} {wo ko : Option Addr} {wc kc : Nat} {t : Ty} (h : TyIn w wo ko wc kc t) (hb : Below w.heap.size w w') : TyIn w' wo ko wc kc t :=
  { h with words := h.words.below hb, kids := h.kids.below hb }
theorem IRow.take {w : World} {ao : Option Addr} {zs : List Int} (h : IRow w ao zs) (k : Nat) : IRow w ao (zs.take k) := by
  rcases h with h | ⟨b, off, h1, h2, h3⟩
  · exact .inl (by rw [h]; simp)
  · refine .inr ⟨b, off, h1, h2, fun i hi => ?_⟩
    rw [List.length_take] at hi
    rw [h3 i (by omega), List.getD_eq_getElem?_getD, List.getD_eq_getElem?_getD, List.getElem?_take_of_lt (by omega)]
/-- A row of types that came in. -/
def InRow (w : World) (ao : Option Addr) (l : List Ty) : Prop :=
  l = [] ∨ ∃ b off, ao = some ⟨b, off, none⟩ ∧ b < w.heap.size ∧ ∀ i (h : i < l.length), ∃ wo wc ko kc, w.cell? ⟨b, off + i * 5, none⟩ = some (.int .i64 l[i].kind) ∧ w.cell? ⟨b, off + i * 5 + 1, none⟩ = some (.string l[i].name) ∧ w.cell? ⟨b, off + i * 5 + 2, none⟩ = some (.int .i64 l[i].n) ∧
    w.cell? ⟨b, off + i * 5 + 3, none⟩ = some (.slice wo l[i].words.length wc) ∧ w.cell? ⟨b, off + i * 5 + 4, none⟩ = some (.slice ko l[i].kids.length kc) ∧ TyIn w wo ko wc kc l[i]
theorem InRow.below {w w' : World} {ao : Option Addr} {l : List Ty} (h : InRow w ao l) (hb : Below w.heap.size w w') : InRow w' ao l := by
  rcases h with h | ⟨b, off, h1, h2, h3⟩
  · exact .inl h
  · refine .inr ⟨b, off, h1, Nat.lt_of_lt_of_le h2 hb.size, fun i hi => ?_⟩
    obtain ⟨wo, wc, ko, kc, c0, c1, c2, c3, c4, c5⟩ := h3 i hi
    exact ⟨wo, wc, ko, kc, (hb.cell h2).trans c0, (hb.cell h2).trans c1, (hb.cell h2).trans c2, (hb.cell h2).trans c3, (hb.cell h2).trans c4, c5.below hb⟩
theorem InRow.cells {w : World} {ao : Option Addr} {l : List Ty} (h : InRow w ao l) (hn : 0 < l.length) : ∃ b off, ao = some ⟨b, off, none⟩ ∧ b < w.heap.size ∧ ∀ i (h : i < l.length), ∃ wo wc ko kc, w.cell? ⟨b, off + i * 5, none⟩ = some (.int .i64 l[i].kind) ∧ w.cell? ⟨b, off + i * 5 + 1, none⟩ = some (.string l[i].name) ∧ w.cell? ⟨b, off + i * 5 + 2, none⟩ = some (.int .i64 l[i].n) ∧
    w.cell? ⟨b, off + i * 5 + 3, none⟩ = some (.slice wo l[i].words.length wc) ∧ w.cell? ⟨b, off + i * 5 + 4, none⟩ = some (.slice ko l[i].kids.length kc) ∧ TyIn w wo ko wc kc l[i] := by
  rcases h with h | h
  · rw [h] at hn; exact absurd hn (by simp)
  · exact h
theorem SRow.take {w : World} {ao : Option Addr} {ss : List ByteArray} (h : SRow w ao ss) (k : Nat) : SRow w ao (ss.take k) := by
  rcases h with h | ⟨b, off, h1, h2, h3⟩
  · exact .inl (by rw [h]; simp)
  · refine .inr ⟨b, off, h1, h2, fun i hi => ?_⟩
    rw [List.length_take] at hi
    rw [h3 i (by omega), List.getD_eq_getElem?_getD, List.getD_eq_getElem?_getD, List.getElem?_take_of_lt (by omega)]
/-- A type, cut. -/
def cutT (t : Ty) (a b c : Nat) : Ty := ⟨t.kind, t.name.extract 0 a, t.n, t.words.take b, t.kids.take c⟩
theorem cut_in {w : World} {wo ko : Option Addr} {wc kc a b c : Nat} {t : Ty} (h : TyIn w wo ko wc kc t) (ha : a ≤ 50) (ha2 : a ≤ t.name.size) (hb : b ≤ 18) (hb2 : b ≤ t.words.length) (hc : c ≤ 18) (hc2 : c ≤ t.kids.length) :
    (cutT t a b c).words.length = b ∧ (cutT t a b c).kids.length = c ∧ InZ w ⟨cutT t a b c, wo, wc, ko, kc⟩ := by
  have e1 : (t.words.take b).length = b := by rw [List.length_take]; omega
  have e2 : (t.kids.take c).length = c := by rw [List.length_take]; omega
  refine ⟨e1, e2, ?_, ?_, h.words.take b, h.kids.take c, ?_⟩
  · show (t.words.take b).length ≤ wc
    have := h.wc1
    omega
  · show (t.kids.take c).length ≤ kc
    have := h.kc1
    omega
  · refine ⟨?_, by show (t.words.take b).length ≤ 18; omega, by show (t.kids.take c).length ≤ 18; omega, fun s hs => h.ws s (List.mem_of_mem_take hs), h.nums, fun k hk => h.ks k (List.mem_of_mem_take hk)⟩
    show (t.name.extract 0 a).size ≤ 50
    rw [ByteArray.size_extract]
    omega
end Go.Proofs.YtkmnfkhchcoamaaGreatDoor

