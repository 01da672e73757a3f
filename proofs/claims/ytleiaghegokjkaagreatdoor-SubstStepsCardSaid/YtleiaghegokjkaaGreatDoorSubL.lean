import Derived.Test.YtleiaghegokjkaaGreatDoorSubG
import Derived.Test.YtleiaghegokjkaaGreatDoorTypStart
import Derived.Test.YtleiaghegokjkaaGreatDoorTypTX
import Derived.Test.YtleiaghegokjkaaGreatDoorTypTL
import Derived.Test.YtleiaghegokjkaaGreatDoorRegT
import Derived.Test.YtleiaghegokjkaaGreatDoorTypRow
import Derived.Test.YtleiaghegokjkaaGreatDoorTypRefAdd
import Derived.Test.YtleiaghegokjkaaGreatDoorRegG
import Derived.Deep.DeepCutAuto
import Derived.Laws.Small
/- alive. -/
namespace Go.Proofs.YtleiaghegokjkaaGreatDoor
open Go.RowKit
set_option linter.unusedSimpArgs false
set_option linter.unusedVariables false

set_option maxHeartbeats 8000000 in
set_option maxRecDepth 100000 in
theorem start_own (w : World) :
    Calls Tryz.prog 19 #[] w fun e w' => (∃ ao cap, e = .returned (.slice ao 22 cap) ∧ OwnZ w' w.heap.size (.slice ao 22 cap) startZ) ∧ Below w.heap.size w w' := by
  obtain ⟨i0, hi, hz0, hz1, hz2⟩ := info_parts info_ty
  have HNM := fun W => Lib.hid (names_any W)
  go_enter Tryz.func19, Tryz.ntmps19
  go_wp2_with fail
  have O0 := Lib.hid (show OwnZ (w.alloc (.cells #[] 41)) w.heap.size (.slice (some ⟨w.heap.size, 0, none⟩) 0 0) [] from World.ownsRow_made w #[] 0 (Nat.le_refl _) (by unfold maxLen; omega) rfl)
  obtain ⟨w1, h1⟩ : ∃ w1, w.alloc (.cells #[] 41) = w1 := ⟨_, rfl⟩
  rw [h1] at O0 ⊢
  have B1 := Lib.hid (show Below w.heap.size w w1 by rw [← h1]; exact (Below.refl _ _).alloc (Nat.le_refl _) _)
  have S1 := Lib.hid (show w1.heap.size = w.heap.size + 1 by rw [← h1]; simp)
  clear h1
  refine (HNM _).out.mono ?_
  rintro e w' ⟨rfl, rfl⟩
  obtain ⟨w2, h2⟩ : ∃ w2, w1.alloc (.cells nameCells 9) = w2 := ⟨_, rfl⟩
  rw [h2]
  obtain ⟨k2, q2, z2⟩ := box_new h2
  have O1 := Lib.hid (O0.out.kept q2)
  have K2 := Lib.hid k2
  have B2 := Lib.hid (B1.out.trans (q2.mono B1.out.size))
  have Z2 := Lib.hid z2
  clear h2 k2 q2 z2 O0 HNM
  go_wp2_with fail
  go_loopw [1, 7] (fun vo i wr => ∃ k : Nat, k ≤ 20 ∧ i = .int .i64 k ∧ Hid (OwnZ wr w.heap.size vo ((basicNames.take k).map bz)) ∧ Hid (BlockAt wr w1.heap.size nameCells 9 ∧ vo.ownBlock ≠ some w1.heap.size) ∧ Hid (Below w.heap.size w wr)) (fun _ i _ => 20 - (intOf i).toNat)
  case atStart => exact ⟨0, Nat.zero_le _, rfl, O1, Lib.hid ⟨K2.out, by intro h; have h2 : some w.heap.size = some w1.heap.size := h; rw [Option.some_inj] at h2; have := S1.out; omega⟩, B2⟩
  case round =>
    obtain ⟨k, hk, rfl, Hown, HK, HB⟩ := hrel
    by_cases hkl : k < 20
    · have ck := HK.out.1.cell k
      rw [nameCells_at hkl] at ck
      obtain ⟨s, hs⟩ : ∃ s, basicNames.getD k ⟨#[]⟩ = s := ⟨_, rfl⟩
      rw [hs] at ck
      have HS := Lib.hid hs
      have BZ := Lib.hid HB.out.size
      clear hs
      have hlen : ((basicNames.take k).map bz).length = k := by rw [List.length_map, List.length_take]; have : basicNames.length = 20 := rfl; omega
      have HLEN := Lib.hid hlen
      obtain ⟨xs, hxs⟩ : ∃ xs, (basicNames.take k).map bz = xs := ⟨_, rfl⟩
      have HXS := Lib.hid hxs
      rw [hxs] at Hown HLEN
      clear hxs hlen
      have Hown' := Hown.out
      unfold OwnZ at Hown'
      rw [HLEN.out] at Hown'
      have HO := Lib.hid Hown'
      clear Hown'
      go_wp2_with (at_builtin; refine wpList_append_own_at _ rfl _ _ 22 rfl w.heap.size 41 i0 (.agg #[.int .i64 0, .string ⟨#[]⟩, .int .i64 0, .slice none 0 0, .slice none 0 0]) 5 80 Tryz.underlying22 hi hz0 hz1 hz2 rfl (by decide) _ k (tzC xs) rfl (HO.out.alloc _) ⟨wr.heap.size, 0, none⟩ 1 1 (tzC1 (bz s)) rfl ?c1 ?c2 ?c3 ?c4 ?c5 ?c6 ?_)
      case c1 => rfl
      case c2 => exact cell_news _ _ _
      case c3 =>
        exact tzC1_one _
      case c4 => unfold maxLen; omega
      case c5 => omega
      case c6 => have := BZ.out; simp; omega
      intro v' w3 hown3 hgrow _ hblk
      have hp := push_all (r := [bz s]) (by rw [HLEN.out]; rfl) (Nat.le_refl _) Hown.out HB.out hown3 hgrow
      have ho2 := Lib.hid (show OwnZ w3 w.heap.size v' ((basicNames.take (k + 1)).map bz) by
        have e : (basicNames.take (k + 1)).map bz = xs ++ [bz s] := by
          rw [List.take_add_one, List.map_append, HXS.out]
          have hl : basicNames.length = 20 := rfl
          have := HS.out
          rw [List.getD_eq_getElem?_getD, List.getElem?_eq_getElem (by omega)] at this
          rw [List.getElem?_eq_getElem (by omega)]
          simp at this
          simp [this]
        rw [e]
        exact hp.1)
      have hk2 := Lib.hid (show BlockAt w3 w1.heap.size nameCells 9 ∧ v'.ownBlock ≠ some w1.heap.size from ⟨by
        unfold BlockAt
        rw [hp.2.2 _ HK.out.1.lt HK.out.2]
        exact HK.out.1, fun h => by
        rcases hblk with h3 | h3
        · exact HK.out.2 (h3.symm.trans h)
        · rw [h3, Option.some_inj] at h
          have := HK.out.1.lt
          try simp at h
          omega⟩)
      have hb2 := Lib.hid hp.2.1
      clear hown3 hgrow hblk hp
      go_wp2_with fail
      go_roundw
      case rel => exact ⟨k + 1, by omega, by go_num, ho2, hk2, hb2⟩
      case measure => first | (simp [intOf]; done) | (simp [intOf]; omega)
    · obtain rfl : k = 20 := by omega
      have BZ := Lib.hid HB.out.size
      have Hown2 := Lib.hid (show OwnZ wr w.heap.size _ (basicNames.map bz) from Hown.out)
      have HO := Lib.hid (show wr.ownsRow w.heap.size 41 5 _ 20 (tzC (basicNames.map bz)) from Hown.out)
      go_wp2_with (at_builtin; refine wpList_append_own_at _ rfl _ _ 22 rfl w.heap.size 41 i0 (.agg #[.int .i64 0, .string ⟨#[]⟩, .int .i64 0, .slice none 0 0, .slice none 0 0]) 5 80 Tryz.underlying22 hi hz0 hz1 hz2 rfl (by decide) _ 20 (tzC (basicNames.map bz)) rfl (HO.out.alloc _) ⟨wr.heap.size, 0, none⟩ 2 2 (tzC [iz 0, iz 1]) rfl ?c1 ?c2 ?c3 ?c4 ?c5 ?c6 ?_)
      case c1 => rfl
      case c2 => exact cell_news _ _ _
      case c3 =>
        exact tzC_one _
      case c4 => unfold maxLen; omega
      case c5 => omega
      case c6 => have := BZ.out; simp; omega
      intro v' w3 hown3 hgrow _ hblk
      have hp := push_all (r := [iz 0, iz 1]) rfl (Nat.le_refl _) Hown2.out HB.out hown3 hgrow
      have hb2 := Lib.hid hp.2.1
      obtain ⟨ao, cap, rfl, ha, hcap⟩ := own_arow (show OwnZ w3 w.heap.size v' startZ from hp.1) (startZ_in _)
      have HA := Lib.hid (show OwnZ w3 w.heap.size (.slice ao 22 cap) startZ from hp.1)
      clear hown3 hgrow hblk hp ha hcap
      go_wp2_with fail
      go_ret
      exact ⟨⟨ao, cap, rfl, HA.out⟩, hb2.out⟩
def tp0 : Ty := ⟨9, ⟨#[]⟩, 0, [], []⟩
def tp1 : Ty := ⟨2, ⟨#[]⟩, 0, [], [22]⟩
def tp2 : Ty := ⟨2, ⟨#[]⟩, 0, [], [2]⟩
def la : List Ty := basics ++ [tp0, tp1]
def lb : List Ty := la ++ [tp2]
theorem ok_tp0 : TyOk tp0 := ⟨by decide, by decide, by decide, fun s hs => absurd hs (by simp [tp0]), by decide, fun k hk => absurd hk (by simp [tp0])⟩
theorem ok_tp1 : TyOk tp1 := ⟨by decide, by decide, by decide, fun s hs => absurd hs (by simp [tp1]), by decide, fun k hk => by simp [tp1] at hk; subst hk; decide⟩
theorem right_la : rightT la = true := by decide +kernel
theorem right_lb : rightT lb = true := by decide +kernel
theorem sub_la : psubT la 23 [2] = (lb, 24, 0) := by decide +kernel
theorem need_lb : ∀ j, j ≤ 24 → needD (fun j => lb.getD j noT) 24 25 j = true → j = 2 ∨ j = 24 := by decide +kernel
theorem out_lb : outF (fun j => lb.getD j noT) 24 = (⟨#[91, 93, 105, 110, 116]⟩, 0) := by decide +kernel
theorem text_lb (j : Nat) (hj : j < lb.length) (h : j ≤ 24) (hn : needD (fun j => lb.getD j noT) 24 25 j = true) : TextC lb[j] := by
  rcases need_lb j h hn with rfl | rfl
  · exact text_zero ⟨#[105, 110, 116]⟩ 0 [] [] rfl
  · exact text_slice ⟨#[]⟩ 0 [] [2] rfl
theorem cell_block {w : World} {b : Nat} {xs : Array Value} {T : TypeId} {cs : List Value} (h : BlockAt w b xs T) (e : xs = cs.toArray) : ∀ j u, cs[j]? = some u → w.cell? ((⟨b, 0, none⟩ : Addr).add j) = some u := by
  intro j u hu
  have hadd : (⟨b, 0, none⟩ : Addr).add j = ⟨b, j, none⟩ := by unfold Addr.add; split <;> simp_all
  rw [hadd, h.cell j, e]
  simpa using hu
theorem be_grown0 {w W w' : World} {E : TypeId} {size n : Nat} {v : Value} {xs : List Value} (h : W.ownsRow w.heap.size E size v n xs) (hb : Below w.heap.size w W) (hg : W.grownBy w' v.ownBlock) : Below w.heap.size w w' :=
  hb.grown hg hb.size (fun k hk => (World.ownsRow.lt h k hk).1)
theorem alive_row {w W w5 : World} {ao : Option Addr} {cap kb : Nat} {v5 : Value} (ho : W.ownsRow w.heap.size 41 5 (.slice ao 22 cap) 22 (tzC startZ)) (hk : BlockAt W kb #[.int .i64 22] 3)
    (hown : w5.ownsRow w.heap.size 41 5 v5 (22 + 2) (tzC startZ ++ tzC [⟨tp0, none, 0, none, 0⟩, ⟨tp1, none, 0, some ⟨kb, 0, none⟩, 1⟩])) (hg : W.grownBy w5 (Value.slice ao 22 cap).ownBlock) (hb : Below w.heap.size w W) (hne : (Value.slice ao 22 cap).ownBlock ≠ some kb) :
    (∃ ao5 cap5, v5 = .slice ao5 24 cap5 ∧ ARow w5 ao5 la ∧ 24 ≤ cap5) ∧ Below w.heap.size w w5 := by
  have hk5 := fresh_grown hk hne hg
  have b5 := be_grown0 ho hb hg
  have hz : OwnZ w5 w.heap.size v5 (startZ ++ [⟨tp0, none, 0, none, 0⟩, ⟨tp1, none, 0, some ⟨kb, 0, none⟩, 1⟩]) := by
    unfold OwnZ
    rw [tzC_app]
    exact hown
  obtain ⟨ao5, cap5, e, ha, hc⟩ := own_arow hz (fun z hz => by
    rcases List.mem_append.1 hz with h | h
    · exact startZ_in _ z h
    · rcases List.mem_cons.1 h with h | h
      · rw [h]; exact ⟨by decide, by decide, .inl rfl, .inl rfl, ok_tp0⟩
      · rw [List.mem_singleton.1 h]
        exact ⟨by (show (0 : Nat) ≤ 0; decide), by (show (1 : Nat) ≤ 1; decide), .inl rfl, .inr ⟨kb, 0, rfl, hk5.lt, fun i hi => by
          have hi : i < 1 := hi
          obtain rfl : i = 0 := by omega
          exact hk5.cell 0⟩, ok_tp1⟩)
  exact ⟨⟨ao5, cap5, e, ha, hc⟩, b5⟩
set_option maxHeartbeats 8000000 in
set_option maxRecDepth 100000 in
theorem alive_any (w : World) (hE : Env w) :
    Calls Tryz.prog 9 #[] w fun e w' => e = .returned (.bool true) ∧ Below w.heap.size w w' := by
  obtain ⟨i0, hi, hz0, hz1, hz2⟩ := info_parts info_ty
  have HST := Lib.hid (fun W => start_own W)
  have HE := Lib.hid hE
  clear hE
  go_enter Tryz.func9, Tryz.ntmps9
  go_wp2_with fail
  refine (HST.out _).mono ?_
  rintro e w1 ⟨⟨ao0, cap0, rfl, ho⟩, bs⟩
  have HO := Lib.hid (show w1.ownsRow w.heap.size 41 5 (.slice ao0 22 cap0) 22 (tzC startZ) from ho)
  have HNO := Lib.hid (own_not ho (.inr (Nat.le_refl _)))
  have BS := Lib.hid bs
  have HSZ := Lib.hid (show w.heap.size ≤ w1.heap.size from bs.size)
  clear ho bs
  go_wp2_with (at_builtin; refine wpList_append_own_at _ rfl _ _ 22 rfl w.heap.size 41 i0 (.agg #[.int .i64 0, .string ⟨#[]⟩, .int .i64 0, .slice none 0 0, .slice none 0 0]) 5 80 Tryz.underlying22 hi hz0 hz1 hz2 rfl (by decide) _ 22 (tzC startZ) rfl ((HO.out.alloc _).alloc _) ⟨w1.heap.size + 1, 0, none⟩ 2 2 (tzC [⟨tp0, none, 0, none, 0⟩, ⟨tp1, none, 0, some ⟨w1.heap.size, 0, none⟩, 1⟩]) rfl ?c1 ?c2 ?c3 ?c4 ?c5 ?c6 ?_)
  case c1 => rfl
  case c2 => exact cell_block (xs := #[.int .i64 9, .string ⟨#[]⟩, .int .i64 0, .slice none 0 0, .slice none 0 0, .int .i64 2, .string ⟨#[]⟩, .int .i64 0, .slice none 0 0, .slice (some ⟨w1.heap.size, 0, none⟩) 1 1]) (T := 41) (by simpa using BlockAt.new (w1.alloc (.cells #[.int .i64 22] 3)) #[.int .i64 9, .string ⟨#[]⟩, .int .i64 0, .slice none 0 0, .slice none 0 0, .int .i64 2, .string ⟨#[]⟩, .int .i64 0, .slice none 0 0, .slice (some ⟨w1.heap.size, 0, none⟩) 1 1] 41) rfl
  case c3 => exact tzC_one _
  case c4 => unfold maxLen; omega
  case c5 => omega
  case c6 => have := HSZ.out; simp; omega
  intro v5 wc hown hgrow _ hblk
  have HR := Lib.hid (alive_row ((HO.out.alloc _).alloc _) ((BlockAt.new w1 #[.int .i64 22] 3).below ((Below.refl _ _).alloc (Nat.le_refl _) _)) hown hgrow ((BS.out.alloc HSZ.out _).alloc (by have := HSZ.out; simp; omega) _) HNO.out)
  clear hown hgrow hblk HO HNO
  obtain ⟨⟨ao, cap, e5, ha5, hc5⟩, b5⟩ := HR.out
  subst e5
  have HA := Lib.hid ha5
  have HC := Lib.hid hc5
  have HB := Lib.hid b5
  clear HR ha5 hc5 b5

  · skip
    obtain ⟨w2, h2⟩ : ∃ w2, wc.alloc (.cells #[.int .i64 2] 3) = w2 := ⟨_, rfl⟩
    obtain ⟨k2, q2, z2⟩ := box_new h2
    have B2 := Lib.hid (HB.out.trans (q2.mono HB.out.size))
    have HG : IRow w2 (some ⟨wc.heap.size, 0, none⟩) [2] := .inr ⟨wc.heap.size, 0, rfl, k2.lt, fun i hi => by
      have hi : i < 1 := hi
      obtain rfl : i = 0 := by omega
      exact k2.cell 0⟩
    have HSB0 := subst_any la ao cap 23 [2] (some ⟨wc.heap.size, 0, none⟩) 1 w2 (HA.out.below q2) (by decide) HC.out (HE.out.below B2.out) HG (by decide) (fun a ha => by simp at ha; subst ha; decide)
    rw [sub_la, show la.length = 24 from rfl] at HSB0
    have HSB : Calls Tryz.prog 7 #[.slice ao 24 cap, .int .i64 23, .slice (some ⟨wc.heap.size, 0, none⟩) 1 1] w2 (PAddR w2 (lb, 24, 0)) := HSB0
    have HSB1 := Lib.hid HSB
    clear HSB HSB0 HG k2 q2 z2
    go_wp2_with fail
    refine HSB1.out.mono ?_
    rintro e w3 ⟨ao3, cap3, rfl, ha3, hc3, b3⟩
    have B3 := Lib.hid (B2.out.trans (b3.mono B2.out.size))
    have HTX0 := text_in lb ao3 cap3 24 w3 ha3 right_lb hc3 (HE.out.below B3.out) (by decide) (fun j hj h hn => text_lb j hj h hn)
    have HTX : Calls Tryz.prog 23 #[.slice ao3 25 cap3, .int .i64 24] w3 (TextR (fun j => lb.getD j noT) 24 w3) := HTX0
    have HTX := Lib.hid HTX
    clear ha3 hc3 b3 h2 HTX0
    rw [show (lb, (24 : Int), (0 : Int)).1.length = 25 from rfl]
    go_wp2_with fail
    refine HTX.out.mono ?_
    unfold TextR
    rw [out_lb]
    rintro e w4 ⟨rfl, b4⟩
    have B4 := Lib.hid (B3.out.trans (b4.mono B3.out.size))
    clear b4
    go_wp2_with fail
    go_ret
    exact ⟨by first | rfl | (simp; done), B4.out⟩
end Go.Proofs.YtleiaghegokjkaaGreatDoor
/- The law's own few: types that came in, cut. -/
namespace Go.Proofs.YtleiaghegokjkaaGreatDoor
open Go.RowKit
set_option linter.unusedSimpArgs false
set_option linter.unusedVariables false

/-- A type that came in. -/
structure TyIn (w : World) (wo ko : Option Addr) (wc kc : Nat) (t : Ty) : Prop where
  words : SRow w wo t.words
  kids : IRow w ko t.kids
  wc1 : t.words.length ≤ wc
  wc2 : wc ≤ 9223372036854775807
  kc1 : t.kids.length ≤ kc
  kc2 : kc ≤ 9223372036854775807
  nl : t.name.size ≤ 9223372036854775807
  ws : ∀ s ∈ t.words, s.size ≤ 9223372036854775807
  nums : (-9223372036854775808 ≤ t.kind ∧ t.kind ≤ 9223372036854775807) ∧ -9223372036854775808 ≤ t.n ∧ t.n ≤ 9223372036854775807
  ks : ∀ k ∈ t.kids, -9223372036854775808 ≤ k ∧ k ≤ 9223372036854775807
theorem TyIn.below {w w' : World} {wo ko : Option Addr} {wc kc : Nat} {t : Ty} (h : TyIn w wo ko wc kc t) (hb : Below w.heap.size w w') : TyIn w' wo ko wc kc t :=
  { h with words := h.words.below hb, kids := h.kids.below hb }
theorem IRow.take {w : World} {ao : Option Addr} {zs : List Int} (h : IRow w ao zs) (k : Nat) : IRow w ao (zs.take k) := by
  rcases h with h | ⟨b, off, h1, h2, h3⟩
  · exact .inl (by rw [h]; simp)
  · refine .inr ⟨b, off, h1, h2, fun i hi => ?_⟩
    rw [List.length_take] at hi
    rw [h3 i (by omega), List.getD_eq_getElem?_getD, List.getD_eq_getElem?_getD, List.getElem?_take_of_lt (by omega)]
/-- A row of types that came in. -/
def InRow (w : World) (ao : Option Addr) (l : List Ty) : Prop :=
  l = [] ∨ ∃ b off, ao = some ⟨b, off, none⟩ ∧ b < w.heap.size ∧ ∀ i (h : i < l.length), ∃ wo wc ko kc, w.cell? ⟨b, off + i * 5, none⟩ = some (.int .i64 l[i].kind) ∧ w.cell? ⟨b, off + i * 5 + 1, none⟩ = some (.string l[i].name) ∧ w.cell? ⟨b, off + i * 5 + 2, none⟩ = some (.int .i64 l[i].n) ∧
    w.cell? ⟨b, off + i * 5 + 3, none⟩ = some (.slice wo l[i].words.length wc) ∧ w.cell? ⟨b, off + i * 5 + 4, none⟩ = some (.slice ko l[i].kids.length kc) ∧ TyIn w wo ko wc kc l[i]
theorem InRow.below {w w' : World} {ao : Option Addr} {l : List Ty} (h : InRow w ao l) (hb : Below w.heap.size w w') : InRow w' ao l := by
  rcases h with h | ⟨b, off, h1, h2, h3⟩
  · exact .inl h
  · refine .inr ⟨b, off, h1, Nat.lt_of_lt_of_le h2 hb.size, fun i hi => ?_⟩
    obtain ⟨wo, wc, ko, kc, c0, c1, c2, c3, c4, c5⟩ := h3 i hi
    exact ⟨wo, wc, ko, kc, (hb.cell h2).trans c0, (hb.cell h2).trans c1, (hb.cell h2).trans c2, (hb.cell h2).trans c3, (hb.cell h2).trans c4, c5.below hb⟩
theorem InRow.cells {w : World} {ao : Option Addr} {l : List Ty} (h : InRow w ao l) (hn : 0 < l.length) : ∃ b off, ao = some ⟨b, off, none⟩ ∧ b < w.heap.size ∧ ∀ i (h : i < l.length), ∃ wo wc ko kc, w.cell? ⟨b, off + i * 5, none⟩ = some (.int .i64 l[i].kind) ∧ w.cell? ⟨b, off + i * 5 + 1, none⟩ = some (.string l[i].name) ∧ w.cell? ⟨b, off + i * 5 + 2, none⟩ = some (.int .i64 l[i].n) ∧
    w.cell? ⟨b, off + i * 5 + 3, none⟩ = some (.slice wo l[i].words.length wc) ∧ w.cell? ⟨b, off + i * 5 + 4, none⟩ = some (.slice ko l[i].kids.length kc) ∧ TyIn w wo ko wc kc l[i] := by
  rcases h with h | h
  · rw [h] at hn; exact absurd hn (by simp)
  · exact h
theorem SRow.take {w : World} {ao : Option Addr} {ss : List ByteArray} (h : SRow w ao ss) (k : Nat) : SRow w ao (ss.take k) := by
  rcases h with h | ⟨b, off, h1, h2, h3⟩
  · exact .inl (by rw [h]; simp)
  · refine .inr ⟨b, off, h1, h2, fun i hi => ?_⟩
    rw [List.length_take] at hi
    rw [h3 i (by omega), List.getD_eq_getElem?_getD, List.getD_eq_getElem?_getD, List.getElem?_take_of_lt (by omega)]
/-- A type, cut. -/
def cutT (t : Ty) (a b c : Nat) : Ty := ⟨t.kind, t.name.extract 0 a, t.n, t.words.take b, t.kids.take c⟩
theorem cut_in {w : World} {wo ko : Option Addr} {wc kc a b c : Nat} {t : Ty} (h : TyIn w wo ko wc kc t) (ha : a ≤ 50) (ha2 : a ≤ t.name.size) (hb : b ≤ 18) (hb2 : b ≤ t.words.length) (hc : c ≤ 18) (hc2 : c ≤ t.kids.length) :
    (cutT t a b c).words.length = b ∧ (cutT t a b c).kids.length = c ∧ InZ w ⟨cutT t a b c, wo, wc, ko, kc⟩ := by
  have e1 : (t.words.take b).length = b := by rw [List.length_take]; omega
  have e2 : (t.kids.take c).length = c := by rw [List.length_take]; omega
  refine ⟨e1, e2, ?_, ?_, h.words.take b, h.kids.take c, ?_⟩
  · show (t.words.take b).length ≤ wc
    have := h.wc1
    omega
  · show (t.kids.take c).length ≤ kc
    have := h.kc1
    omega
  · refine ⟨?_, by show (t.words.take b).length ≤ 18; omega, by show (t.kids.take c).length ≤ 18; omega, fun s hs => h.ws s (List.mem_of_mem_take hs), h.nums, fun k hk => h.ks k (List.mem_of_mem_take hk)⟩
    show (t.name.extract 0 a).size ≤ 50
    rw [ByteArray.size_extract]
    omega
set_option maxHeartbeats 16000000 in
set_option maxRecDepth 100000 in
theorem few_any (l : List Ty) (ao : Option Addr) (cap most : Nat) (w : World) (hl : InRow w ao l) (hc : l.length ≤ cap) (hc2 : cap ≤ 9223372036854775807) (hm : most ≤ 1000) :
    Calls Tryz.prog 5 #[.slice ao l.length cap, .int .i64 (most : Int)] w fun e w' => ∃ ao' cap' us, e = .returned (.slice ao' us.length cap') ∧ ARow w' ao' us ∧ us.length ≤ cap' ∧ us.length ≤ most ∧ Below w.heap.size w w' := by
  obtain ⟨i0, hi, hz0, hz1, hz2⟩ := info_parts info_ty
  have HA := Lib.hid hl
  obtain ⟨L, hL⟩ : ∃ L, l.length = L := ⟨_, rfl⟩
  have HL := Lib.hid hL
  rw [hL] at hc ⊢
  obtain ⟨m, hmm⟩ : ∃ m : Nat, min L most = m := ⟨_, rfl⟩
  have m1 : m ≤ L := by omega
  have m2 : m ≤ most := by omega
  have m3 : m ≤ cap := by omega
  have Hm : ∀ (ts : Array TypeId) (t : TypeId) (W : World), (Builtin.min_ ts t #[.int .i64 (L : Int), .int .i64 (most : Int)]).run Tryz.prog W = .ok (.int .i64 (m : Int)) W := fun ts t W => by rw [run_min_int2, show (if (most : Int) < (L : Int) then (most : Int) else (L : Int)) = (m : Int) by split <;> omega]
  clear hmm hl hL
  go_enter Tryz.func5, Tryz.ntmps5
  go_wp2_with fail
  go_loopw [5, 15] (fun vo i wr => ∃ (k : Nat) (xs : List Tz), k ≤ m ∧ i = .int .i64 k ∧ Hid (xs.length = k) ∧ Hid (OwnZ wr w.heap.size vo xs) ∧ Hid (∀ z ∈ xs, InZ w z) ∧ Hid (Below w.heap.size w wr)) (fun _ i _ => m - (intOf i).toNat)
  case atStart => exact ⟨0, [], Nat.zero_le _, rfl, Lib.hid rfl, Lib.hid (own_nil _ _), Lib.hid (by simp), Lib.hid (Below.refl _ _)⟩
  case round =>
    obtain ⟨k, xs, hk, rfl, Hlen, Hown, Hz, HB⟩ := hrel
    by_cases hkm : k < m
    · have hks : k < l.length := by rw [HL.out]; omega
      obtain ⟨ab, aof, rfl, hab, hcl⟩ := HA.out.cells (by omega)
      obtain ⟨xw, xwc, xk, xkc, a0', a1', a2', a3', a4', hxc0⟩ := hcl k hks
      obtain ⟨x, hx⟩ : ∃ x, l[k] = x := ⟨_, rfl⟩
      rw [hx] at a0' a1' a2' a3' a4' hxc0
      have a0 := (HB.out.cell hab).trans a0'
      have a1 := (HB.out.cell hab).trans a1'
      have a2 := (HB.out.cell hab).trans a2'
      have a3 := (HB.out.cell hab).trans a3'
      have a4 := (HB.out.cell hab).trans a4'
      have HXI := Lib.hid hxc0
      clear hx hcl hab hks a0' a1' a2' a3' a4'
      obtain ⟨wn, hwn⟩ : ∃ wn, wr.alloc (.cells #[.int .i64 x.kind, .string x.name, .int .i64 x.n, .slice xw x.words.length xwc, .slice xk x.kids.length xkc] 41) = wn := ⟨_, rfl⟩
      obtain ⟨k2, qn, z2⟩ := box_new hwn
      obtain ⟨xb, hxb⟩ : ∃ xb, wr.heap.size = xb := ⟨_, rfl⟩
      rw [hxb] at k2
      have HXB := Lib.hid hxb
      have J0 := Lib.hid k2
      obtain ⟨-, c1, -, c3, c4⟩ := cell5 k2
      have BW := Lib.hid (HB.out.trans (qn.mono HB.out.size))
      have BLE := Lib.hid (show w.heap.size ≤ xb by rw [← hxb]; exact HB.out.size)
      have hown2 := Lib.hid (Hown.out.kept qn)
      obtain ⟨q0, hq0⟩ : ∃ q : Nat, min x.name.size 50 = q := ⟨_, rfl⟩
      obtain ⟨q1, hq1⟩ : ∃ q : Nat, min x.words.length 18 = q := ⟨_, rfl⟩
      obtain ⟨q2, hq2⟩ : ∃ q : Nat, min x.kids.length 18 = q := ⟨_, rfl⟩
      have p01 : q0 ≤ x.name.size := by omega
      have p02 : q0 ≤ 50 := by omega
      have p11 : q1 ≤ x.words.length := by omega
      have p12 : q1 ≤ 18 := by omega
      have p13 : q1 ≤ xwc := Nat.le_trans p11 HXI.out.wc1
      have p21 : q2 ≤ x.kids.length := by omega
      have p22 : q2 ≤ 18 := by omega
      have p23 : q2 ≤ xkc := Nat.le_trans p21 HXI.out.kc1
      have n1 := HXI.out.nl
      have n2 := Nat.le_trans HXI.out.wc1 HXI.out.wc2
      have n3 := Nat.le_trans HXI.out.kc1 HXI.out.kc2
      have n4 := HXI.out.wc2
      have n5 := HXI.out.kc2
      have HCI := Lib.hid (cut_in HXI.out p02 p01 p12 p11 p22 p21)
      have G0 : ∀ (ts : Array TypeId) (ty : TypeId) (W : World), (Builtin.min_ ts ty #[.int .i64 (x.name.size : Int), .int .i64 50]).run Tryz.prog W = .ok (.int .i64 (q0 : Int)) W := fun ts ty W => by rw [run_min_int2, show (if (50 : Int) < (x.name.size : Int) then (50 : Int) else (x.name.size : Int)) = (q0 : Int) by split <;> omega]
      have G1 : ∀ (ts : Array TypeId) (ty : TypeId) (W : World), (Builtin.min_ ts ty #[.int .i64 (x.words.length : Int), .int .i64 18]).run Tryz.prog W = .ok (.int .i64 (q1 : Int)) W := fun ts ty W => by rw [run_min_int2, show (if (18 : Int) < (x.words.length : Int) then (18 : Int) else (x.words.length : Int)) = (q1 : Int) by split <;> omega]
      have G2 : ∀ (ts : Array TypeId) (ty : TypeId) (W : World), (Builtin.min_ ts ty #[.int .i64 (x.kids.length : Int), .int .i64 18]).run Tryz.prog W = .ok (.int .i64 (q2 : Int)) W := fun ts ty W => by rw [run_min_int2, show (if (18 : Int) < (x.kids.length : Int) then (18 : Int) else (x.kids.length : Int)) = (q2 : Int) by split <;> omega]
      clear hq0 hq1 hq2 k2 qn z2 hxc0
      go_upto_region 5 with fail
      clear hwn a0 a1 a2 a3 a4 hxb
      refine GoG.start [(22, ⟨xb, 1, none⟩, .string x.name), (24, ⟨xb, 3, none⟩, .slice xw x.words.length xwc), (26, ⟨xb, 4, none⟩, .slice xk x.kids.length xkc)] (by kernel_rfl) ?_ ?_
      · exact Keeps.cons (by first | exact c1 | assumption) (Keeps.cons (by first | exact c3 | assumption) (Keeps.cons (by first | exact c4 | assumption) Keeps.nil))
      refine GoG.take (i := 0) (v := ?_) [] rfl (by kernel_rfl) (by kernel_rfl) (by kernel_rfl) (by kernel_rfl) (by kernel_rfl) (by kernel_rfl) (fun _ _ _ h => h) (yields_free (by rfl) (fun w => ?_)) ?_
      rotate_left
      · go_simp; try (with_reducible rfl)
      try simp only [Act.put, List.getElem_toArray, List.getElem_cons_succ, List.getElem_cons_zero, List.setIfInBounds_toArray, List.set_cons_zero, List.set_cons_succ]
      refine GoG.take (i := 1) (v := ?_) [22] rfl (by kernel_rfl) (by kernel_rfl) (by kernel_rfl) (by kernel_rfl) (by kernel_rfl) (by kernel_rfl) (fun _ _ _ h => h) (yields_load 22 ⟨xb, 1, none⟩ (.string x.name) (by simp) (by decide) (by rfl) (fun w hw => ?_)) ?_
      rotate_left
      · go_simp; try (with_reducible rfl)
      try simp only [Act.put, List.getElem_toArray, List.getElem_cons_succ, List.getElem_cons_zero, List.setIfInBounds_toArray, List.set_cons_zero, List.set_cons_succ]
      refine GoG.take (i := 2) (v := ?_) [] rfl (by kernel_rfl) (by kernel_rfl) (by kernel_rfl) (by kernel_rfl) (by kernel_rfl) (by kernel_rfl) (fun _ _ _ h => h) (yields_free (by rfl) (fun w => ?_)) ?_
      rotate_left
      · go_simp; try (with_reducible rfl)
      try simp only [Act.put, List.getElem_toArray, List.getElem_cons_succ, List.getElem_cons_zero, List.setIfInBounds_toArray, List.set_cons_zero, List.set_cons_succ]
      refine GoG.take (i := 3) (v := ?_) [22] rfl (by kernel_rfl) (by kernel_rfl) (by kernel_rfl) (by kernel_rfl) (by kernel_rfl) (by kernel_rfl) (fun _ _ _ h => h) (yields_load 22 ⟨xb, 1, none⟩ (.string x.name) (by simp) (by decide) (by rfl) (fun w hw => ?_)) ?_
      rotate_left
      · go_simp; try (with_reducible rfl)
      try simp only [Act.put, List.getElem_toArray, List.getElem_cons_succ, List.getElem_cons_zero, List.setIfInBounds_toArray, List.set_cons_zero, List.set_cons_succ]
      refine GoG.take (i := 4) (v := ?_) [] rfl (by kernel_rfl) (by kernel_rfl) (by kernel_rfl) (by kernel_rfl) (by kernel_rfl) (by kernel_rfl) (fun _ _ _ h => h) (yields_free (by rfl) (fun w => ?_)) ?_
      rotate_left
      · go_simp; try (with_reducible rfl)
      try simp only [Act.put, List.getElem_toArray, List.getElem_cons_succ, List.getElem_cons_zero, List.setIfInBounds_toArray, List.set_cons_zero, List.set_cons_succ]
      refine GoG.take (i := 5) (v := ?_) [] rfl (by kernel_rfl) (by kernel_rfl) (by kernel_rfl) (by kernel_rfl) (by kernel_rfl) (by kernel_rfl) (fun _ _ _ h => h) (yields_free (by rfl) (fun w => ?_)) ?_
      rotate_left
      · go_simp; try (with_reducible rfl)
      try simp only [Act.put, List.getElem_toArray, List.getElem_cons_succ, List.getElem_cons_zero, List.setIfInBounds_toArray, List.set_cons_zero, List.set_cons_succ]
      refine GoG.take (i := 6) (v := ?_) [] rfl (by kernel_rfl) (by kernel_rfl) (by kernel_rfl) (by kernel_rfl) (by kernel_rfl) (by kernel_rfl) (fun _ _ _ h => h) (yields_free (by rfl) (fun w => ?_)) ?_
      rotate_left
      · go_simp; try (with_reducible rfl)
      try simp only [Act.put, List.getElem_toArray, List.getElem_cons_succ, List.getElem_cons_zero, List.setIfInBounds_toArray, List.set_cons_zero, List.set_cons_succ]
      refine GoG.take (i := 7) (v := ?_) [] rfl (by kernel_rfl) (by kernel_rfl) (by kernel_rfl) (by kernel_rfl) (by kernel_rfl) (by kernel_rfl) (fun _ _ _ h => h) (yields_free (by rfl) (fun w => ?_)) ?_
      rotate_left
      · go_simp; try (with_reducible rfl)
      try simp only [Act.put, List.getElem_toArray, List.getElem_cons_succ, List.getElem_cons_zero, List.setIfInBounds_toArray, List.set_cons_zero, List.set_cons_succ]
      refine GoG.take (i := 8) (v := ?_) [24] rfl (by kernel_rfl) (by kernel_rfl) (by kernel_rfl) (by kernel_rfl) (by kernel_rfl) (by kernel_rfl) (fun _ _ _ h => h) (yields_load 24 ⟨xb, 3, none⟩ (.slice xw x.words.length xwc) (by simp) (by decide) (by rfl) (fun w hw => ?_)) ?_
      rotate_left
      · go_simp; try (with_reducible rfl)
      try simp only [Act.put, List.getElem_toArray, List.getElem_cons_succ, List.getElem_cons_zero, List.setIfInBounds_toArray, List.set_cons_zero, List.set_cons_succ]
      refine GoG.take (i := 9) (v := ?_) [] rfl (by kernel_rfl) (by kernel_rfl) (by kernel_rfl) (by kernel_rfl) (by kernel_rfl) (by kernel_rfl) (fun _ _ _ h => h) (yields_free (by rfl) (fun w => ?_)) ?_
      rotate_left
      · go_simp; try (with_reducible rfl)
      try simp only [Act.put, List.getElem_toArray, List.getElem_cons_succ, List.getElem_cons_zero, List.setIfInBounds_toArray, List.set_cons_zero, List.set_cons_succ]
      refine GoG.take (i := 10) (v := ?_) [24] rfl (by kernel_rfl) (by kernel_rfl) (by kernel_rfl) (by kernel_rfl) (by kernel_rfl) (by kernel_rfl) (fun _ _ _ h => h) (yields_load 24 ⟨xb, 3, none⟩ (.slice xw x.words.length xwc) (by simp) (by decide) (by rfl) (fun w hw => ?_)) ?_
      rotate_left
      · go_simp; try (with_reducible rfl)
      try simp only [Act.put, List.getElem_toArray, List.getElem_cons_succ, List.getElem_cons_zero, List.setIfInBounds_toArray, List.set_cons_zero, List.set_cons_succ]
      refine GoG.take (i := 11) (v := ?_) [] rfl (by kernel_rfl) (by kernel_rfl) (by kernel_rfl) (by kernel_rfl) (by kernel_rfl) (by kernel_rfl) (fun _ _ _ h => h) (yields_free (by rfl) (fun w => ?_)) ?_
      rotate_left
      · go_simp; try (with_reducible rfl)
      try simp only [Act.put, List.getElem_toArray, List.getElem_cons_succ, List.getElem_cons_zero, List.setIfInBounds_toArray, List.set_cons_zero, List.set_cons_succ]
      refine GoG.take (i := 12) (v := ?_) [] rfl (by kernel_rfl) (by kernel_rfl) (by kernel_rfl) (by kernel_rfl) (by kernel_rfl) (by kernel_rfl) (fun _ _ _ h => h) (yields_free (by rfl) (fun w => ?_)) ?_
      rotate_left
      · go_simp; try (with_reducible rfl)
      try simp only [Act.put, List.getElem_toArray, List.getElem_cons_succ, List.getElem_cons_zero, List.setIfInBounds_toArray, List.set_cons_zero, List.set_cons_succ]
      refine GoG.take (i := 13) (v := ?_) [] rfl (by kernel_rfl) (by kernel_rfl) (by kernel_rfl) (by kernel_rfl) (by kernel_rfl) (by kernel_rfl) (fun _ _ _ h => h) (yields_free (by rfl) (fun w => ?_)) ?_
      rotate_left
      · go_simp; try (with_reducible rfl)
      try simp only [Act.put, List.getElem_toArray, List.getElem_cons_succ, List.getElem_cons_zero, List.setIfInBounds_toArray, List.set_cons_zero, List.set_cons_succ]
      refine GoG.take (i := 14) (v := ?_) [] rfl (by kernel_rfl) (by kernel_rfl) (by kernel_rfl) (by kernel_rfl) (by kernel_rfl) (by kernel_rfl) (fun _ _ _ h => h) (yields_free (by rfl) (fun w => ?_)) ?_
      rotate_left
      · go_simp; try (with_reducible rfl)
      try simp only [Act.put, List.getElem_toArray, List.getElem_cons_succ, List.getElem_cons_zero, List.setIfInBounds_toArray, List.set_cons_zero, List.set_cons_succ]
      refine GoG.take (i := 15) (v := ?_) [26] rfl (by kernel_rfl) (by kernel_rfl) (by kernel_rfl) (by kernel_rfl) (by kernel_rfl) (by kernel_rfl) (fun _ _ _ h => h) (yields_load 26 ⟨xb, 4, none⟩ (.slice xk x.kids.length xkc) (by simp) (by decide) (by rfl) (fun w hw => ?_)) ?_
      rotate_left
      · go_simp; try (with_reducible rfl)
      try simp only [Act.put, List.getElem_toArray, List.getElem_cons_succ, List.getElem_cons_zero, List.setIfInBounds_toArray, List.set_cons_zero, List.set_cons_succ]
      refine GoG.take (i := 16) (v := ?_) [] rfl (by kernel_rfl) (by kernel_rfl) (by kernel_rfl) (by kernel_rfl) (by kernel_rfl) (by kernel_rfl) (fun _ _ _ h => h) (yields_free (by rfl) (fun w => ?_)) ?_
      rotate_left
      · go_simp; try (with_reducible rfl)
      try simp only [Act.put, List.getElem_toArray, List.getElem_cons_succ, List.getElem_cons_zero, List.setIfInBounds_toArray, List.set_cons_zero, List.set_cons_succ]
      refine GoG.take (i := 17) (v := ?_) [26] rfl (by kernel_rfl) (by kernel_rfl) (by kernel_rfl) (by kernel_rfl) (by kernel_rfl) (by kernel_rfl) (fun _ _ _ h => h) (yields_load 26 ⟨xb, 4, none⟩ (.slice xk x.kids.length xkc) (by simp) (by decide) (by rfl) (fun w hw => ?_)) ?_
      rotate_left
      · go_simp; try (with_reducible rfl)
      try simp only [Act.put, List.getElem_toArray, List.getElem_cons_succ, List.getElem_cons_zero, List.setIfInBounds_toArray, List.set_cons_zero, List.set_cons_succ]
      refine GoG.take (i := 18) (v := ?_) [] rfl (by kernel_rfl) (by kernel_rfl) (by kernel_rfl) (by kernel_rfl) (by kernel_rfl) (by kernel_rfl) (fun _ _ _ h => h) (yields_free (by rfl) (fun w => ?_)) ?_
      rotate_left
      · go_simp; try (with_reducible rfl)
      try simp only [Act.put, List.getElem_toArray, List.getElem_cons_succ, List.getElem_cons_zero, List.setIfInBounds_toArray, List.set_cons_zero, List.set_cons_succ]
      refine GoG.take (i := 19) (v := ?_) [] rfl (by kernel_rfl) (by kernel_rfl) (by kernel_rfl) (by kernel_rfl) (by kernel_rfl) (by kernel_rfl) (fun _ _ _ h => h) (yields_free (by rfl) (fun w => ?_)) ?_
      rotate_left
      · go_simp; try (with_reducible rfl)
      try simp only [Act.put, List.getElem_toArray, List.getElem_cons_succ, List.getElem_cons_zero, List.setIfInBounds_toArray, List.set_cons_zero, List.set_cons_succ]
      refine GoG.take (i := 20) (v := ?_) [] rfl (by kernel_rfl) (by kernel_rfl) (by kernel_rfl) (by kernel_rfl) (by kernel_rfl) (by kernel_rfl) (fun _ _ _ h => h) (yields_free (by rfl) (fun w => ?_)) ?_
      rotate_left
      · go_simp; try (with_reducible rfl)
      try simp only [Act.put, List.getElem_toArray, List.getElem_cons_succ, List.getElem_cons_zero, List.setIfInBounds_toArray, List.set_cons_zero, List.set_cons_succ]
      refine GoG.take (i := 21) (v := ?_) [] rfl (by kernel_rfl) (by kernel_rfl) (by kernel_rfl) (by kernel_rfl) (by kernel_rfl) (by kernel_rfl) (fun _ _ _ h => h) (yields_free (by rfl) (fun w => ?_)) ?_
      rotate_left
      · go_simp; try (with_reducible rfl)
      try simp only [Act.put, List.getElem_toArray, List.getElem_cons_succ, List.getElem_cons_zero, List.setIfInBounds_toArray, List.set_cons_zero, List.set_cons_succ]
      have fr := J0.out.free 1
      have cc := J0.out.cell 1
      refine GoG.one (i := 22) rfl (by kernel_rfl) (fun K hK => ?_)
      go_simp
      refine hK.out _ _ (Keeps.up (by rfl) (Keeps.cons ?_ (Keeps.cons ?_ Keeps.nil))) ?_
      · exact ((J0.out.set 1 _).cell 3)
      · exact ((J0.out.set 1 _).cell 4)
      clear hK K fr cc
      have J1 := Lib.hid (J0.out.set 1 (.string (x.name.extract 0 q0)))
      try simp only [Act.put, List.getElem_toArray, List.getElem_cons_succ, List.getElem_cons_zero, List.setIfInBounds_toArray, List.set_cons_zero, List.set_cons_succ]
      refine GoG.take (i := 23) (v := ?_) [] rfl (by kernel_rfl) (by kernel_rfl) (by kernel_rfl) (by kernel_rfl) (by kernel_rfl) (by kernel_rfl) (fun _ _ _ h => h) (yields_free (by rfl) (fun w => ?_)) ?_
      rotate_left
      · go_simp; try (with_reducible rfl)
      try simp only [Act.put, List.getElem_toArray, List.getElem_cons_succ, List.getElem_cons_zero, List.setIfInBounds_toArray, List.set_cons_zero, List.set_cons_succ]
      have fr := J0.out.free 3
      have cc := J1.out.cell 3
      refine GoG.one (i := 24) rfl (by kernel_rfl) (fun K hK => ?_)
      go_simp
      refine hK.out _ _ (Keeps.up (by rfl) (Keeps.up (by rfl) (Keeps.cons ?_ Keeps.nil))) ?_
      · exact ((J1.out.set 3 _).cell 4)
      clear hK K fr cc
      have J2 := Lib.hid (J1.out.set 3 (.slice xw q1 xwc))
      try simp only [Act.put, List.getElem_toArray, List.getElem_cons_succ, List.getElem_cons_zero, List.setIfInBounds_toArray, List.set_cons_zero, List.set_cons_succ]
      refine GoG.take (i := 25) (v := ?_) [] rfl (by kernel_rfl) (by kernel_rfl) (by kernel_rfl) (by kernel_rfl) (by kernel_rfl) (by kernel_rfl) (fun _ _ _ h => h) (yields_free (by rfl) (fun w => ?_)) ?_
      rotate_left
      · go_simp; try (with_reducible rfl)
      try simp only [Act.put, List.getElem_toArray, List.getElem_cons_succ, List.getElem_cons_zero, List.setIfInBounds_toArray, List.set_cons_zero, List.set_cons_succ]
      have fr := J0.out.free 4
      have cc := J2.out.cell 4
      refine GoG.one (i := 26) rfl (by kernel_rfl) (fun K hK => ?_)
      go_simp
      refine hK.out _ _ (Keeps.up (by rfl) (Keeps.up (by rfl) (Keeps.up (by rfl) Keeps.nil))) ?_
      clear hK K fr cc
      have J3 := Lib.hid (J2.out.set 4 (.slice xk q2 xkc))
      try simp only [Act.put, List.getElem_toArray, List.getElem_cons_succ, List.getElem_cons_zero, List.setIfInBounds_toArray, List.set_cons_zero, List.set_cons_succ]
      refine GoG.done (by kernel_rfl) ?_ _
      have BD := Lib.hid (show Below w.heap.size w ((((wn.setCell ⟨xb, 1, none⟩ (.string (x.name.extract 0 q0))).setCell ⟨xb, 3, none⟩ (.slice xw q1 xwc)).setCell ⟨xb, 4, none⟩ (.slice xk q2 xkc)).drew) from (((BW.out.setCell BLE.out _).setCell BLE.out _).setCell BLE.out _).drew)
      have J3' := Lib.hid (show BlockAt ((((wn.setCell ⟨xb, 1, none⟩ (.string (x.name.extract 0 q0))).setCell ⟨xb, 3, none⟩ (.slice xw q1 xwc)).setCell ⟨xb, 4, none⟩ (.slice xk q2 xkc)).drew) _ _ _ from J3.out)
      have OW := Lib.hid (show OwnZ ((((wn.setCell ⟨xb, 1, none⟩ (.string (x.name.extract 0 q0))).setCell ⟨xb, 3, none⟩ (.slice xw q1 xwc)).setCell ⟨xb, 4, none⟩ (.slice xk q2 xkc)).drew) w.heap.size _ xs from own_set (own_set (own_set hown2.out (own_not Hown.out (.inr (by rw [HXB.out]; exact Nat.le_refl _))) 1 _) (own_not Hown.out (.inr (by rw [HXB.out]; exact Nat.le_refl _))) 3 _) (own_not Hown.out (.inr (by rw [HXB.out]; exact Nat.le_refl _))) 4 _)
      generalize (((wn.setCell ⟨xb, 1, none⟩ (.string (x.name.extract 0 q0))).setCell ⟨xb, 3, none⟩ (.slice xw q1 xwc)).setCell ⟨xb, 4, none⟩ (.slice xk q2 xkc)).drew = w3 at *
      have J := J3'.out
      simp only [List.setIfInBounds_toArray, List.set_cons_zero, List.set_cons_succ] at J
      obtain ⟨j0, j1, j2, j3, j4⟩ := cell5 J
      have hO2 := OW.out
      unfold OwnZ at hO2
      rw [Hlen.out] at hO2
      have HO2 := Lib.hid hO2
      have BZ := Lib.hid BD.out.size
      have CI := Lib.hid (show tzC1 ⟨cutT x q0 q1 q2, xw, xwc, xk, xkc⟩ = [.int .i64 x.kind, .string (x.name.extract 0 q0), .int .i64 x.n, .slice xw q1 xwc, .slice xk q2 xkc] from by
        unfold tzC1
        show [_, _, _, Value.slice xw (cutT x q0 q1 q2).words.length xwc, Value.slice xk (cutT x q0 q1 q2).kids.length xkc] = _
        rw [HCI.out.1, HCI.out.2.1]
        rfl)
      clear J J0 J1 J2 J3 J3' G0 G1 G2 BW c1 c3 c4 n1 n2 n3 n4 n5 p01 p21 p11 p13 p23 hO2 Hown hown2
      go_wp2_with (at_builtin; refine wpList_append_own_at _ rfl _ _ 22 rfl w.heap.size 41 i0 (.agg #[.int .i64 0, .string ⟨#[]⟩, .int .i64 0, .slice none 0 0, .slice none 0 0]) 5 80 Tryz.underlying22 hi hz0 hz1 hz2 rfl (by decide) _ k (tzC xs) rfl (HO2.out.alloc _) ⟨w3.heap.size, 0, none⟩ 1 1 [.int .i64 x.kind, .string (x.name.extract 0 q0), .int .i64 x.n, .slice xw q1 xwc, .slice xk q2 xkc] rfl ?c1 ?c2 ?c3 ?c4 ?c5 ?c6 ?_)
      case c1 => rfl
      case c2 => exact cell_news _ _ _
      case c3 => exact fun v hv => by rw [← CI.out] at hv; exact tzC1_one _ v hv
      case c4 => unfold maxLen; omega
      case c5 => omega
      case c6 => have := BZ.out; simp; omega
      intro v' w4 hown3 hgrow _ hblk
      have hp := push_all (r := [⟨cutT x q0 q1 q2, xw, xwc, xk, xkc⟩]) (by first | (rw [Hlen.out]; done) | (rw [Hlen.out]; rfl)) (Nat.le_refl _) OW.out BD.out (by simpa [tzC, CI.out] using hown3) hgrow
      have ho2 := Lib.hid hp.1
      have hb2 := Lib.hid hp.2.1
      have hz2 := Lib.hid (show ∀ z ∈ xs ++ [⟨cutT x q0 q1 q2, xw, xwc, xk, xkc⟩], InZ w z from fun z hz => by
        rcases List.mem_append.1 hz with h1 | h1
        · exact Hz.out z h1
        · rw [List.mem_singleton.1 h1]
          exact HCI.out.2.2)
      have hl2 := Lib.hid (show (xs ++ [(⟨cutT x q0 q1 q2, xw, xwc, xk, xkc⟩ : Tz)]).length = k + 1 by rw [List.length_append, Hlen.out]; rfl)
      clear hown3 hgrow hblk hp
      go_wp2_with fail
      go_roundw
      case rel => exact ⟨k + 1, _, by omega, by go_num, hl2, ho2, hz2, hb2⟩
      case measure => first | (simp [intOf]; done) | (simp [intOf]; omega)
    · obtain rfl : k = m := by omega
      obtain ⟨ao2, cap2, rfl, r1, r2⟩ := own_arow Hown.out (fun z hz => (Hz.out z hz).below HB.out)
      have hlen : (xs.map (·.t)).length = k := by rw [List.length_map]; exact Hlen.out
      have R := Lib.hid (And.intro r1 r2)
      have HLEN := Lib.hid hlen
      clear r1 r2 hlen
      go_wp2_with fail
      go_ret
      exact ⟨ao2, cap2, xs.map (·.t), by rw [List.length_map]; rfl, R.out.1, R.out.2, by rw [HLEN.out]; exact m2, HB.out⟩
end Go.Proofs.YtleiaghegokjkaaGreatDoor
