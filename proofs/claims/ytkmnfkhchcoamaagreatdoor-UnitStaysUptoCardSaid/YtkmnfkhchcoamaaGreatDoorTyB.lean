import Derived.Test.YtkmnfkhchcoamaaGreatDoorTyA
import Derived.Test.YtkmnfkhchcoamaaGreatDoorRegA
import Derived.Maps.AppendAt
import Derived.Laws.AppendOwn
import Derived.Deep.DeepCutAuto
/- Rows of types of the call's own. -/
namespace Go.Proofs.YtkmnfkhchcoamaaGreatDoor
open Go.RowKit
set_option linter.unusedSimpArgs false
set_option linter.unusedVariables false

theorem info_parts {t : TypeId} {z : Value} {s b : Nat} (h : (Tryz.prog.info? t).map (fun i => (i.zero, i.size, i.bytes)) = some (some z, s, b)) : ∃ i, Tryz.prog.info? t = some i ∧ i.zero = some z ∧ i.size = s ∧ i.bytes = b := by
  obtain ⟨i, hi, hz⟩ := Option.map_eq_some_iff.1 h
  simp only [Prod.mk.injEq] at hz
  exact ⟨i, hi, hz.1, hz.2.1, hz.2.2⟩
theorem info_ty : (Tryz.prog.info? 38).map (fun i => (i.zero, i.size, i.bytes)) = some (some (.agg #[.int .i64 0, .string ⟨#[]⟩, .int .i64 0, .slice none 0 0, .slice none 0 0]), 5, 80) := by kernel_rfl
/-- A type, and where its rows are. -/
structure Tz where
  t : Ty
  wo : Option Addr
  wc : Nat
  ko : Option Addr
  kc : Nat
def tzC1 (z : Tz) : List Value := [.int .i64 z.t.kind, .string z.t.name, .int .i64 z.t.n, .slice z.wo z.t.words.length z.wc, .slice z.ko z.t.kids.length z.kc]
def tzC (l : List Tz) : List Value := l.flatMap tzC1
theorem tzC_len : ∀ l : List Tz, (tzC l).length = l.length * 5
  | [] => rfl
  | t :: r => by
    have ih := tzC_len r
    unfold tzC at *
    rw [List.flatMap_cons, List.length_append, ih, List.length_cons]
    show 5 + _ = _
    omega
theorem tzC_add (l : List Tz) (t : Tz) : tzC (l ++ [t]) = tzC l ++ tzC1 t := by unfold tzC; simp
theorem tzC_app (l r : List Tz) : tzC (l ++ r) = tzC l ++ tzC r := by unfold tzC; simp
theorem tzC_at : ∀ (l : List Tz) (k : Nat) (h : k < l.length), (tzC l)[k * 5]? = some (.int .i64 l[k].t.kind) ∧ (tzC l)[k * 5 + 1]? = some (.string l[k].t.name) ∧ (tzC l)[k * 5 + 2]? = some (.int .i64 l[k].t.n) ∧
    (tzC l)[k * 5 + 3]? = some (.slice l[k].wo l[k].t.words.length l[k].wc) ∧ (tzC l)[k * 5 + 4]? = some (.slice l[k].ko l[k].t.kids.length l[k].kc)
  | [], k, h => absurd h (Nat.not_lt_zero _)
  | t :: r, 0, h => ⟨rfl, rfl, rfl, rfl, rfl⟩
  | t :: r, k + 1, h => by
    have ih := tzC_at r k (Nat.lt_of_succ_lt_succ h)
    have e : ∀ j, (tzC (t :: r))[(k + 1) * 5 + j]? = (tzC r)[k * 5 + j]? := fun j => by
      unfold tzC
      rw [List.flatMap_cons, List.getElem?_append_right (by show 5 ≤ _; omega)]
      exact congrArg (fun n => (r.flatMap tzC1)[n]?) (show (k + 1) * 5 + j - 5 = k * 5 + j by omega)
    exact ⟨(e 0).trans ih.1, (e 1).trans ih.2.1, (e 2).trans ih.2.2.1, (e 3).trans ih.2.2.2.1, (e 4).trans ih.2.2.2.2⟩
/-- A row of the call's own that holds these types. -/
def OwnZ (w : World) (base : Nat) (v : Value) (l : List Tz) : Prop := w.ownsRow base 38 5 v l.length (tzC l)
/-- Their own rows are there. -/
def InZ (w : World) (z : Tz) : Prop := z.t.words.length ≤ z.wc ∧ z.t.kids.length ≤ z.kc ∧ TyC w z.wo z.ko z.t
theorem InZ.below {w w' : World} {z : Tz} (h : InZ w z) (hb : Below w.heap.size w w') : InZ w' z := ⟨h.1, h.2.1, h.2.2.below hb⟩
theorem own_nil (w : World) (base : Nat) : OwnZ w base (.slice none 0 0) [] := World.ownsRow_nil _ _ _ _
theorem own_arow {w : World} {base : Nat} {v : Value} {l : List Tz} (h : OwnZ w base v l) (hz : ∀ z ∈ l, InZ w z) : ∃ ao cap, v = .slice ao (l.map (·.t)).length cap ∧ ARow w ao (l.map (·.t)) ∧ (l.map (·.t)).length ≤ cap := by
  obtain ⟨h1, h2⟩ := h
  rcases h2 with ⟨rfl, h0⟩ | ⟨g, cap, cur, rfl, hg, hcur, hcap1, hcap2, hcs, htk⟩
  · exact ⟨none, 0, by rw [List.length_map, h0], .inl (by rw [List.map_eq_nil_iff]; exact List.eq_nil_of_length_eq_zero h0), by rw [List.length_map, h0]; exact Nat.le_refl _⟩
  · refine ⟨_, _, by rw [List.length_map], .inr ⟨g, 0, rfl, (Array.getElem?_eq_some_iff.1 hcur).1, fun k hk => ?_⟩, by rw [List.length_map]; exact hcap1⟩
    rw [List.length_map] at hk
    obtain ⟨c0, c1, c2, c3, c4⟩ := tzC_at l k hk
    have e : ∀ j, j < l.length * 5 → w.cell? ⟨g, j, none⟩ = (tzC l)[j]? := fun j hj => by
      simp only [World.cell?, hcur, Option.isSome_none, Bool.false_eq_true, if_false]
      rw [← htk, List.getElem?_take_of_lt hj]
      simp
    obtain ⟨i1, i2, i3⟩ := hz _ (List.getElem_mem hk)
    rw [List.getElem_map, Nat.zero_add]
    exact ⟨l[k].wo, l[k].wc, l[k].ko, l[k].kc, (e _ (by omega)).trans c0, (e _ (by omega)).trans c1, (e _ (by omega)).trans c2, (e _ (by omega)).trans c3, (e _ (by omega)).trans c4, i1, i2, i3⟩
theorem OwnZ.lower {w : World} {a b : Nat} {v : Value} {l : List Tz} (h : OwnZ w b v l) (hb : a ≤ b) : OwnZ w a v l := by
  obtain ⟨h1, h2⟩ := h
  refine ⟨h1, ?_⟩
  rcases h2 with h2 | ⟨g, cap, cur, hv, hg, rest⟩
  · exact .inl h2
  · exact .inr ⟨g, cap, cur, hv, Nat.le_trans hb hg, rest⟩
theorem OwnZ.kept {w w' : World} {base : Nat} {v : Value} {l : List Tz} (h : OwnZ w base v l) (hb : Below w.heap.size w w') : OwnZ w' base v l := by
  obtain ⟨h1, h2⟩ := h
  refine ⟨h1, ?_⟩
  rcases h2 with h2 | ⟨g, cap, cur, hv, hg, hcur, rest⟩
  · exact .inl h2
  · exact .inr ⟨g, cap, cur, hv, hg, by rw [hb.block _ (Array.getElem?_eq_some_iff.1 hcur).1]; exact hcur, rest⟩
theorem cell_new5 (w : World) (x0 x1 x2 x3 x4 : Value) (t : TypeId) : ∀ (j : Nat) (u : Value), [x0, x1, x2, x3, x4][j]? = some u → (w.alloc (.cells #[x0, x1, x2, x3, x4] t)).cell? ((⟨w.heap.size, 0, none⟩ : Addr).add j) = some u := by
  intro j u hu
  have hadd : (⟨w.heap.size, 0, none⟩ : Addr).add j = ⟨w.heap.size, j, none⟩ := by unfold Addr.add; split <;> simp_all
  rw [hadd, World.cell?_alloc_at _ _ _ _ rfl]
  simpa using hu
theorem own_more {w' : World} {base : Nat} {v' : Value} {l : List Tz} {t : Tz} {n : Nat} (hn : n = l.length + 1) (h : w'.ownsRow base 38 5 v' n (tzC l ++ tzC1 t)) : OwnZ w' base v' (l ++ [t]) := by
  subst hn
  unfold OwnZ
  rw [tzC_add, List.length_append]
  exact h
theorem block_grown {w w' : World} {b : Nat} {xs : Array Value} {T : TypeId} {row : Option Nat} (hg : w.grownBy w' row) (h : BlockAt w b xs T) (hn : row ≠ some b) : BlockAt w' b xs T := by
  unfold BlockAt at *
  rw [hg.block b (Array.getElem?_eq_some_iff.1 h).1 (fun e => hn e.symm)]
  exact h
theorem own_not {w : World} {base : Nat} {v : Value} {l : List Tz} (h : OwnZ w base v l) {b : Nat} (hb : b < base ∨ w.heap.size ≤ b) : v.ownBlock ≠ some b := fun he => by
  have := World.ownsRow.lt h b he
  omega
theorem cell_grown {w w' : World} {row : Option Nat} (hg : w.grownBy w' row) {b k : Nat} (hb : b < w.heap.size) (hn : row ≠ some b) : w'.cell? ⟨b, k, none⟩ = w.cell? ⟨b, k, none⟩ := by
  unfold World.cell?
  rw [hg.block b hb (fun e => hn e.symm)]
/-- What is there behind an append to a row of the call's own. -/
theorem push_all {W wr w1 : World} {base : Nat} {v v' : Value} {l r : List Tz} {o : Obj} {n : Nat} (hn : n = l.length + r.length) (hW : W.heap.size ≤ base) (ho : OwnZ wr base v l) (hB : Below W.heap.size W wr)
    (h1 : w1.ownsRow base 38 5 v' n (tzC l ++ tzC r)) (hg : (wr.alloc o).grownBy w1 v.ownBlock) :
    OwnZ w1 base v' (l ++ r) ∧ Below W.heap.size W w1 ∧ ∀ b, b < wr.heap.size → v.ownBlock ≠ some b → w1.heap[b]? = wr.heap[b]? := by
  have ba : Below wr.heap.size wr (wr.alloc o) := (Below.refl _ _).alloc (Nat.le_refl _) _
  have hb2 := hB.trans (ba.mono hB.size)
  refine ⟨?_, hb2.grown hg (by have := hb2.size; omega) (fun k hk => ?_), fun b hb hne => ?_⟩
  · subst hn
    unfold OwnZ
    rw [tzC_app, List.length_append]
    exact h1
  · have := World.ownsRow.lt ho k hk
    omega
  · rw [hg.block b (by simp; omega) (fun e => hne e.symm)]
    exact ba.block b hb
end Go.Proofs.YtkmnfkhchcoamaaGreatDoor
/- The reference's Names and Start. -/
namespace Go.Proofs.YtkmnfkhchcoamaaGreatDoor
open Go.RowKit
set_option linter.unusedSimpArgs false
set_option linter.unusedVariables false

def nameCells : Array Value := #[.string ⟨#[98, 111, 111, 108]⟩, .string ⟨#[115, 116, 114, 105, 110, 103]⟩, .string ⟨#[105, 110, 116]⟩, .string ⟨#[105, 110, 116, 56]⟩, .string ⟨#[105, 110, 116, 49, 54]⟩, .string ⟨#[105, 110, 116, 51, 50]⟩, .string ⟨#[105, 110, 116, 54, 52]⟩, .string ⟨#[117, 105, 110, 116]⟩, .string ⟨#[117, 105, 110, 116, 56]⟩, .string ⟨#[117, 105, 110, 116, 49, 54]⟩, .string ⟨#[117, 105, 110, 116, 51, 50]⟩, .string ⟨#[117, 105, 110, 116, 54, 52]⟩, .string ⟨#[102, 108, 111, 97, 116, 51, 50]⟩, .string ⟨#[102, 108, 111, 97, 116, 54, 52]⟩, .string ⟨#[117, 110, 116, 121, 112, 101, 100, 32, 98, 111, 111, 108]⟩, .string ⟨#[117, 110, 116, 121, 112, 101, 100, 32, 115, 116, 114, 105, 110, 103]⟩, .string ⟨#[117, 110, 116, 121, 112, 101, 100, 32, 105, 110, 116]⟩, .string ⟨#[117, 110, 116, 121, 112, 101, 100, 32, 114, 117, 110, 101]⟩, .string ⟨#[117, 110, 116, 121, 112, 101, 100, 32, 102, 108, 111, 97, 116]⟩, .string ⟨#[117, 110, 116, 121, 112, 101, 100, 32, 110, 105, 108]⟩]
theorem nameCells_eq : nameCells = (basicNames.map Value.string).toArray := rfl
theorem nameCells_at {i : Nat} (h : i < 20) : nameCells[i]? = some (.string (basicNames.getD i ⟨#[]⟩)) := by
  rw [nameCells_eq]
  have hl : basicNames.length = 20 := rfl
  rw [List.getElem?_toArray, List.getElem?_map, List.getD_eq_getElem?_getD, List.getElem?_eq_getElem (by omega)]
  rfl
set_option maxHeartbeats 1000000 in
set_option maxRecDepth 100000 in
theorem names_any (w : World) :
    Calls Tryz.prog 53 #[] w fun e w' => e = .returned (.slice (some ⟨w.heap.size, 0, none⟩) 20 20) ∧ w' = w.alloc (.cells nameCells 9) := by
  unfold nameCells
  go_enter Tryz.func53, Tryz.ntmps53
  go_wp2_with fail
  go_ret
  exact ⟨rfl, rfl⟩
theorem tzC1_one (z : Tz) : ∀ u ∈ tzC1 z, u.oneCell' = true := by
  intro u hu
  simp only [tzC1, List.mem_cons, List.not_mem_nil, or_false] at hu
  rcases hu with rfl | rfl | rfl | rfl | rfl <;> rfl
theorem tzC_one (l : List Tz) : ∀ u ∈ tzC l, u.oneCell' = true := by
  intro u hu
  obtain ⟨z, hz, h⟩ := List.mem_flatMap.1 hu
  exact tzC1_one z u h
/-- A basic type that has a name. -/
def bz (s : ByteArray) : Tz := ⟨⟨0, s, 0, [], []⟩, none, 0, none, 0⟩
def iz (n : Int) : Tz := ⟨⟨7, ⟨#[]⟩, n, [], []⟩, none, 0, none, 0⟩
theorem bz_in (w : World) (s : ByteArray) (h : s.size ≤ 50) : InZ w (bz s) :=
  ⟨Nat.le_refl _, Nat.le_refl _, ⟨.inl rfl, .inl rfl, ⟨h, by simp [bz], by simp [bz], by simp [bz], by simp [bz], by simp [bz]⟩⟩⟩
theorem iz_in (w : World) (n : Int) (h : n = 0 ∨ n = 1) : InZ w (iz n) :=
  ⟨Nat.le_refl _, Nat.le_refl _, ⟨.inl rfl, .inl rfl, ⟨by simp [iz]; decide, by simp [iz], by simp [iz], by simp [iz], by simp [iz]; omega, by simp [iz]⟩⟩⟩
def startZ : List Tz := basicNames.map bz ++ [iz 0, iz 1]
theorem startZ_eq : startZ.map (·.t) = basics := rfl
theorem startZ_in (w : World) : ∀ z ∈ startZ, InZ w z := by
  intro z hz
  unfold startZ at hz
  rw [List.mem_append] at hz
  rcases hz with hz | hz
  · obtain ⟨s, hs, rfl⟩ := List.mem_map.1 hz
    refine bz_in w s ?_
    have : ∀ s ∈ basicNames, s.size ≤ 50 := by decide
    exact this s hs
  · simp at hz
    rcases hz with rfl | rfl
    · exact iz_in w 0 (.inl rfl)
    · exact iz_in w 1 (.inr rfl)
theorem cell_news (w : World) (xs : List Value) (t : TypeId) : ∀ (j : Nat) (u : Value), xs[j]? = some u → (w.alloc (.cells xs.toArray t)).cell? ((⟨w.heap.size, 0, none⟩ : Addr).add j) = some u := by
  intro j u hu
  have hadd : (⟨w.heap.size, 0, none⟩ : Addr).add j = ⟨w.heap.size, j, none⟩ := by unfold Addr.add; split <;> simp_all
  rw [hadd, World.cell?_alloc_at _ _ _ _ rfl]
  simpa using hu
set_option maxHeartbeats 8000000 in
set_option maxRecDepth 100000 in
theorem start_any (w : World) :
    Calls Tryz.prog 32 #[] w fun e w' => (∃ ao cap, e = .returned (.slice ao 22 cap) ∧ ARow w' ao basics ∧ 22 ≤ cap) ∧ Below w.heap.size w w' := by
  obtain ⟨i0, hi, hz0, hz1, hz2⟩ := info_parts info_ty
  have HNM := fun W => Lib.hid (names_any W)
  go_enter Tryz.func32, Tryz.ntmps32
  go_wp2_with fail
  have O0 := Lib.hid (show OwnZ (w.alloc (.cells #[] 38)) w.heap.size (.slice (some ⟨w.heap.size, 0, none⟩) 0 0) [] from World.ownsRow_made w #[] 0 (Nat.le_refl _) (by unfold maxLen; omega) rfl)
  obtain ⟨w1, h1⟩ : ∃ w1, w.alloc (.cells #[] 38) = w1 := ⟨_, rfl⟩
  rw [h1] at O0 ⊢
  have B1 := Lib.hid (show Below w.heap.size w w1 by rw [← h1]; exact (Below.refl _ _).alloc (Nat.le_refl _) _)
  have S1 := Lib.hid (show w1.heap.size = w.heap.size + 1 by rw [← h1]; simp)
  clear h1
  refine (HNM _).out.mono ?_
  rintro e w' ⟨rfl, rfl⟩
  obtain ⟨w2, h2⟩ : ∃ w2, w1.alloc (.cells nameCells 9) = w2 := ⟨_, rfl⟩
  rw [h2]
  obtain ⟨k2, q2, z2⟩ := box_new h2
  have O1 := Lib.hid (O0.out.kept q2)
  have K2 := Lib.hid k2
  have B2 := Lib.hid (B1.out.trans (q2.mono B1.out.size))
  have Z2 := Lib.hid z2
  clear h2 k2 q2 z2 O0 HNM
  go_wp2_with fail
  go_loopw [1, 7] (fun vo i wr => ∃ k : Nat, k ≤ 20 ∧ i = .int .i64 k ∧ Hid (OwnZ wr w.heap.size vo ((basicNames.take k).map bz)) ∧ Hid (BlockAt wr w1.heap.size nameCells 9 ∧ vo.ownBlock ≠ some w1.heap.size) ∧ Hid (Below w.heap.size w wr)) (fun _ i _ => 20 - (intOf i).toNat)
  case atStart => exact ⟨0, Nat.zero_le _, rfl, O1, Lib.hid ⟨K2.out, by intro h; have h2 : some w.heap.size = some w1.heap.size := h; rw [Option.some_inj] at h2; have := S1.out; omega⟩, B2⟩
  case round =>
    obtain ⟨k, hk, rfl, Hown, HK, HB⟩ := hrel
    by_cases hkl : k < 20
    · have ck := HK.out.1.cell k
      rw [nameCells_at hkl] at ck
      obtain ⟨s, hs⟩ : ∃ s, basicNames.getD k ⟨#[]⟩ = s := ⟨_, rfl⟩
      rw [hs] at ck
      have HS := Lib.hid hs
      have BZ := Lib.hid HB.out.size
      clear hs
      have hlen : ((basicNames.take k).map bz).length = k := by rw [List.length_map, List.length_take]; have : basicNames.length = 20 := rfl; omega
      have HLEN := Lib.hid hlen
      obtain ⟨xs, hxs⟩ : ∃ xs, (basicNames.take k).map bz = xs := ⟨_, rfl⟩
      have HXS := Lib.hid hxs
      rw [hxs] at Hown HLEN
      clear hxs hlen
      have Hown' := Hown.out
      unfold OwnZ at Hown'
      rw [HLEN.out] at Hown'
      have HO := Lib.hid Hown'
      clear Hown'
      go_wp2_with (at_builtin; refine wpList_append_own_at _ rfl _ _ 22 rfl w.heap.size 38 i0 (.agg #[.int .i64 0, .string ⟨#[]⟩, .int .i64 0, .slice none 0 0, .slice none 0 0]) 5 80 Tryz.underlying22 hi hz0 hz1 hz2 rfl (by decide) _ k (tzC xs) rfl (HO.out.alloc _) ⟨wr.heap.size, 0, none⟩ 1 1 (tzC1 (bz s)) rfl ?c1 ?c2 ?c3 ?c4 ?c5 ?c6 ?_)
      case c1 => rfl
      case c2 => exact cell_news _ _ _
      case c3 =>
        exact tzC1_one _
      case c4 => unfold maxLen; omega
      case c5 => omega
      case c6 => have := BZ.out; simp; omega
      intro v' w3 hown3 hgrow _ hblk
      have hp := push_all (r := [bz s]) (by rw [HLEN.out]; rfl) (Nat.le_refl _) Hown.out HB.out hown3 hgrow
      have ho2 := Lib.hid (show OwnZ w3 w.heap.size v' ((basicNames.take (k + 1)).map bz) by
        have e : (basicNames.take (k + 1)).map bz = xs ++ [bz s] := by
          rw [List.take_add_one, List.map_append, HXS.out]
          have hl : basicNames.length = 20 := rfl
          have := HS.out
          rw [List.getD_eq_getElem?_getD, List.getElem?_eq_getElem (by omega)] at this
          rw [List.getElem?_eq_getElem (by omega)]
          simp at this
          simp [this]
        rw [e]
        exact hp.1)
      have hk2 := Lib.hid (show BlockAt w3 w1.heap.size nameCells 9 ∧ v'.ownBlock ≠ some w1.heap.size from ⟨by
        unfold BlockAt
        rw [hp.2.2 _ HK.out.1.lt HK.out.2]
        exact HK.out.1, fun h => by
        rcases hblk with h3 | h3
        · exact HK.out.2 (h3.symm.trans h)
        · rw [h3, Option.some_inj] at h
          have := HK.out.1.lt
          try simp at h
          omega⟩)
      have hb2 := Lib.hid hp.2.1
      clear hown3 hgrow hblk hp
      go_wp2_with fail
      go_roundw
      case rel => exact ⟨k + 1, by omega, by go_num, ho2, hk2, hb2⟩
      case measure => first | (simp [intOf]; done) | (simp [intOf]; omega)
    · obtain rfl : k = 20 := by omega
      have BZ := Lib.hid HB.out.size
      have Hown2 := Lib.hid (show OwnZ wr w.heap.size _ (basicNames.map bz) from Hown.out)
      have HO := Lib.hid (show wr.ownsRow w.heap.size 38 5 _ 20 (tzC (basicNames.map bz)) from Hown.out)
      go_wp2_with (at_builtin; refine wpList_append_own_at _ rfl _ _ 22 rfl w.heap.size 38 i0 (.agg #[.int .i64 0, .string ⟨#[]⟩, .int .i64 0, .slice none 0 0, .slice none 0 0]) 5 80 Tryz.underlying22 hi hz0 hz1 hz2 rfl (by decide) _ 20 (tzC (basicNames.map bz)) rfl (HO.out.alloc _) ⟨wr.heap.size, 0, none⟩ 2 2 (tzC [iz 0, iz 1]) rfl ?c1 ?c2 ?c3 ?c4 ?c5 ?c6 ?_)
      case c1 => rfl
      case c2 => exact cell_news _ _ _
      case c3 =>
        exact tzC_one _
      case c4 => unfold maxLen; omega
      case c5 => omega
      case c6 => have := BZ.out; simp; omega
      intro v' w3 hown3 hgrow _ hblk
      have hp := push_all (r := [iz 0, iz 1]) rfl (Nat.le_refl _) Hown2.out HB.out hown3 hgrow
      have hb2 := Lib.hid hp.2.1
      obtain ⟨ao, cap, rfl, ha, hcap⟩ := own_arow (show OwnZ w3 w.heap.size v' startZ from hp.1) (startZ_in _)
      have HA := Lib.hid (And.intro ha hcap)
      clear hown3 hgrow hblk hp ha hcap
      go_wp2_with fail
      go_ret
      exact ⟨⟨ao, cap, rfl, HA.out.1, HA.out.2⟩, hb2.out⟩
end Go.Proofs.YtkmnfkhchcoamaaGreatDoor

