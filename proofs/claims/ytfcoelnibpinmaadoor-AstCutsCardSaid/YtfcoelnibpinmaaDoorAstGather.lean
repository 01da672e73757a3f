/- The closure that gathers the places of a node's part. -/
import Derived.Test.YtfcoelnibpinmaaDoorAstTree
import Derived.Test.YtfcoelnibpinmaaDoorAstRefRight
import Derived.Test.YtfcoelnibpinmaaDoorAstLike2
import Derived.Maps.AppendAt
import Derived.Deep.DeepCutAuto
namespace Go.Proofs.YtfcoelnibpinmaaDoor
open Go.RowKit

def IV (l : List Nat) : List Value := l.map fun j => Value.int .i64 ((j : Nat) : Int)
theorem IV_snoc (l : List Nat) (k : Nat) : IV l ++ [.int .i64 (k : Int)] = IV (l ++ [k]) := by simp [IV]
def gatherFn (pb lb gb : Nat) : Value := .func (.func 23) #[] #[.pointer (some ⟨pb, 0, none⟩), .pointer (some ⟨lb, 0, none⟩), .pointer (some ⟨gb, 0, none⟩)]
/-- The closure's three variables: the row of places so far, the nodes, itself. -/
def GS (w : World) (pb lb gb : Nat) (nv : Value) (xs : List Nat) : Prop :=
  (∃ v, BlockAt w pb #[v] 35 ∧ w.ownsRow (gb + 1) 3 1 v xs.length (IV xs)) ∧ BlockAt w lb #[nv] 22 ∧ BlockAt w gb #[gatherFn pb lb gb] 45
theorem block_grown {w w' : World} {row : Option Nat} (h : w.grownBy w' row) {b : Nat} {xs : Array Value} {t : TypeId} (hb : BlockAt w b xs t) (hn : row ≠ some b) : BlockAt w' b xs t := by
  show w'.heap[b]? = _
  rw [h.block b hb.lt (fun e => hn e.symm)]
  exact hb
theorem own_apart {w : World} {base e s : Nat} {v : Value} {n : Nat} {xs : List Value} (h : w.ownsRow base e s v n xs) {b : Nat} (hb : b < base) : v.ownBlock ≠ some b := fun he => by
  have := (h.lt b he).1
  omega
theorem own_set {w : World} {base e s : Nat} {v : Value} {n : Nat} {xs : List Value} (h : w.ownsRow base e s v n xs) {b : Nat} (hb : b < base) (u : Value) : (w.setCell ⟨b, 0, none⟩ u).ownsRow base e s v n xs := by
  obtain ⟨h1, h2 | ⟨g, cap, cur, e1, hg, hh, r⟩⟩ := h
  · exact ⟨h1, .inl h2⟩
  · exact ⟨h1, .inr ⟨g, cap, cur, e1, hg, by rw [Below.heap_setCell _ _ _ _ (show g ≠ b by omega)]; exact hh, r⟩⟩
/-- Behind the append and the store. -/
theorem gs_push {w w1 : World} {pb lb gb : Nat} {nv v v' : Value} {xs : List Nat} {k : Nat} (h1 : pb < gb) (h2 : lb < gb) (h12 : pb ≠ lb) (hv : BlockAt w pb #[v] 35) (ho : w.ownsRow (gb + 1) 3 1 v xs.length (IV xs)) (hl : BlockAt w lb #[nv] 22) (hg : BlockAt w gb #[gatherFn pb lb gb] 45)
    (hown : w1.ownsRow (gb + 1) 3 1 v' (xs.length + 1) (IV xs ++ [.int .i64 (k : Int)])) (hgr : (w.alloc (.cells #[.int .i64 (k : Int)] 3)).grownBy w1 v.ownBlock) :
    BlockAt w1 pb #[v] 35 ∧ GS (w1.setCell ⟨pb, 0, none⟩ v') pb lb gb nv (xs ++ [k]) := by
  have ba : Below w.heap.size w (w.alloc (.cells #[.int .i64 (k : Int)] 3)) := (Below.refl _ _).alloc (Nat.le_refl _) _
  have a1 := block_grown hgr (hv.below ba) (own_apart ho (by omega))
  have a2 := block_grown hgr (hl.below ba) (own_apart ho (by omega))
  have a3 := block_grown hgr (hg.below ba) (own_apart ho (by omega))
  refine ⟨a1, ⟨v', a1.set 0 v', ?_⟩, a2.other h12.symm 0 v', a3.other (by omega) 0 v'⟩
  rw [IV_snoc] at hown
  have := own_set hown (show pb < gb + 1 by omega) v'
  simpa using this
theorem gs_cells {w : World} {pb lb gb : Nat} {nv : Value} {xs : List Nat} (h : GS w pb lb gb nv xs) : w.cell? ⟨lb, 0, none⟩ = some nv ∧ w.cell? ⟨gb, 0, none⟩ = some (gatherFn pb lb gb) := ⟨h.2.1.cell 0, h.2.2.cell 0⟩
set_option maxHeartbeats 8000000 in
set_option maxRecDepth 100000 in
theorem gather_any (ns : List Nd) (tp : TreeP ns) (w0 : World) (b off cap pb lb gb : Nat) (hb : b < w0.heap.size) (hc : ∀ i (h : i < ns.length), NdAt w0 b (off + i * 4) ns[i]) (hk : ∀ n ∈ ns, n.kids.length ≤ 2000)
    (hp : w0.heap.size ≤ pb) (h1 : pb < gb) (h2 : lb < gb) (h12 : pb ≠ lb) : ∀ (k : Nat), k < ns.length → ∀ (xs : List Nat) (w : World), xs.length + (part ns k).length ≤ 100000 → Below w0.heap.size w0 w → GS w pb lb gb (.slice (some ⟨b, off, none⟩) ns.length cap) xs →
    Calls Tryd.prog 23 #[.int .i64 (k : Int), .pointer (some ⟨pb, 0, none⟩), .pointer (some ⟨lb, 0, none⟩), .pointer (some ⟨gb, 0, none⟩)] w fun e w' => e = .returned (.tuple #[]) ∧ GS w' pb lb gb (.slice (some ⟨b, off, none⟩) ns.length cap) (xs ++ part ns k) ∧ Below w0.heap.size w0 w' := by
  intro k
  induction k using Nat.strongRecOn with
  | _ k ih =>
  intro hkL xs w hlen B hgs
  obtain ⟨i0, hi, hz0, hz1, hz2⟩ := info_parts info_int
  have hpr := part_rec ns k (kids_in tp k)
  rw [hpr, List.length_cons] at hlen
  have IH := Lib.hid ih
  have Hpr := Lib.hid hpr
  have Hin := Lib.hid (kids_in tp k)
  obtain ⟨L, hL⟩ : ∃ L, ns.length = L := ⟨_, rfl⟩
  have Hc := Lib.hid hc
  have Hk := Lib.hid hk
  have HL := Lib.hid hL
  have HB := Lib.hid B
  have hdaw := hc k hkL
  have hkk := hk _ (List.getElem_mem hkL)
  obtain ⟨nd, hnd⟩ : ∃ nd, ns[k] = nd := ⟨_, rfl⟩
  have Hnd := Lib.hid (show kidsAt ns k = nd.kids by rw [kidsAt_get hkL, hnd])
  rw [hnd] at hdaw hkk
  rw [hL] at hgs hkL ⊢
  obtain ⟨⟨v, hv, hown⟩, hl, hg⟩ := hgs
  obtain ⟨kd, tx, ks, pl⟩ := nd
  have Hlen := Lib.hid hlen
  have Hdaw := Lib.hid hdaw
  clear hnd hdaw hc hk ih hpr hL B tp hlen
  have c1 := hv.cell 0
  have f1 := hv.free 0
  have hxl : xs.length ≤ 100000 := by have := Hlen.out; omega
  have Hown := Lib.hid hown
  have Hv := Lib.hid hv
  have Hl := Lib.hid hl
  have Hg := Lib.hid hg
  have hown2 := Lib.hid (hown.alloc (.cells #[.int .i64 (k : Int)] 3))
  clear hown hv hl hg
  simp only [List.getElem?_toArray, List.getElem?_cons_zero] at c1
  go_enter Tryd.func23, Tryd.ntmps23
  go_wp2_with (at_builtin; refine wpList_append_own_at _ rfl _ _ 35 rfl (gb + 1) 3 i0 (.int .i64 0) 1 8 Tryd.underlying35 hi hz0 hz1 hz2 rfl (by decide) v xs.length (IV xs) rfl hown2.out ⟨w.heap.size, 0, none⟩ 1 1 [.int .i64 (k : Int)] rfl ?c1 ?c2 ?c3 ?c4 ?c5 ?c6 ?_)
  case c3 => rfl
  case c4 => unfold maxLen; omega
  case c5 => omega
  case c6 => have := Hg.out.lt; simp; omega
  intro v' w1 hown1 hgrow _ _
  obtain ⟨gq, cq, rfl⟩ : ∃ g cq, v' = .slice (some ⟨g, 0, none⟩) (xs.length + 1) cq := by
    rcases hown1.2 with ⟨_, h⟩ | ⟨g, cap, cur, e, _⟩
    · omega
    · exact ⟨g, cap, e⟩
  obtain ⟨a1, gs1⟩ := gs_push h1 h2 h12 Hv.out Hown.out Hl.out Hg.out hown1 hgrow
  have hb0 := HB.out
  have B1 : Below w0.heap.size w0 (w1.setCell ⟨pb, 0, none⟩ (.slice (some ⟨gq, 0, none⟩) (xs.length + 1) cq)) := ((hb0.alloc hb0.size _).grown hgrow (by have := hb0.size; simp; omega) (fun g hgk => by have := (Hown.out.lt g hgk).1; omega)).setCell hp _
  have c1' := a1.cell 0
  have f1' := a1.free 0
  simp only [List.getElem?_toArray, List.getElem?_cons_zero] at c1'
  clear hown1 hgrow a1 hb0 HB Hown Hv Hl Hg hown2 c1 f1
  have G1 := Lib.hid gs1
  have B1' := Lib.hid B1
  clear gs1 B1
  go_upto_region 1 with fail
  generalize w1.setCell ⟨pb, 0, none⟩ (.slice (some ⟨gq, 0, none⟩) (xs.length + 1) cq) = W2 at *
  clear c1' f1'
  obtain ⟨cl, _⟩ := gs_cells G1.out
  obtain ⟨d0, d1, ⟨ka, kc, d2, d3, hrow⟩, d5⟩ := Hdaw.out
  have d2' : W2.cell? ⟨b, off + k * 4 + 2, none⟩ = some (.slice ka ks.length kc) := by rw [B1'.out.cell (p := ⟨b, off + k * 4 + 2, none⟩) hb]; exact d2
  have Hrow := Lib.hid hrow
  simp only at d3 hkk
  clear d0 d1 d2 d5 hrow Hdaw
  go_wp2_with fail
  go_loopw [17] (fun p wr => ∃ q : Nat, q ≤ ks.length ∧ p = .int .i64 q ∧ Hid (GS wr pb lb gb (.slice (some ⟨b, off, none⟩) L cap) (xs ++ k :: (ks.take q).flatMap fun k => part ns k.toNat)) ∧ Hid (Below w0.heap.size w0 wr)) (fun p _ => ks.length - (intOf p).toNat)
  case atStart => exact ⟨0, Nat.zero_le _, rfl, G1, B1'⟩
  case round =>
    clear cl d2' G1 B1'
    obtain ⟨q, hq, rfl, G, HB⟩ := hrel
    by_cases hql : q < ks.length
    · obtain ⟨kb, ko, rfl, hkb, hkc⟩ := Hrow.out.cells (by omega)
      have hcell : wr.cell? ⟨kb, ko + q, none⟩ = some (.int .i64 (ks.getD q 0)) := by rw [HB.out.cell (p := ⟨kb, ko + q, none⟩) hkb]; exact hkc q hql
      clear hkc
      have hg : ks.getD q 0 = ks[q] := by rw [List.getD_eq_getElem?_getD, List.getElem?_eq_getElem hql]; rfl
      rw [hg] at hcell
      have hin := Hin.out ks[q] (by rw [Hnd.out]; exact List.getElem_mem hql)
      have hts : ks.take (q + 1) = ks.take q ++ [ks[q]] := List.take_succ_eq_append_getElem hql
      have hall : ks = ks.take (q + 1) ++ ks.drop (q + 1) := (List.take_append_drop _ _).symm
      obtain ⟨ci, hci⟩ : ∃ ci, ks[q] = ci := ⟨_, rfl⟩
      rw [hci] at hcell hin hts
      obtain ⟨c, rfl⟩ : ∃ c : Nat, ci = (c : Int) := ⟨ci.toNat, by omega⟩
      have hck : c < k := by omega
      have hpl : (ks.flatMap fun k => part ns k.toNat) = (ks.take q).flatMap (fun k => part ns k.toNat) ++ (part ns c ++ (ks.drop (q + 1)).flatMap fun k => part ns k.toNat) := by
        conv => lhs; rw [hall, List.flatMap_append, hts, List.flatMap_append, List.append_assoc]
        rw [List.flatMap_cons, List.flatMap_nil, List.append_nil, Int.toNat_natCast]
      have hlen := Hlen.out
      rw [Hnd.out, hpl, List.length_append, List.length_append] at hlen
      have Hit := Lib.hid (IH.out c hck (by rw [HL.out]; omega) (xs ++ k :: (ks.take q).flatMap fun k => part ns k.toNat) wr (by rw [List.length_append, List.length_cons]; omega) HB.out (by rw [HL.out]; exact G.out))
      have Hnext := Lib.hid (show (xs ++ k :: (ks.take q).flatMap fun k => part ns k.toNat) ++ part ns c = xs ++ k :: (ks.take (q + 1)).flatMap fun k => part ns k.toNat by
        rw [hts, List.flatMap_append, List.flatMap_cons, List.flatMap_nil, List.append_nil, Int.toNat_natCast, List.append_assoc, List.cons_append])
      obtain ⟨_, cg⟩ := gs_cells G.out
      unfold gatherFn at cg
      clear hg hci hts hin hall hpl hlen G HB
      go_wp2_with fail
      refine Hit.out.mono ?_
      rintro e w2 ⟨rfl, g2, b2⟩
      rw [HL.out, Hnext.out] at g2
      have G2 := Lib.hid g2
      have B2 := Lib.hid b2
      clear g2 b2 hcell cg
      go_wp2_with fail
      go_roundw
      case rel => exact ⟨q + 1, by omega, by go_num, G2, B2⟩
      case measure => simp [intOf]; omega
    · obtain rfl : q = ks.length := by omega
      have Hres := Lib.hid (show GS wr pb lb gb (.slice (some ⟨b, off, none⟩) L cap) (xs ++ part ns k) by
        have := G.out
        rw [List.take_length, ← Hnd.out, ← Hpr.out] at this
        exact this)
      clear G
      go_wp2_with fail
      go_end0
      exact ⟨rfl, Hres.out, HB.out⟩
end Go.Proofs.YtfcoelnibpinmaaDoor
