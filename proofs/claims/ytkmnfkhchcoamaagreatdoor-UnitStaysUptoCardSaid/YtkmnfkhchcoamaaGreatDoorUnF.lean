import Derived.Test.YtkmnfkhchcoamaaGreatDoorUnA
import Derived.Test.YtkmnfkhchcoamaaGreatDoorTyB
import Derived.Test.YtkmnfkhchcoamaaGreatDoorSubL
import Derived.Test.YtkmnfkhchcoamaaGreatDoorUnV
/- Rows of Named of the call's own. -/
namespace Go.Proofs.YtkmnfkhchcoamaaGreatDoor
open Go.RowKit
set_option linter.unusedSimpArgs false
set_option linter.unusedVariables false

theorem info_nm : (Tryz.prog.info? 51).map (fun i => (i.zero, i.size, i.bytes)) = some (some (.agg #[.string ⟨#[]⟩, .slice none 0 0, .int .i64 0, .slice none 0 0]), 4, 72) := by kernel_rfl
/-- A Named, and where its rows are. -/
structure Nz where
  t : Nm
  bo : Option Addr
  bc : Nat
  mo : Option Addr
  mc : Nat
def nzC1 (z : Nz) : List Value := [.string z.t.name, .slice z.bo z.t.bounds.length z.bc, .int .i64 z.t.under, .slice z.mo z.t.methods.length z.mc]
def nzC (l : List Nz) : List Value := l.flatMap nzC1
theorem nzC_app (l r : List Nz) : nzC (l ++ r) = nzC l ++ nzC r := by unfold nzC; simp
theorem nzC_at : ∀ (l : List Nz) (k : Nat) (h : k < l.length), (nzC l)[k * 4]? = some (.string l[k].t.name) ∧ (nzC l)[k * 4 + 1]? = some (.slice l[k].bo l[k].t.bounds.length l[k].bc) ∧ (nzC l)[k * 4 + 2]? = some (.int .i64 l[k].t.under) ∧ (nzC l)[k * 4 + 3]? = some (.slice l[k].mo l[k].t.methods.length l[k].mc)
  | [], k, h => absurd h (Nat.not_lt_zero _)
  | t :: r, 0, h => ⟨rfl, rfl, rfl, rfl⟩
  | t :: r, k + 1, h => by
    have ih := nzC_at r k (Nat.lt_of_succ_lt_succ h)
    have e : ∀ j, (nzC (t :: r))[(k + 1) * 4 + j]? = (nzC r)[k * 4 + j]? := fun j => by
      unfold nzC
      rw [List.flatMap_cons, List.getElem?_append_right (by show 4 ≤ _; omega)]
      exact congrArg (fun n => (r.flatMap nzC1)[n]?) (show (k + 1) * 4 + j - 4 = k * 4 + j by omega)
    exact ⟨(e 0).trans ih.1, (e 1).trans ih.2.1, (e 2).trans ih.2.2.1, (e 3).trans ih.2.2.2⟩
/-- A row of the call's own that holds these types. -/
def OwnN (w : World) (base : Nat) (v : Value) (l : List Nz) : Prop := w.ownsRow base 51 4 v l.length (nzC l)
/-- Their own rows are there. -/
def InN (w : World) (z : Nz) : Prop := z.t.bounds.length ≤ z.bc ∧ z.t.methods.length ≤ z.mc ∧ NmC w z.bo z.mo z.t
theorem InN.below {w w' : World} {z : Nz} (h : InN w z) (hb : Below w.heap.size w w') : InN w' z := ⟨h.1, h.2.1, h.2.2.below hb⟩
theorem ownN_nil (w : World) (base : Nat) : OwnN w base (.slice none 0 0) [] := World.ownsRow_nil _ _ _ _
theorem OwnN.lower {w : World} {a b : Nat} {v : Value} {l : List Nz} (h : OwnN w b v l) (hb : a ≤ b) : OwnN w a v l := by
  obtain ⟨h1, h2⟩ := h
  refine ⟨h1, ?_⟩
  rcases h2 with h2 | ⟨g, cap, cur, hv, hg, rest⟩
  · exact .inl h2
  · exact .inr ⟨g, cap, cur, hv, Nat.le_trans hb hg, rest⟩
theorem OwnN.kept {w w' : World} {base : Nat} {v : Value} {l : List Nz} (h : OwnN w base v l) (hb : Below w.heap.size w w') : OwnN w' base v l := by
  obtain ⟨h1, h2⟩ := h
  refine ⟨h1, ?_⟩
  rcases h2 with h2 | ⟨g, cap, cur, hv, hg, hcur, rest⟩
  · exact .inl h2
  · exact .inr ⟨g, cap, cur, hv, hg, by rw [hb.block _ (Array.getElem?_eq_some_iff.1 hcur).1]; exact hcur, rest⟩
theorem ownN_not {w : World} {base : Nat} {v : Value} {l : List Nz} (h : OwnN w base v l) {b : Nat} (hb : b < base ∨ w.heap.size ≤ b) : v.ownBlock ≠ some b := fun he => by
  have := World.ownsRow.lt h b he
  omega
/-- What is there behind an append to a row of the call's own. -/
theorem pushN_all {W wr w1 : World} {base : Nat} {v v' : Value} {l r : List Nz} {o : Obj} {n : Nat} (hn : n = l.length + r.length) (hW : W.heap.size ≤ base) (ho : OwnN wr base v l) (hB : Below W.heap.size W wr)
    (h1 : w1.ownsRow base 51 4 v' n (nzC l ++ nzC r)) (hg : (wr.alloc o).grownBy w1 v.ownBlock) :
    OwnN w1 base v' (l ++ r) ∧ Below W.heap.size W w1 ∧ ∀ b, b < wr.heap.size → v.ownBlock ≠ some b → w1.heap[b]? = wr.heap[b]? := by
  have ba : Below wr.heap.size wr (wr.alloc o) := (Below.refl _ _).alloc (Nat.le_refl _) _
  have hb2 := hB.trans (ba.mono hB.size)
  refine ⟨?_, hb2.grown hg (by have := hb2.size; omega) (fun k hk => ?_), fun b hb hne => ?_⟩
  · subst hn
    unfold OwnN
    rw [nzC_app, List.length_append]
    exact h1
  · have := World.ownsRow.lt ho k hk
    omega
  · rw [hg.block b (by simp; omega) (fun e => hne e.symm)]
    exact ba.block b hb
theorem nzC1_one (z : Nz) : ∀ u ∈ nzC1 z, u.oneCell' = true := by
  intro u hu
  simp only [nzC1, List.mem_cons, List.not_mem_nil, or_false] at hu
  rcases hu with rfl | rfl | rfl | rfl <;> rfl
end Go.Proofs.YtkmnfkhchcoamaaGreatDoor
/- The law's own few: units that came in, cut. -/
namespace Go.Proofs.YtkmnfkhchcoamaaGreatDoor
open Go.RowKit
set_option linter.unusedSimpArgs false
set_option linter.unusedVariables false

/-- A Named that came in. -/
structure NmIn (w : World) (bo mo : Option Addr) (bc mc : Nat) (n : Nm) : Prop where
  bounds : IRow w bo n.bounds
  methods : MRow w mo n.methods
  bc1 : n.bounds.length ≤ bc
  bc2 : bc ≤ 9223372036854775807
  mc1 : n.methods.length ≤ mc
  mc2 : mc ≤ 9223372036854775807
  nl : n.name.size ≤ 9223372036854775807
  un : -9223372036854775808 ≤ n.under ∧ n.under ≤ 9223372036854775807
  bs : ∀ b ∈ n.bounds, -9223372036854775808 ≤ b ∧ b ≤ 9223372036854775807
  ms : ∀ m ∈ n.methods, m.name.size ≤ 9223372036854775807 ∧ -9223372036854775808 ≤ m.sig ∧ m.sig ≤ 9223372036854775807
def InNRow (w : World) (no : Option Addr) (l : List Nm) : Prop :=
  l = [] ∨ ∃ b off, no = some ⟨b, off, none⟩ ∧ b < w.heap.size ∧ ∀ i (h : i < l.length), ∃ bo bc mo mc, w.cell? ⟨b, off + i * 4, none⟩ = some (.string l[i].name) ∧ w.cell? ⟨b, off + i * 4 + 1, none⟩ = some (.slice bo l[i].bounds.length bc) ∧ w.cell? ⟨b, off + i * 4 + 2, none⟩ = some (.int .i64 l[i].under) ∧ w.cell? ⟨b, off + i * 4 + 3, none⟩ = some (.slice mo l[i].methods.length mc) ∧ NmIn w bo mo bc mc l[i]
theorem InNRow.cells {w : World} {no : Option Addr} {l : List Nm} (h : InNRow w no l) (hn : 0 < l.length) : ∃ b off, no = some ⟨b, off, none⟩ ∧ b < w.heap.size ∧ ∀ i (h : i < l.length), ∃ bo bc mo mc, w.cell? ⟨b, off + i * 4, none⟩ = some (.string l[i].name) ∧ w.cell? ⟨b, off + i * 4 + 1, none⟩ = some (.slice bo l[i].bounds.length bc) ∧ w.cell? ⟨b, off + i * 4 + 2, none⟩ = some (.int .i64 l[i].under) ∧ w.cell? ⟨b, off + i * 4 + 3, none⟩ = some (.slice mo l[i].methods.length mc) ∧ NmIn w bo mo bc mc l[i] := by
  rcases h with h | h
  · rw [h] at hn; exact absurd hn (by simp)
  · exact h
structure InUn (w : World) (ao no : Option Addr) (ac nc : Nat) (u : Un) : Prop where
  types : InRow w ao u.types
  named : InNRow w no u.named
  tc : u.types.length ≤ ac
  tc2 : ac ≤ 9223372036854775807
  ncl : u.named.length ≤ nc
  nc2 : nc ≤ 9223372036854775807
theorem MRow.take {w : World} {ao : Option Addr} {ms : List Mt} (h : MRow w ao ms) (k : Nat) : MRow w ao (ms.take k) := by
  rcases h with h | ⟨b, off, e, l, cc⟩
  · exact .inl (by rw [h]; simp)
  · refine .inr ⟨b, off, e, l, fun i hi => ?_⟩
    rw [List.length_take] at hi
    rw [List.getElem_take]
    exact cc i (by omega)
def cutN (t : Nm) (a b c : Nat) : Nm := ⟨t.name.extract 0 a, t.bounds.take b, t.under, t.methods.take c⟩
theorem cutN_in {w : World} {bo mo : Option Addr} {bc mc a b c : Nat} {t : Nm} (h : NmIn w bo mo bc mc t) (ha : a ≤ 50) (ha2 : a ≤ t.name.size) (hb : b ≤ 18) (hb2 : b ≤ t.bounds.length) (hc : c ≤ 18) (hc2 : c ≤ t.methods.length) :
    (cutN t a b c).bounds.length = b ∧ (cutN t a b c).methods.length = c ∧ InN w ⟨cutN t a b c, bo, bc, mo, mc⟩ := by
  have e1 : (t.bounds.take b).length = b := by rw [List.length_take]; omega
  have e2 : (t.methods.take c).length = c := by rw [List.length_take]; omega
  refine ⟨e1, e2, ?_, ?_, h.bounds.take b, h.methods.take c, ?_⟩
  · show (t.bounds.take b).length ≤ bc
    have := h.bc1
    omega
  · show (t.methods.take c).length ≤ mc
    have := h.mc1
    omega
  · refine ⟨?_, by show (t.bounds.take b).length ≤ 18; omega, by show (t.methods.take c).length ≤ 18; omega, h.un, fun k hk => h.bs k (List.mem_of_mem_take hk), fun k hk => h.ms k (List.mem_of_mem_take hk)⟩
    show (t.name.extract 0 a).size ≤ 50
    rw [ByteArray.size_extract]
    omega
theorem ownN_set {w : World} {base : Nat} {v : Value} {l : List Nz} (h : OwnN w base v l) {b : Nat} (hb : v.ownBlock ≠ some b) (j : Nat) (u : Value) : OwnN (w.setCell ⟨b, j, none⟩ u) base v l := by
  obtain ⟨h1, h2⟩ := h
  refine ⟨h1, ?_⟩
  rcases h2 with h2 | ⟨g, cap, cur, rfl, hg, hcur, rest⟩
  · exact .inl h2
  · have hne : g ≠ b := fun e => hb (by rw [e]; rfl)
    exact .inr ⟨g, cap, cur, rfl, hg, (show BlockAt (w.setCell ⟨b, j, none⟩ u) g cur _ from BlockAt.other (show BlockAt w g cur _ from hcur) hne j u), rest⟩
/-- The blocks of a world apart from one are the same. -/
def SameX (c : Nat) (w w' : World) : Prop := w.heap.size ≤ w'.heap.size ∧ ∀ b, b < w.heap.size → b ≠ c → w'.heap[b]? = w.heap[b]?
theorem SameX.trans {c : Nat} {w w1 w2 : World} (h : SameX c w w1) (h2 : SameX c w1 w2) : SameX c w w2 := ⟨Nat.le_trans h.1 h2.1, fun b hb hc => (h2.2 b (Nat.lt_of_lt_of_le hb h.1) hc).trans (h.2 b hb hc)⟩
theorem SameX.below {c : Nat} {w w' : World} (h : Below w.heap.size w w') : SameX c w w' := ⟨h.size, fun b hb _ => h.block b hb⟩
theorem SameX.set {c k : Nat} {w w' : World} {v : Value} (h : w.setCell ⟨c, k, none⟩ v = w') : SameX c w w' := by
  subst h
  exact ⟨by simp, fun b hb hc => Below.heap_setCell _ _ _ _ hc⟩
theorem SameX.block {c b : Nat} {w w' : World} {xs : Array Value} {T : TypeId} (h : SameX c w w') (hb : BlockAt w b xs T) (hc : b ≠ c) : BlockAt w' b xs T := by
  unfold BlockAt
  rw [h.2 b hb.lt hc]
  exact hb
theorem OwnZ.sameX {c base : Nat} {w w' : World} {v : Value} {l : List Tz} (h : OwnZ w base v l) (hs : SameX c w w') (hc : c < base) : OwnZ w' base v l := by
  obtain ⟨h1, h2⟩ := h
  refine ⟨h1, ?_⟩
  rcases h2 with h2 | ⟨g, cap, cur, hv, hg, hcur, rest⟩
  · exact .inl h2
  · exact .inr ⟨g, cap, cur, hv, hg, by rw [hs.2 _ (Array.getElem?_eq_some_iff.1 hcur).1 (by omega)]; exact hcur, rest⟩
theorem OwnZ.slice {base : Nat} {w : World} {v : Value} {l : List Tz} (h : OwnZ w base v l) : ∃ ao cap, v = .slice ao l.length cap := by
  obtain ⟨h1, h2⟩ := h
  rcases h2 with ⟨rfl, h0⟩ | ⟨g, cap, cur, rfl, _⟩
  · exact ⟨none, 0, by rw [h0]⟩
  · exact ⟨_, _, rfl⟩
theorem OwnN.slice {base : Nat} {w : World} {v : Value} {l : List Nz} (h : OwnN w base v l) : ∃ ao cap, v = .slice ao l.length cap := by
  obtain ⟨h1, h2⟩ := h
  rcases h2 with ⟨rfl, h0⟩ | ⟨g, cap, cur, rfl, _⟩
  · exact ⟨none, 0, by rw [h0]⟩
  · exact ⟨_, _, rfl⟩
/-- What few gives. -/
def FewU (W0 w : World) (e : Ending) (w' : World) : Prop := ∃ v1 v2 xs ys, e = .returned (.agg #[v1, v2]) ∧ OwnZ w' w.heap.size v1 xs ∧ OwnN w' w.heap.size v2 ys ∧ (∀ z ∈ xs, InZ W0 z) ∧ (∀ z ∈ ys, InN W0 z) ∧ xs.length ≤ 402 ∧ ys.length ≤ 62 ∧ Below w.heap.size w w'
set_option maxHeartbeats 32000000 in
set_option maxRecDepth 100000 in
theorem fewU_any (W0 : World) (u : Un) (ao no : Option Addr) (ac nc : Nat) (w : World) (hb0 : Below W0.heap.size W0 w) (hin : InUn W0 ao no ac nc u) :
    Calls Tryz.prog 5 #[unV u ao ac no nc] w (FewU W0 w) := by
  obtain ⟨i0, hi, hz0, hz1, hz2⟩ := info_parts info_ty
  obtain ⟨n0, hni, hnz0, hnz1, hnz2⟩ := info_parts info_nm
  have HA := Lib.hid hin
  have HB0 := Lib.hid hb0
  obtain ⟨L, hL⟩ : ∃ L, u.types.length = L := ⟨_, rfl⟩
  obtain ⟨n, hn⟩ : ∃ n, u.named.length = n := ⟨_, rfl⟩
  have HL := Lib.hid hL
  have HN := Lib.hid hn
  have hc := hin.tc
  have hcn := hin.ncl
  unfold unV
  rw [hL] at hc ⊢
  rw [hn] at hcn ⊢
  have hc2 := hin.tc2
  have hcn2 := hin.nc2
  obtain ⟨m, hmm⟩ : ∃ m : Nat, min L 402 = m := ⟨_, rfl⟩
  have m1 : m ≤ L := by omega
  have m2 : m ≤ 402 := by omega
  have m3 : m ≤ ac := by omega
  obtain ⟨r, hrr⟩ : ∃ r : Nat, min n 62 = r := ⟨_, rfl⟩
  have r1 : r ≤ n := by omega
  have r2 : r ≤ 62 := by omega
  have r3 : r ≤ nc := by omega
  have Hm : ∀ (ts : Array TypeId) (t : TypeId) (W : World), (Builtin.min_ ts t #[.int .i64 (L : Int), .int .i64 402]).run Tryz.prog W = .ok (.int .i64 (m : Int)) W := fun ts t W => by rw [run_min_int2, show (if (402 : Int) < (L : Int) then (402 : Int) else (L : Int)) = (m : Int) by split <;> omega]
  have Hr : ∀ (ts : Array TypeId) (t : TypeId) (W : World), (Builtin.min_ ts t #[.int .i64 (n : Int), .int .i64 62]).run Tryz.prog W = .ok (.int .i64 (r : Int)) W := fun ts t W => by rw [run_min_int2, show (if (62 : Int) < (n : Int) then (62 : Int) else (n : Int)) = (r : Int) by split <;> omega]
  obtain ⟨w1, h1⟩ : ∃ w1, w.alloc (.cells #[.slice ao L ac, .slice no n nc] 25) = w1 := ⟨_, rfl⟩
  obtain ⟨k1, q1, z1⟩ := box_new h1
  obtain ⟨w2, h2⟩ : ∃ w2, w1.alloc (.cells #[.slice none 0 0, .slice none 0 0] 25) = w2 := ⟨_, rfl⟩
  obtain ⟨k2, q2, z2⟩ := box_new h2
  obtain ⟨w3, h3⟩ : ∃ w3, w2.alloc (.cells #[.slice none 0 0, .slice none 0 0] 25) = w3 := ⟨_, rfl⟩
  obtain ⟨k3, q3, z3⟩ := box_new h3
  have B2 := q1.trans (q2.mono q1.size)
  have B3 := Lib.hid (B2.trans (q3.mono B2.size))
  have K1 := Lib.hid ((k1.below q2).below q3)
  have K2 := Lib.hid (k2.below q3)
  have K3 := Lib.hid k3
  have SZ := Lib.hid (show w.heap.size < w3.heap.size ∧ w1.heap.size < w3.heap.size ∧ w2.heap.size < w3.heap.size ∧ w.heap.size ≤ w1.heap.size ∧ w.heap.size ≤ w2.heap.size ∧ w.heap.size ≠ w2.heap.size ∧ w1.heap.size ≠ w2.heap.size by omega)
  obtain ⟨c0, c1⟩ := cell2 ((k1.below q2).below q3)
  have H3 := Lib.hid h3
  obtain ⟨y0, y1⟩ := cell2 (k1.below q2)
  clear hmm hrr hL hn hin hb0 k1 k2 k3 q1 q2 q3 z1 z2 z3 B2 h3
  go_enter Tryz.func5, Tryz.ntmps5
  go_upto_region 2 with fail
  rw [H3.out]
  clear h1 h2 y0 y1
  go_wp2_with fail
  clear c0 c1
  go_loopw [17] (fun i wr => ∃ (k : Nat) (xs : List Tz) (vo : Value), k ≤ m ∧ i = .int .i64 k ∧ Hid (xs.length = k) ∧ Hid (OwnZ wr w3.heap.size vo xs) ∧ Hid (∀ z ∈ xs, InZ W0 z) ∧ Hid (BlockAt wr w.heap.size #[.slice ao L ac, .slice no n nc] 25) ∧ Hid (BlockAt wr w1.heap.size #[.slice none 0 0, .slice none 0 0] 25) ∧ Hid (BlockAt wr w2.heap.size #[vo, .slice none 0 0] 25) ∧ Hid (Below w.heap.size w wr) ∧ Hid (w3.heap.size ≤ wr.heap.size)) (fun i _ => m - (intOf i).toNat)
  case atStart => exact ⟨0, [], .slice none 0 0, Nat.zero_le _, rfl, Lib.hid rfl, Lib.hid (own_nil _ _), Lib.hid (by simp), K1, K2, K3, B3, Lib.hid (Nat.le_refl _)⟩
  case round =>
    obtain ⟨k, xs, vo, hk, rfl, Hlen, Hown, Hz, HK1, HK2, HK3, HB, HSZ⟩ := hrel
    by_cases hkm : k < m
    · have hks : k < u.types.length := by rw [HL.out]; omega
      have HBW := Lib.hid (HB0.out.trans (HB.out.mono HB0.out.size))
      obtain ⟨ab, aof, rfl, hab, hcl⟩ := HA.out.types.cells (by omega)
      obtain ⟨xw, xwc, xk, xkc, a0', a1', a2', a3', a4', hxc0⟩ := hcl k hks
      obtain ⟨x, hx⟩ : ∃ x, u.types[k] = x := ⟨_, rfl⟩
      rw [hx] at a0' a1' a2' a3' a4' hxc0
      have a0 := (HBW.out.cell hab).trans a0'
      have a1 := (HBW.out.cell hab).trans a1'
      have a2 := (HBW.out.cell hab).trans a2'
      have a3 := (HBW.out.cell hab).trans a3'
      have a4 := (HBW.out.cell hab).trans a4'
      have HXI := Lib.hid hxc0
      clear hx hcl hab hks a0' a1' a2' a3' a4'
      obtain ⟨wn, hwn⟩ : ∃ wn, wr.alloc (.cells #[.int .i64 x.kind, .string x.name, .int .i64 x.n, .slice xw x.words.length xwc, .slice xk x.kids.length xkc] 38) = wn := ⟨_, rfl⟩
      obtain ⟨k2, qn, z2⟩ := box_new hwn
      obtain ⟨xb, hxb⟩ : ∃ xb, wr.heap.size = xb := ⟨_, rfl⟩
      rw [hxb] at k2
      have HXB := Lib.hid hxb
      have J0 := Lib.hid k2
      obtain ⟨-, c1, -, c3, c4⟩ := cell5 k2
      have BR0 := Lib.hid qn
      have BLE := Lib.hid (show wr.heap.size ≤ xb by rw [← hxb]; exact Nat.le_refl _)
      have hown2 := Lib.hid (Hown.out.kept qn)
      obtain ⟨q0, hq0⟩ : ∃ q : Nat, min x.name.size 50 = q := ⟨_, rfl⟩
      obtain ⟨q1, hq1⟩ : ∃ q : Nat, min x.words.length 18 = q := ⟨_, rfl⟩
      obtain ⟨q2, hq2⟩ : ∃ q : Nat, min x.kids.length 18 = q := ⟨_, rfl⟩
      have p01 : q0 ≤ x.name.size := by omega
      have p02 : q0 ≤ 50 := by omega
      have p11 : q1 ≤ x.words.length := by omega
      have p12 : q1 ≤ 18 := by omega
      have p13 : q1 ≤ xwc := Nat.le_trans p11 HXI.out.wc1
      have p21 : q2 ≤ x.kids.length := by omega
      have p22 : q2 ≤ 18 := by omega
      have p23 : q2 ≤ xkc := Nat.le_trans p21 HXI.out.kc1
      have n1 := HXI.out.nl
      have n2 := Nat.le_trans HXI.out.wc1 HXI.out.wc2
      have n3 := Nat.le_trans HXI.out.kc1 HXI.out.kc2
      have n4 := HXI.out.wc2
      have n5 := HXI.out.kc2
      have HCI := Lib.hid (cut_in HXI.out p02 p01 p12 p11 p22 p21)
      have G0 : ∀ (ts : Array TypeId) (ty : TypeId) (W : World), (Builtin.min_ ts ty #[.int .i64 (x.name.size : Int), .int .i64 50]).run Tryz.prog W = .ok (.int .i64 (q0 : Int)) W := fun ts ty W => by rw [run_min_int2, show (if (50 : Int) < (x.name.size : Int) then (50 : Int) else (x.name.size : Int)) = (q0 : Int) by split <;> omega]
      have G1 : ∀ (ts : Array TypeId) (ty : TypeId) (W : World), (Builtin.min_ ts ty #[.int .i64 (x.words.length : Int), .int .i64 18]).run Tryz.prog W = .ok (.int .i64 (q1 : Int)) W := fun ts ty W => by rw [run_min_int2, show (if (18 : Int) < (x.words.length : Int) then (18 : Int) else (x.words.length : Int)) = (q1 : Int) by split <;> omega]
      have G2 : ∀ (ts : Array TypeId) (ty : TypeId) (W : World), (Builtin.min_ ts ty #[.int .i64 (x.kids.length : Int), .int .i64 18]).run Tryz.prog W = .ok (.int .i64 (q2 : Int)) W := fun ts ty W => by rw [run_min_int2, show (if (18 : Int) < (x.kids.length : Int) then (18 : Int) else (x.kids.length : Int)) = (q2 : Int) by split <;> omega]
      clear hq0 hq1 hq2 k2 qn z2 hxc0
      go_upto_region 5 with fail
      clear hwn a0 a1 a2 a3 a4 hxb
      refine GoG.start [(22, ⟨xb, 1, none⟩, .string x.name), (24, ⟨xb, 3, none⟩, .slice xw x.words.length xwc), (26, ⟨xb, 4, none⟩, .slice xk x.kids.length xkc)] (by kernel_rfl) ?_ ?_
      · exact Keeps.cons (by first | exact c1 | assumption) (Keeps.cons (by first | exact c3 | assumption) (Keeps.cons (by first | exact c4 | assumption) Keeps.nil))
      refine GoG.take (i := 0) (v := ?_) [] rfl (by kernel_rfl) (by kernel_rfl) (by kernel_rfl) (by kernel_rfl) (by kernel_rfl) (by kernel_rfl) (fun _ _ _ h => h) (yields_free (by rfl) (fun w => ?_)) ?_
      rotate_left
      · go_simp; try (with_reducible rfl)
      try simp only [Act.put, List.getElem_toArray, List.getElem_cons_succ, List.getElem_cons_zero, List.setIfInBounds_toArray, List.set_cons_zero, List.set_cons_succ]
      refine GoG.take (i := 1) (v := ?_) [22] rfl (by kernel_rfl) (by kernel_rfl) (by kernel_rfl) (by kernel_rfl) (by kernel_rfl) (by kernel_rfl) (fun _ _ _ h => h) (yields_load 22 ⟨xb, 1, none⟩ (.string x.name) (by simp) (by decide) (by rfl) (fun w hw => ?_)) ?_
      rotate_left
      · go_simp; try (with_reducible rfl)
      try simp only [Act.put, List.getElem_toArray, List.getElem_cons_succ, List.getElem_cons_zero, List.setIfInBounds_toArray, List.set_cons_zero, List.set_cons_succ]
      refine GoG.take (i := 2) (v := ?_) [] rfl (by kernel_rfl) (by kernel_rfl) (by kernel_rfl) (by kernel_rfl) (by kernel_rfl) (by kernel_rfl) (fun _ _ _ h => h) (yields_free (by rfl) (fun w => ?_)) ?_
      rotate_left
      · go_simp; try (with_reducible rfl)
      try simp only [Act.put, List.getElem_toArray, List.getElem_cons_succ, List.getElem_cons_zero, List.setIfInBounds_toArray, List.set_cons_zero, List.set_cons_succ]
      refine GoG.take (i := 3) (v := ?_) [22] rfl (by kernel_rfl) (by kernel_rfl) (by kernel_rfl) (by kernel_rfl) (by kernel_rfl) (by kernel_rfl) (fun _ _ _ h => h) (yields_load 22 ⟨xb, 1, none⟩ (.string x.name) (by simp) (by decide) (by rfl) (fun w hw => ?_)) ?_
      rotate_left
      · go_simp; try (with_reducible rfl)
      try simp only [Act.put, List.getElem_toArray, List.getElem_cons_succ, List.getElem_cons_zero, List.setIfInBounds_toArray, List.set_cons_zero, List.set_cons_succ]
      refine GoG.take (i := 4) (v := ?_) [] rfl (by kernel_rfl) (by kernel_rfl) (by kernel_rfl) (by kernel_rfl) (by kernel_rfl) (by kernel_rfl) (fun _ _ _ h => h) (yields_free (by rfl) (fun w => ?_)) ?_
      rotate_left
      · go_simp; try (with_reducible rfl)
      try simp only [Act.put, List.getElem_toArray, List.getElem_cons_succ, List.getElem_cons_zero, List.setIfInBounds_toArray, List.set_cons_zero, List.set_cons_succ]
      refine GoG.take (i := 5) (v := ?_) [] rfl (by kernel_rfl) (by kernel_rfl) (by kernel_rfl) (by kernel_rfl) (by kernel_rfl) (by kernel_rfl) (fun _ _ _ h => h) (yields_free (by rfl) (fun w => ?_)) ?_
      rotate_left
      · go_simp; try (with_reducible rfl)
      try simp only [Act.put, List.getElem_toArray, List.getElem_cons_succ, List.getElem_cons_zero, List.setIfInBounds_toArray, List.set_cons_zero, List.set_cons_succ]
      refine GoG.take (i := 6) (v := ?_) [] rfl (by kernel_rfl) (by kernel_rfl) (by kernel_rfl) (by kernel_rfl) (by kernel_rfl) (by kernel_rfl) (fun _ _ _ h => h) (yields_free (by rfl) (fun w => ?_)) ?_
      rotate_left
      · go_simp; try (with_reducible rfl)
      try simp only [Act.put, List.getElem_toArray, List.getElem_cons_succ, List.getElem_cons_zero, List.setIfInBounds_toArray, List.set_cons_zero, List.set_cons_succ]
      refine GoG.take (i := 7) (v := ?_) [] rfl (by kernel_rfl) (by kernel_rfl) (by kernel_rfl) (by kernel_rfl) (by kernel_rfl) (by kernel_rfl) (fun _ _ _ h => h) (yields_free (by rfl) (fun w => ?_)) ?_
      rotate_left
      · go_simp; try (with_reducible rfl)
      try simp only [Act.put, List.getElem_toArray, List.getElem_cons_succ, List.getElem_cons_zero, List.setIfInBounds_toArray, List.set_cons_zero, List.set_cons_succ]
      refine GoG.take (i := 8) (v := ?_) [24] rfl (by kernel_rfl) (by kernel_rfl) (by kernel_rfl) (by kernel_rfl) (by kernel_rfl) (by kernel_rfl) (fun _ _ _ h => h) (yields_load 24 ⟨xb, 3, none⟩ (.slice xw x.words.length xwc) (by simp) (by decide) (by rfl) (fun w hw => ?_)) ?_
      rotate_left
      · go_simp; try (with_reducible rfl)
      try simp only [Act.put, List.getElem_toArray, List.getElem_cons_succ, List.getElem_cons_zero, List.setIfInBounds_toArray, List.set_cons_zero, List.set_cons_succ]
      refine GoG.take (i := 9) (v := ?_) [] rfl (by kernel_rfl) (by kernel_rfl) (by kernel_rfl) (by kernel_rfl) (by kernel_rfl) (by kernel_rfl) (fun _ _ _ h => h) (yields_free (by rfl) (fun w => ?_)) ?_
      rotate_left
      · go_simp; try (with_reducible rfl)
      try simp only [Act.put, List.getElem_toArray, List.getElem_cons_succ, List.getElem_cons_zero, List.setIfInBounds_toArray, List.set_cons_zero, List.set_cons_succ]
      refine GoG.take (i := 10) (v := ?_) [24] rfl (by kernel_rfl) (by kernel_rfl) (by kernel_rfl) (by kernel_rfl) (by kernel_rfl) (by kernel_rfl) (fun _ _ _ h => h) (yields_load 24 ⟨xb, 3, none⟩ (.slice xw x.words.length xwc) (by simp) (by decide) (by rfl) (fun w hw => ?_)) ?_
      rotate_left
      · go_simp; try (with_reducible rfl)
      try simp only [Act.put, List.getElem_toArray, List.getElem_cons_succ, List.getElem_cons_zero, List.setIfInBounds_toArray, List.set_cons_zero, List.set_cons_succ]
      refine GoG.take (i := 11) (v := ?_) [] rfl (by kernel_rfl) (by kernel_rfl) (by kernel_rfl) (by kernel_rfl) (by kernel_rfl) (by kernel_rfl) (fun _ _ _ h => h) (yields_free (by rfl) (fun w => ?_)) ?_
      rotate_left
      · go_simp; try (with_reducible rfl)
      try simp only [Act.put, List.getElem_toArray, List.getElem_cons_succ, List.getElem_cons_zero, List.setIfInBounds_toArray, List.set_cons_zero, List.set_cons_succ]
      refine GoG.take (i := 12) (v := ?_) [] rfl (by kernel_rfl) (by kernel_rfl) (by kernel_rfl) (by kernel_rfl) (by kernel_rfl) (by kernel_rfl) (fun _ _ _ h => h) (yields_free (by rfl) (fun w => ?_)) ?_
      rotate_left
      · go_simp; try (with_reducible rfl)
      try simp only [Act.put, List.getElem_toArray, List.getElem_cons_succ, List.getElem_cons_zero, List.setIfInBounds_toArray, List.set_cons_zero, List.set_cons_succ]
      refine GoG.take (i := 13) (v := ?_) [] rfl (by kernel_rfl) (by kernel_rfl) (by kernel_rfl) (by kernel_rfl) (by kernel_rfl) (by kernel_rfl) (fun _ _ _ h => h) (yields_free (by rfl) (fun w => ?_)) ?_
      rotate_left
      · go_simp; try (with_reducible rfl)
      try simp only [Act.put, List.getElem_toArray, List.getElem_cons_succ, List.getElem_cons_zero, List.setIfInBounds_toArray, List.set_cons_zero, List.set_cons_succ]
      refine GoG.take (i := 14) (v := ?_) [] rfl (by kernel_rfl) (by kernel_rfl) (by kernel_rfl) (by kernel_rfl) (by kernel_rfl) (by kernel_rfl) (fun _ _ _ h => h) (yields_free (by rfl) (fun w => ?_)) ?_
      rotate_left
      · go_simp; try (with_reducible rfl)
      try simp only [Act.put, List.getElem_toArray, List.getElem_cons_succ, List.getElem_cons_zero, List.setIfInBounds_toArray, List.set_cons_zero, List.set_cons_succ]
      refine GoG.take (i := 15) (v := ?_) [26] rfl (by kernel_rfl) (by kernel_rfl) (by kernel_rfl) (by kernel_rfl) (by kernel_rfl) (by kernel_rfl) (fun _ _ _ h => h) (yields_load 26 ⟨xb, 4, none⟩ (.slice xk x.kids.length xkc) (by simp) (by decide) (by rfl) (fun w hw => ?_)) ?_
      rotate_left
      · go_simp; try (with_reducible rfl)
      try simp only [Act.put, List.getElem_toArray, List.getElem_cons_succ, List.getElem_cons_zero, List.setIfInBounds_toArray, List.set_cons_zero, List.set_cons_succ]
      refine GoG.take (i := 16) (v := ?_) [] rfl (by kernel_rfl) (by kernel_rfl) (by kernel_rfl) (by kernel_rfl) (by kernel_rfl) (by kernel_rfl) (fun _ _ _ h => h) (yields_free (by rfl) (fun w => ?_)) ?_
      rotate_left
      · go_simp; try (with_reducible rfl)
      try simp only [Act.put, List.getElem_toArray, List.getElem_cons_succ, List.getElem_cons_zero, List.setIfInBounds_toArray, List.set_cons_zero, List.set_cons_succ]
      refine GoG.take (i := 17) (v := ?_) [26] rfl (by kernel_rfl) (by kernel_rfl) (by kernel_rfl) (by kernel_rfl) (by kernel_rfl) (by kernel_rfl) (fun _ _ _ h => h) (yields_load 26 ⟨xb, 4, none⟩ (.slice xk x.kids.length xkc) (by simp) (by decide) (by rfl) (fun w hw => ?_)) ?_
      rotate_left
      · go_simp; try (with_reducible rfl)
      try simp only [Act.put, List.getElem_toArray, List.getElem_cons_succ, List.getElem_cons_zero, List.setIfInBounds_toArray, List.set_cons_zero, List.set_cons_succ]
      refine GoG.take (i := 18) (v := ?_) [] rfl (by kernel_rfl) (by kernel_rfl) (by kernel_rfl) (by kernel_rfl) (by kernel_rfl) (by kernel_rfl) (fun _ _ _ h => h) (yields_free (by rfl) (fun w => ?_)) ?_
      rotate_left
      · go_simp; try (with_reducible rfl)
      try simp only [Act.put, List.getElem_toArray, List.getElem_cons_succ, List.getElem_cons_zero, List.setIfInBounds_toArray, List.set_cons_zero, List.set_cons_succ]
      refine GoG.take (i := 19) (v := ?_) [] rfl (by kernel_rfl) (by kernel_rfl) (by kernel_rfl) (by kernel_rfl) (by kernel_rfl) (by kernel_rfl) (fun _ _ _ h => h) (yields_free (by rfl) (fun w => ?_)) ?_
      rotate_left
      · go_simp; try (with_reducible rfl)
      try simp only [Act.put, List.getElem_toArray, List.getElem_cons_succ, List.getElem_cons_zero, List.setIfInBounds_toArray, List.set_cons_zero, List.set_cons_succ]
      refine GoG.take (i := 20) (v := ?_) [] rfl (by kernel_rfl) (by kernel_rfl) (by kernel_rfl) (by kernel_rfl) (by kernel_rfl) (by kernel_rfl) (fun _ _ _ h => h) (yields_free (by rfl) (fun w => ?_)) ?_
      rotate_left
      · go_simp; try (with_reducible rfl)
      try simp only [Act.put, List.getElem_toArray, List.getElem_cons_succ, List.getElem_cons_zero, List.setIfInBounds_toArray, List.set_cons_zero, List.set_cons_succ]
      refine GoG.take (i := 21) (v := ?_) [] rfl (by kernel_rfl) (by kernel_rfl) (by kernel_rfl) (by kernel_rfl) (by kernel_rfl) (by kernel_rfl) (fun _ _ _ h => h) (yields_free (by rfl) (fun w => ?_)) ?_
      rotate_left
      · go_simp; try (with_reducible rfl)
      try simp only [Act.put, List.getElem_toArray, List.getElem_cons_succ, List.getElem_cons_zero, List.setIfInBounds_toArray, List.set_cons_zero, List.set_cons_succ]
      have fr := J0.out.free 1
      have cc := J0.out.cell 1
      refine GoG.one (i := 22) rfl (by kernel_rfl) (fun K hK => ?_)
      go_simp
      refine hK.out _ _ (Keeps.up (by rfl) (Keeps.cons ?_ (Keeps.cons ?_ Keeps.nil))) ?_
      · exact ((J0.out.set 1 _).cell 3)
      · exact ((J0.out.set 1 _).cell 4)
      clear hK K fr cc
      have J1 := Lib.hid (J0.out.set 1 (.string (x.name.extract 0 q0)))
      try simp only [Act.put, List.getElem_toArray, List.getElem_cons_succ, List.getElem_cons_zero, List.setIfInBounds_toArray, List.set_cons_zero, List.set_cons_succ]
      refine GoG.take (i := 23) (v := ?_) [] rfl (by kernel_rfl) (by kernel_rfl) (by kernel_rfl) (by kernel_rfl) (by kernel_rfl) (by kernel_rfl) (fun _ _ _ h => h) (yields_free (by rfl) (fun w => ?_)) ?_
      rotate_left
      · go_simp; try (with_reducible rfl)
      try simp only [Act.put, List.getElem_toArray, List.getElem_cons_succ, List.getElem_cons_zero, List.setIfInBounds_toArray, List.set_cons_zero, List.set_cons_succ]
      have fr := J0.out.free 3
      have cc := J1.out.cell 3
      refine GoG.one (i := 24) rfl (by kernel_rfl) (fun K hK => ?_)
      go_simp
      refine hK.out _ _ (Keeps.up (by rfl) (Keeps.up (by rfl) (Keeps.cons ?_ Keeps.nil))) ?_
      · exact ((J1.out.set 3 _).cell 4)
      clear hK K fr cc
      have J2 := Lib.hid (J1.out.set 3 (.slice xw q1 xwc))
      try simp only [Act.put, List.getElem_toArray, List.getElem_cons_succ, List.getElem_cons_zero, List.setIfInBounds_toArray, List.set_cons_zero, List.set_cons_succ]
      refine GoG.take (i := 25) (v := ?_) [] rfl (by kernel_rfl) (by kernel_rfl) (by kernel_rfl) (by kernel_rfl) (by kernel_rfl) (by kernel_rfl) (fun _ _ _ h => h) (yields_free (by rfl) (fun w => ?_)) ?_
      rotate_left
      · go_simp; try (with_reducible rfl)
      try simp only [Act.put, List.getElem_toArray, List.getElem_cons_succ, List.getElem_cons_zero, List.setIfInBounds_toArray, List.set_cons_zero, List.set_cons_succ]
      have fr := J0.out.free 4
      have cc := J2.out.cell 4
      refine GoG.one (i := 26) rfl (by kernel_rfl) (fun K hK => ?_)
      go_simp
      refine hK.out _ _ (Keeps.up (by rfl) (Keeps.up (by rfl) (Keeps.up (by rfl) Keeps.nil))) ?_
      clear hK K fr cc
      have J3 := Lib.hid (J2.out.set 4 (.slice xk q2 xkc))
      try simp only [Act.put, List.getElem_toArray, List.getElem_cons_succ, List.getElem_cons_zero, List.setIfInBounds_toArray, List.set_cons_zero, List.set_cons_succ]
      refine GoG.done (by kernel_rfl) ?_ _
      have BR := Lib.hid (show Below wr.heap.size wr ((((wn.setCell ⟨xb, 1, none⟩ (.string (x.name.extract 0 q0))).setCell ⟨xb, 3, none⟩ (.slice xw q1 xwc)).setCell ⟨xb, 4, none⟩ (.slice xk q2 xkc)).drew) from (((BR0.out.setCell BLE.out _).setCell BLE.out _).setCell BLE.out _).drew)
      have J3' := Lib.hid (show BlockAt ((((wn.setCell ⟨xb, 1, none⟩ (.string (x.name.extract 0 q0))).setCell ⟨xb, 3, none⟩ (.slice xw q1 xwc)).setCell ⟨xb, 4, none⟩ (.slice xk q2 xkc)).drew) _ _ _ from J3.out)
      have OW := Lib.hid (show OwnZ ((((wn.setCell ⟨xb, 1, none⟩ (.string (x.name.extract 0 q0))).setCell ⟨xb, 3, none⟩ (.slice xw q1 xwc)).setCell ⟨xb, 4, none⟩ (.slice xk q2 xkc)).drew) w3.heap.size _ xs from own_set (own_set (own_set hown2.out (own_not Hown.out (.inr (by rw [HXB.out]; exact Nat.le_refl _))) 1 _) (own_not Hown.out (.inr (by rw [HXB.out]; exact Nat.le_refl _))) 3 _) (own_not Hown.out (.inr (by rw [HXB.out]; exact Nat.le_refl _))) 4 _)
      generalize (((wn.setCell ⟨xb, 1, none⟩ (.string (x.name.extract 0 q0))).setCell ⟨xb, 3, none⟩ (.slice xw q1 xwc)).setCell ⟨xb, 4, none⟩ (.slice xk q2 xkc)).drew = wz at *
      have J := J3'.out
      simp only [List.setIfInBounds_toArray, List.set_cons_zero, List.set_cons_succ] at J
      obtain ⟨j0, j1, j2, j3, j4⟩ := cell5 J
      have BD := Lib.hid (HB.out.trans (BR.out.mono HB.out.size))
      have KZ := Lib.hid (HK3.out.below BR.out)
      obtain ⟨t0, t1⟩ := cell2 KZ.out
      have hO2 := OW.out
      unfold OwnZ at hO2
      rw [Hlen.out] at hO2
      have HO2 := Lib.hid hO2
      have BZ := Lib.hid BR.out.size
      have CI := Lib.hid (show tzC1 ⟨cutT x q0 q1 q2, xw, xwc, xk, xkc⟩ = [.int .i64 x.kind, .string (x.name.extract 0 q0), .int .i64 x.n, .slice xw q1 xwc, .slice xk q2 xkc] from by
        unfold tzC1
        show [_, _, _, Value.slice xw (cutT x q0 q1 q2).words.length xwc, Value.slice xk (cutT x q0 q1 q2).kids.length xkc] = _
        rw [HCI.out.1, HCI.out.2.1]
        rfl)
      clear J J0 J1 J2 J3 J3' G0 G1 G2 BR0 c1 c3 c4 n1 n2 n3 n4 n5 p01 p21 p11 p13 p23 hO2 Hown hown2
      go_wp2_with (at_builtin; refine wpList_append_own_at _ rfl _ _ 22 rfl w3.heap.size 38 i0 (.agg #[.int .i64 0, .string ⟨#[]⟩, .int .i64 0, .slice none 0 0, .slice none 0 0]) 5 80 Tryz.underlying22 hi hz0 hz1 hz2 rfl (by decide) _ k (tzC xs) rfl (HO2.out.alloc _) ⟨wz.heap.size, 0, none⟩ 1 1 [.int .i64 x.kind, .string (x.name.extract 0 q0), .int .i64 x.n, .slice xw q1 xwc, .slice xk q2 xkc] rfl ?c1 ?c2 ?c3 ?c4 ?c5 ?c6 ?_)
      case c1 => rfl
      case c2 => exact cell_news _ _ _
      case c3 => exact fun v hv => by rw [← CI.out] at hv; exact tzC1_one _ v hv
      case c4 => unfold maxLen; omega
      case c5 => omega
      case c6 => have h1 := BZ.out; have h2 := HSZ.out; simp; omega
      intro v' w4 hown3 hgrow _ hblk
      have hp := push_all (W := w) (r := [⟨cutT x q0 q1 q2, xw, xwc, xk, xkc⟩]) (by first | (rw [Hlen.out]; done) | (rw [Hlen.out]; rfl)) (Nat.le_of_lt SZ.out.1) OW.out BD.out (by simpa [tzC, CI.out] using hown3) hgrow
      obtain ⟨so, sc, hso⟩ := hp.1.slice
      rw [show (xs ++ [(⟨cutT x q0 q1 q2, xw, xwc, xk, xkc⟩ : Tz)]).length = k + 1 by rw [List.length_append, Hlen.out]; rfl] at hso
      subst hso
      have HP := Lib.hid hp
      have KEEP := Lib.hid (show ∀ b cs T, BlockAt wr b cs T → b < w3.heap.size → BlockAt w4 b cs T from fun b cs T hB hlt => by
        have hz := hB.below BR.out
        unfold BlockAt
        rw [HP.out.2.2 b hz.lt (own_not OW.out (.inl hlt))]
        exact hz)
      have hz2 := Lib.hid (show ∀ z ∈ xs ++ [⟨cutT x q0 q1 q2, xw, xwc, xk, xkc⟩], InZ W0 z from fun z hz => by
        rcases List.mem_append.1 hz with h1 | h1
        · exact Hz.out z h1
        · rw [List.mem_singleton.1 h1]
          exact HCI.out.2.2)
      have hl2 := Lib.hid (show (xs ++ [(⟨cutT x q0 q1 q2, xw, xwc, xk, xkc⟩ : Tz)]).length = k + 1 by rw [List.length_append, Hlen.out]; rfl)
      obtain ⟨w5, h5⟩ : ∃ w5, w4.setCell ⟨w2.heap.size, 0, none⟩ (.slice so (k + 1) sc) = w5 := ⟨_, rfl⟩
      have K4 := Lib.hid (KEEP.out _ _ _ HK3.out SZ.out.2.2.1)
      have nk3 := Lib.hid (box2_set0 K4.out h5)
      have nk1 := Lib.hid (other_set (KEEP.out _ _ _ HK1.out SZ.out.1) SZ.out.2.2.2.2.2.1 h5)
      have nk2 := Lib.hid (other_set (KEEP.out _ _ _ HK2.out SZ.out.2.1) SZ.out.2.2.2.2.2.2 h5)
      have no2 := Lib.hid (show OwnZ w5 w3.heap.size _ _ by rw [← h5]; exact own_set HP.out.1 (own_not HP.out.1 (.inl SZ.out.2.2.1)) 0 _)
      have nb := Lib.hid (set1_below HP.out.2.1 SZ.out.2.2.2.2.1 h5)
      have ns := Lib.hid (show w3.heap.size ≤ w5.heap.size by
        have e : w5.heap.size = w4.heap.size := by rw [← h5]; simp
        rw [e]
        have g := hgrow.size
        have g1 := BZ.out
        have g2 := HSZ.out
        simp at g
        omega)
      have t0 := (cell2 K4.out).1
      have f0 := K4.out.free 0
      clear hown3 hgrow hblk hp j0 j1 j2 j3 j4
      go_wp2_with fail
      clear t0 f0 t1 h5
      go_roundw
      case rel => exact ⟨k + 1, _, _, by omega, by go_num, hl2, no2, hz2, nk1, nk2, nk3, nb, ns⟩
      case measure => first | (simp [intOf]; done) | (simp [intOf]; omega)
    · obtain rfl : k = m := by omega
      obtain ⟨wX, rfl⟩ : ∃ wX, wX = wr := ⟨_, rfl⟩
      obtain ⟨e0, e1⟩ := cell2 HK1.out
      have HBX := HB
      have LTX := Lib.hid (show w.heap.size < wX.heap.size ∧ w1.heap.size < wX.heap.size ∧ w2.heap.size < wX.heap.size from ⟨Nat.lt_of_lt_of_le SZ.out.1 HSZ.out, Nat.lt_of_lt_of_le SZ.out.2.1 HSZ.out, Nat.lt_of_lt_of_le SZ.out.2.2.1 HSZ.out⟩)
      go_wp2_with fail
      clear e0 e1
      go_loopw [60] (fun i wr => ∃ (g : Nat) (ys : List Nz) (vn : Value), g ≤ r ∧ i = .int .i64 g ∧ Hid (ys.length = g) ∧ Hid (OwnN wr wX.heap.size vn ys) ∧ Hid (∀ z ∈ ys, InN W0 z) ∧ Hid (BlockAt wr w2.heap.size #[vo, vn] 25) ∧ Hid (SameX w2.heap.size wX wr) ∧ Hid (Below w.heap.size w wr)) (fun i _ => r - (intOf i).toNat)
      case atStart => exact ⟨0, [], .slice none 0 0, Nat.zero_le _, rfl, Lib.hid rfl, Lib.hid (ownN_nil _ _), Lib.hid (by simp), HK3, Lib.hid ⟨Nat.le_refl _, fun _ _ _ => rfl⟩, HB⟩
      case round =>
        obtain ⟨g, ys, vn, hg, rfl, HlenN, HownN, HzN, HKN, HSX, HBN⟩ := hrel
        by_cases hgm : g < r
        · have hks : g < u.named.length := by rw [HN.out]; omega
          have HBW := Lib.hid (HB0.out.trans (HBN.out.mono HB0.out.size))
          obtain ⟨ab, aof, rfl, hab, hcl⟩ := HA.out.named.cells (by omega)
          obtain ⟨xb_, xbc, xm, xmc, a0', a1', a2', a3', hxc0⟩ := hcl g hks
          obtain ⟨x, hx⟩ : ∃ x, u.named[g] = x := ⟨_, rfl⟩
          rw [hx] at a0' a1' a2' a3' hxc0
          have a0 := (HBW.out.cell hab).trans a0'
          have a1 := (HBW.out.cell hab).trans a1'
          have a2 := (HBW.out.cell hab).trans a2'
          have a3 := (HBW.out.cell hab).trans a3'
          have HXI := Lib.hid hxc0
          clear hx hcl hab hks a0' a1' a2' a3'
          obtain ⟨wn, hwn⟩ : ∃ wn, wr.alloc (.cells #[.string x.name, .slice xb_ x.bounds.length xbc, .int .i64 x.under, .slice xm x.methods.length xmc] 51) = wn := ⟨_, rfl⟩
          obtain ⟨k2, qn, z2⟩ := box_new hwn
          obtain ⟨xb, hxb⟩ : ∃ xb, wr.heap.size = xb := ⟨_, rfl⟩
          rw [hxb] at k2
          have HXB := Lib.hid hxb
          have J0 := Lib.hid k2
          obtain ⟨c0, c1, -, c3⟩ := cell4 k2
          have BR0 := Lib.hid qn
          have BLE := Lib.hid (show wr.heap.size ≤ xb by rw [← hxb]; exact Nat.le_refl _)
          have hown2 := Lib.hid (HownN.out.kept qn)
          obtain ⟨q0, hq0⟩ : ∃ q : Nat, min x.name.size 50 = q := ⟨_, rfl⟩
          obtain ⟨q1, hq1⟩ : ∃ q : Nat, min x.bounds.length 18 = q := ⟨_, rfl⟩
          obtain ⟨q2, hq2⟩ : ∃ q : Nat, min x.methods.length 18 = q := ⟨_, rfl⟩
          have p01 : q0 ≤ x.name.size := by omega
          have p02 : q0 ≤ 50 := by omega
          have p11 : q1 ≤ x.bounds.length := by omega
          have p12 : q1 ≤ 18 := by omega
          have p13 : q1 ≤ xbc := Nat.le_trans p11 HXI.out.bc1
          have p21 : q2 ≤ x.methods.length := by omega
          have p22 : q2 ≤ 18 := by omega
          have p23 : q2 ≤ xmc := Nat.le_trans p21 HXI.out.mc1
          have n1 := HXI.out.nl
          have n2 := Nat.le_trans HXI.out.bc1 HXI.out.bc2
          have n3 := Nat.le_trans HXI.out.mc1 HXI.out.mc2
          have n4 := HXI.out.bc2
          have n5 := HXI.out.mc2
          have HCI := Lib.hid (cutN_in HXI.out p02 p01 p12 p11 p22 p21)
          have G0 : ∀ (ts : Array TypeId) (ty : TypeId) (W : World), (Builtin.min_ ts ty #[.int .i64 (x.name.size : Int), .int .i64 50]).run Tryz.prog W = .ok (.int .i64 (q0 : Int)) W := fun ts ty W => by rw [run_min_int2, show (if (50 : Int) < (x.name.size : Int) then (50 : Int) else (x.name.size : Int)) = (q0 : Int) by split <;> omega]
          have G1 : ∀ (ts : Array TypeId) (ty : TypeId) (W : World), (Builtin.min_ ts ty #[.int .i64 (x.bounds.length : Int), .int .i64 18]).run Tryz.prog W = .ok (.int .i64 (q1 : Int)) W := fun ts ty W => by rw [run_min_int2, show (if (18 : Int) < (x.bounds.length : Int) then (18 : Int) else (x.bounds.length : Int)) = (q1 : Int) by split <;> omega]
          have G2 : ∀ (ts : Array TypeId) (ty : TypeId) (W : World), (Builtin.min_ ts ty #[.int .i64 (x.methods.length : Int), .int .i64 18]).run Tryz.prog W = .ok (.int .i64 (q2 : Int)) W := fun ts ty W => by rw [run_min_int2, show (if (18 : Int) < (x.methods.length : Int) then (18 : Int) else (x.methods.length : Int)) = (q2 : Int) by split <;> omega]
          clear hq0 hq1 hq2 k2 qn z2 hxc0
          go_upto_region 11 with fail
          clear hwn a0 a1 a2 a3 hxb
          refine GoG.start [(22, ⟨xb, 0, none⟩, .string x.name), (24, ⟨xb, 1, none⟩, .slice xb_ x.bounds.length xbc), (26, ⟨xb, 3, none⟩, .slice xm x.methods.length xmc)] (by kernel_rfl) ?_ ?_
          · exact Keeps.cons (by first | exact c0 | assumption) (Keeps.cons (by first | exact c1 | assumption) (Keeps.cons (by first | exact c3 | assumption) Keeps.nil))
          refine GoG.take (i := 0) (v := ?_) [] rfl (by kernel_rfl) (by kernel_rfl) (by kernel_rfl) (by kernel_rfl) (by kernel_rfl) (by kernel_rfl) (fun _ _ _ h => h) (yields_free (by rfl) (fun w => ?_)) ?_
          rotate_left
          · go_simp; try (with_reducible rfl)
          try simp only [Act.put, List.getElem_toArray, List.getElem_cons_succ, List.getElem_cons_zero, List.setIfInBounds_toArray, List.set_cons_zero, List.set_cons_succ]
          refine GoG.take (i := 1) (v := ?_) [22] rfl (by kernel_rfl) (by kernel_rfl) (by kernel_rfl) (by kernel_rfl) (by kernel_rfl) (by kernel_rfl) (fun _ _ _ h => h) (yields_load 22 ⟨xb, 0, none⟩ (.string x.name) (by simp) (by decide) (by rfl) (fun w hw => ?_)) ?_
          rotate_left
          · go_simp; try (with_reducible rfl)
          try simp only [Act.put, List.getElem_toArray, List.getElem_cons_succ, List.getElem_cons_zero, List.setIfInBounds_toArray, List.set_cons_zero, List.set_cons_succ]
          refine GoG.take (i := 2) (v := ?_) [] rfl (by kernel_rfl) (by kernel_rfl) (by kernel_rfl) (by kernel_rfl) (by kernel_rfl) (by kernel_rfl) (fun _ _ _ h => h) (yields_free (by rfl) (fun w => ?_)) ?_
          rotate_left
          · go_simp; try (with_reducible rfl)
          try simp only [Act.put, List.getElem_toArray, List.getElem_cons_succ, List.getElem_cons_zero, List.setIfInBounds_toArray, List.set_cons_zero, List.set_cons_succ]
          refine GoG.take (i := 3) (v := ?_) [22] rfl (by kernel_rfl) (by kernel_rfl) (by kernel_rfl) (by kernel_rfl) (by kernel_rfl) (by kernel_rfl) (fun _ _ _ h => h) (yields_load 22 ⟨xb, 0, none⟩ (.string x.name) (by simp) (by decide) (by rfl) (fun w hw => ?_)) ?_
          rotate_left
          · go_simp; try (with_reducible rfl)
          try simp only [Act.put, List.getElem_toArray, List.getElem_cons_succ, List.getElem_cons_zero, List.setIfInBounds_toArray, List.set_cons_zero, List.set_cons_succ]
          refine GoG.take (i := 4) (v := ?_) [] rfl (by kernel_rfl) (by kernel_rfl) (by kernel_rfl) (by kernel_rfl) (by kernel_rfl) (by kernel_rfl) (fun _ _ _ h => h) (yields_free (by rfl) (fun w => ?_)) ?_
          rotate_left
          · go_simp; try (with_reducible rfl)
          try simp only [Act.put, List.getElem_toArray, List.getElem_cons_succ, List.getElem_cons_zero, List.setIfInBounds_toArray, List.set_cons_zero, List.set_cons_succ]
          refine GoG.take (i := 5) (v := ?_) [] rfl (by kernel_rfl) (by kernel_rfl) (by kernel_rfl) (by kernel_rfl) (by kernel_rfl) (by kernel_rfl) (fun _ _ _ h => h) (yields_free (by rfl) (fun w => ?_)) ?_
          rotate_left
          · go_simp; try (with_reducible rfl)
          try simp only [Act.put, List.getElem_toArray, List.getElem_cons_succ, List.getElem_cons_zero, List.setIfInBounds_toArray, List.set_cons_zero, List.set_cons_succ]
          refine GoG.take (i := 6) (v := ?_) [] rfl (by kernel_rfl) (by kernel_rfl) (by kernel_rfl) (by kernel_rfl) (by kernel_rfl) (by kernel_rfl) (fun _ _ _ h => h) (yields_free (by rfl) (fun w => ?_)) ?_
          rotate_left
          · go_simp; try (with_reducible rfl)
          try simp only [Act.put, List.getElem_toArray, List.getElem_cons_succ, List.getElem_cons_zero, List.setIfInBounds_toArray, List.set_cons_zero, List.set_cons_succ]
          refine GoG.take (i := 7) (v := ?_) [] rfl (by kernel_rfl) (by kernel_rfl) (by kernel_rfl) (by kernel_rfl) (by kernel_rfl) (by kernel_rfl) (fun _ _ _ h => h) (yields_free (by rfl) (fun w => ?_)) ?_
          rotate_left
          · go_simp; try (with_reducible rfl)
          try simp only [Act.put, List.getElem_toArray, List.getElem_cons_succ, List.getElem_cons_zero, List.setIfInBounds_toArray, List.set_cons_zero, List.set_cons_succ]
          refine GoG.take (i := 8) (v := ?_) [24] rfl (by kernel_rfl) (by kernel_rfl) (by kernel_rfl) (by kernel_rfl) (by kernel_rfl) (by kernel_rfl) (fun _ _ _ h => h) (yields_load 24 ⟨xb, 1, none⟩ (.slice xb_ x.bounds.length xbc) (by simp) (by decide) (by rfl) (fun w hw => ?_)) ?_
          rotate_left
          · go_simp; try (with_reducible rfl)
          try simp only [Act.put, List.getElem_toArray, List.getElem_cons_succ, List.getElem_cons_zero, List.setIfInBounds_toArray, List.set_cons_zero, List.set_cons_succ]
          refine GoG.take (i := 9) (v := ?_) [] rfl (by kernel_rfl) (by kernel_rfl) (by kernel_rfl) (by kernel_rfl) (by kernel_rfl) (by kernel_rfl) (fun _ _ _ h => h) (yields_free (by rfl) (fun w => ?_)) ?_
          rotate_left
          · go_simp; try (with_reducible rfl)
          try simp only [Act.put, List.getElem_toArray, List.getElem_cons_succ, List.getElem_cons_zero, List.setIfInBounds_toArray, List.set_cons_zero, List.set_cons_succ]
          refine GoG.take (i := 10) (v := ?_) [24] rfl (by kernel_rfl) (by kernel_rfl) (by kernel_rfl) (by kernel_rfl) (by kernel_rfl) (by kernel_rfl) (fun _ _ _ h => h) (yields_load 24 ⟨xb, 1, none⟩ (.slice xb_ x.bounds.length xbc) (by simp) (by decide) (by rfl) (fun w hw => ?_)) ?_
          rotate_left
          · go_simp; try (with_reducible rfl)
          try simp only [Act.put, List.getElem_toArray, List.getElem_cons_succ, List.getElem_cons_zero, List.setIfInBounds_toArray, List.set_cons_zero, List.set_cons_succ]
          refine GoG.take (i := 11) (v := ?_) [] rfl (by kernel_rfl) (by kernel_rfl) (by kernel_rfl) (by kernel_rfl) (by kernel_rfl) (by kernel_rfl) (fun _ _ _ h => h) (yields_free (by rfl) (fun w => ?_)) ?_
          rotate_left
          · go_simp; try (with_reducible rfl)
          try simp only [Act.put, List.getElem_toArray, List.getElem_cons_succ, List.getElem_cons_zero, List.setIfInBounds_toArray, List.set_cons_zero, List.set_cons_succ]
          refine GoG.take (i := 12) (v := ?_) [] rfl (by kernel_rfl) (by kernel_rfl) (by kernel_rfl) (by kernel_rfl) (by kernel_rfl) (by kernel_rfl) (fun _ _ _ h => h) (yields_free (by rfl) (fun w => ?_)) ?_
          rotate_left
          · go_simp; try (with_reducible rfl)
          try simp only [Act.put, List.getElem_toArray, List.getElem_cons_succ, List.getElem_cons_zero, List.setIfInBounds_toArray, List.set_cons_zero, List.set_cons_succ]
          refine GoG.take (i := 13) (v := ?_) [] rfl (by kernel_rfl) (by kernel_rfl) (by kernel_rfl) (by kernel_rfl) (by kernel_rfl) (by kernel_rfl) (fun _ _ _ h => h) (yields_free (by rfl) (fun w => ?_)) ?_
          rotate_left
          · go_simp; try (with_reducible rfl)
          try simp only [Act.put, List.getElem_toArray, List.getElem_cons_succ, List.getElem_cons_zero, List.setIfInBounds_toArray, List.set_cons_zero, List.set_cons_succ]
          refine GoG.take (i := 14) (v := ?_) [] rfl (by kernel_rfl) (by kernel_rfl) (by kernel_rfl) (by kernel_rfl) (by kernel_rfl) (by kernel_rfl) (fun _ _ _ h => h) (yields_free (by rfl) (fun w => ?_)) ?_
          rotate_left
          · go_simp; try (with_reducible rfl)
          try simp only [Act.put, List.getElem_toArray, List.getElem_cons_succ, List.getElem_cons_zero, List.setIfInBounds_toArray, List.set_cons_zero, List.set_cons_succ]
          refine GoG.take (i := 15) (v := ?_) [26] rfl (by kernel_rfl) (by kernel_rfl) (by kernel_rfl) (by kernel_rfl) (by kernel_rfl) (by kernel_rfl) (fun _ _ _ h => h) (yields_load 26 ⟨xb, 3, none⟩ (.slice xm x.methods.length xmc) (by simp) (by decide) (by rfl) (fun w hw => ?_)) ?_
          rotate_left
          · go_simp; try (with_reducible rfl)
          try simp only [Act.put, List.getElem_toArray, List.getElem_cons_succ, List.getElem_cons_zero, List.setIfInBounds_toArray, List.set_cons_zero, List.set_cons_succ]
          refine GoG.take (i := 16) (v := ?_) [] rfl (by kernel_rfl) (by kernel_rfl) (by kernel_rfl) (by kernel_rfl) (by kernel_rfl) (by kernel_rfl) (fun _ _ _ h => h) (yields_free (by rfl) (fun w => ?_)) ?_
          rotate_left
          · go_simp; try (with_reducible rfl)
          try simp only [Act.put, List.getElem_toArray, List.getElem_cons_succ, List.getElem_cons_zero, List.setIfInBounds_toArray, List.set_cons_zero, List.set_cons_succ]
          refine GoG.take (i := 17) (v := ?_) [26] rfl (by kernel_rfl) (by kernel_rfl) (by kernel_rfl) (by kernel_rfl) (by kernel_rfl) (by kernel_rfl) (fun _ _ _ h => h) (yields_load 26 ⟨xb, 3, none⟩ (.slice xm x.methods.length xmc) (by simp) (by decide) (by rfl) (fun w hw => ?_)) ?_
          rotate_left
          · go_simp; try (with_reducible rfl)
          try simp only [Act.put, List.getElem_toArray, List.getElem_cons_succ, List.getElem_cons_zero, List.setIfInBounds_toArray, List.set_cons_zero, List.set_cons_succ]
          refine GoG.take (i := 18) (v := ?_) [] rfl (by kernel_rfl) (by kernel_rfl) (by kernel_rfl) (by kernel_rfl) (by kernel_rfl) (by kernel_rfl) (fun _ _ _ h => h) (yields_free (by rfl) (fun w => ?_)) ?_
          rotate_left
          · go_simp; try (with_reducible rfl)
          try simp only [Act.put, List.getElem_toArray, List.getElem_cons_succ, List.getElem_cons_zero, List.setIfInBounds_toArray, List.set_cons_zero, List.set_cons_succ]
          refine GoG.take (i := 19) (v := ?_) [] rfl (by kernel_rfl) (by kernel_rfl) (by kernel_rfl) (by kernel_rfl) (by kernel_rfl) (by kernel_rfl) (fun _ _ _ h => h) (yields_free (by rfl) (fun w => ?_)) ?_
          rotate_left
          · go_simp; try (with_reducible rfl)
          try simp only [Act.put, List.getElem_toArray, List.getElem_cons_succ, List.getElem_cons_zero, List.setIfInBounds_toArray, List.set_cons_zero, List.set_cons_succ]
          refine GoG.take (i := 20) (v := ?_) [] rfl (by kernel_rfl) (by kernel_rfl) (by kernel_rfl) (by kernel_rfl) (by kernel_rfl) (by kernel_rfl) (fun _ _ _ h => h) (yields_free (by rfl) (fun w => ?_)) ?_
          rotate_left
          · go_simp; try (with_reducible rfl)
          try simp only [Act.put, List.getElem_toArray, List.getElem_cons_succ, List.getElem_cons_zero, List.setIfInBounds_toArray, List.set_cons_zero, List.set_cons_succ]
          refine GoG.take (i := 21) (v := ?_) [] rfl (by kernel_rfl) (by kernel_rfl) (by kernel_rfl) (by kernel_rfl) (by kernel_rfl) (by kernel_rfl) (fun _ _ _ h => h) (yields_free (by rfl) (fun w => ?_)) ?_
          rotate_left
          · go_simp; try (with_reducible rfl)
          try simp only [Act.put, List.getElem_toArray, List.getElem_cons_succ, List.getElem_cons_zero, List.setIfInBounds_toArray, List.set_cons_zero, List.set_cons_succ]
          have fr := J0.out.free 0
          have cc := J0.out.cell 0
          refine GoG.one (i := 22) rfl (by kernel_rfl) (fun K hK => ?_)
          go_simp
          refine hK.out _ _ (Keeps.up (by rfl) (Keeps.cons ?_ (Keeps.cons ?_ Keeps.nil))) ?_
          · exact ((J0.out.set 0 _).cell 1)
          · exact ((J0.out.set 0 _).cell 3)
          clear hK K fr cc
          have J1 := Lib.hid (J0.out.set 0 (.string (x.name.extract 0 q0)))
          try simp only [Act.put, List.getElem_toArray, List.getElem_cons_succ, List.getElem_cons_zero, List.setIfInBounds_toArray, List.set_cons_zero, List.set_cons_succ]
          refine GoG.take (i := 23) (v := ?_) [] rfl (by kernel_rfl) (by kernel_rfl) (by kernel_rfl) (by kernel_rfl) (by kernel_rfl) (by kernel_rfl) (fun _ _ _ h => h) (yields_free (by rfl) (fun w => ?_)) ?_
          rotate_left
          · go_simp; try (with_reducible rfl)
          try simp only [Act.put, List.getElem_toArray, List.getElem_cons_succ, List.getElem_cons_zero, List.setIfInBounds_toArray, List.set_cons_zero, List.set_cons_succ]
          have fr := J0.out.free 1
          have cc := J1.out.cell 1
          refine GoG.one (i := 24) rfl (by kernel_rfl) (fun K hK => ?_)
          go_simp
          refine hK.out _ _ (Keeps.up (by rfl) (Keeps.up (by rfl) (Keeps.cons ?_ Keeps.nil))) ?_
          · exact ((J1.out.set 1 _).cell 3)
          clear hK K fr cc
          have J2 := Lib.hid (J1.out.set 1 (.slice xb_ q1 xbc))
          try simp only [Act.put, List.getElem_toArray, List.getElem_cons_succ, List.getElem_cons_zero, List.setIfInBounds_toArray, List.set_cons_zero, List.set_cons_succ]
          refine GoG.take (i := 25) (v := ?_) [] rfl (by kernel_rfl) (by kernel_rfl) (by kernel_rfl) (by kernel_rfl) (by kernel_rfl) (by kernel_rfl) (fun _ _ _ h => h) (yields_free (by rfl) (fun w => ?_)) ?_
          rotate_left
          · go_simp; try (with_reducible rfl)
          try simp only [Act.put, List.getElem_toArray, List.getElem_cons_succ, List.getElem_cons_zero, List.setIfInBounds_toArray, List.set_cons_zero, List.set_cons_succ]
          have fr := J0.out.free 3
          have cc := J2.out.cell 3
          refine GoG.one (i := 26) rfl (by kernel_rfl) (fun K hK => ?_)
          go_simp
          refine hK.out _ _ (Keeps.up (by rfl) (Keeps.up (by rfl) (Keeps.up (by rfl) Keeps.nil))) ?_
          clear hK K fr cc
          have J3 := Lib.hid (J2.out.set 3 (.slice xm q2 xmc))
          try simp only [Act.put, List.getElem_toArray, List.getElem_cons_succ, List.getElem_cons_zero, List.setIfInBounds_toArray, List.set_cons_zero, List.set_cons_succ]
          refine GoG.done (by kernel_rfl) ?_ _
          have BR := Lib.hid (show Below wr.heap.size wr ((((wn.setCell ⟨xb, 0, none⟩ (.string (x.name.extract 0 q0))).setCell ⟨xb, 1, none⟩ (.slice xb_ q1 xbc)).setCell ⟨xb, 3, none⟩ (.slice xm q2 xmc)).drew) from (((BR0.out.setCell BLE.out _).setCell BLE.out _).setCell BLE.out _).drew)
          have J3' := Lib.hid (show BlockAt ((((wn.setCell ⟨xb, 0, none⟩ (.string (x.name.extract 0 q0))).setCell ⟨xb, 1, none⟩ (.slice xb_ q1 xbc)).setCell ⟨xb, 3, none⟩ (.slice xm q2 xmc)).drew) _ _ _ from J3.out)
          have OW := Lib.hid (show OwnN ((((wn.setCell ⟨xb, 0, none⟩ (.string (x.name.extract 0 q0))).setCell ⟨xb, 1, none⟩ (.slice xb_ q1 xbc)).setCell ⟨xb, 3, none⟩ (.slice xm q2 xmc)).drew) wX.heap.size _ ys from ownN_set (ownN_set (ownN_set hown2.out (ownN_not HownN.out (.inr (by rw [HXB.out]; exact Nat.le_refl _))) 0 _) (ownN_not HownN.out (.inr (by rw [HXB.out]; exact Nat.le_refl _))) 1 _) (ownN_not HownN.out (.inr (by rw [HXB.out]; exact Nat.le_refl _))) 3 _)
          generalize (((wn.setCell ⟨xb, 0, none⟩ (.string (x.name.extract 0 q0))).setCell ⟨xb, 1, none⟩ (.slice xb_ q1 xbc)).setCell ⟨xb, 3, none⟩ (.slice xm q2 xmc)).drew = wz at *
          have J := J3'.out
          simp only [List.setIfInBounds_toArray, List.set_cons_zero, List.set_cons_succ] at J
          obtain ⟨j0, j1, j2, j3⟩ := cell4 J
          have BD := Lib.hid (HBN.out.trans (BR.out.mono HBN.out.size))
          have KZ := Lib.hid (HKN.out.below BR.out)
          obtain ⟨t0, t1⟩ := cell2 KZ.out
          have hO2 := OW.out
          unfold OwnN at hO2
          rw [HlenN.out] at hO2
          have HO2 := Lib.hid hO2
          have BZ := Lib.hid BR.out.size
          have CI := Lib.hid (show nzC1 ⟨cutN x q0 q1 q2, xb_, xbc, xm, xmc⟩ = [.string (x.name.extract 0 q0), .slice xb_ q1 xbc, .int .i64 x.under, .slice xm q2 xmc] from by
            unfold nzC1
            show [_, Value.slice xb_ (cutN x q0 q1 q2).bounds.length xbc, _, Value.slice xm (cutN x q0 q1 q2).methods.length xmc] = _
            rw [HCI.out.1, HCI.out.2.1]
            rfl)
          clear J J0 J1 J2 J3 J3' G0 G1 G2 BR0 c0 c1 c3 n1 n2 n3 n4 n5 p01 p21 p11 p13 p23 hO2 HownN hown2
          go_wp2_with (at_builtin; refine wpList_append_own_at _ rfl _ _ 23 rfl wX.heap.size 51 n0 (.agg #[.string ⟨#[]⟩, .slice none 0 0, .int .i64 0, .slice none 0 0]) 4 72 Tryz.underlying23 hni hnz0 hnz1 hnz2 rfl (by decide) _ g (nzC ys) rfl (HO2.out.alloc _) ⟨wz.heap.size, 0, none⟩ 1 1 [.string (x.name.extract 0 q0), .slice xb_ q1 xbc, .int .i64 x.under, .slice xm q2 xmc] rfl ?c1 ?c2 ?c3 ?c4 ?c5 ?c6 ?_)
          case c1 => rfl
          case c2 => exact cell_news _ _ _
          case c3 => exact fun v hv => by rw [← CI.out] at hv; exact nzC1_one _ v hv
          case c4 => unfold maxLen; omega
          case c5 => omega
          case c6 => have h1 := BZ.out; have h2 := HSX.out.1; simp; omega
          intro v' w4 hown3 hgrow _ hblk
          have hp := pushN_all (W := w) (r := [⟨cutN x q0 q1 q2, xb_, xbc, xm, xmc⟩]) (by first | (rw [HlenN.out]; done) | (rw [HlenN.out]; rfl)) (Nat.le_of_lt LTX.out.1) OW.out BD.out (by simpa [nzC, CI.out] using hown3) hgrow
          obtain ⟨so, sc, hso⟩ := hp.1.slice
          rw [show (ys ++ [(⟨cutN x q0 q1 q2, xb_, xbc, xm, xmc⟩ : Nz)]).length = g + 1 by rw [List.length_append, HlenN.out]; rfl] at hso
          subst hso
          have HP := Lib.hid hp
          have hz2 := Lib.hid (show ∀ z ∈ ys ++ [⟨cutN x q0 q1 q2, xb_, xbc, xm, xmc⟩], InN W0 z from fun z hz => by
            rcases List.mem_append.1 hz with h1 | h1
            · exact HzN.out z h1
            · rw [List.mem_singleton.1 h1]
              exact HCI.out.2.2)
          have hl2 := Lib.hid (show (ys ++ [(⟨cutN x q0 q1 q2, xb_, xbc, xm, xmc⟩ : Nz)]).length = g + 1 by rw [List.length_append, HlenN.out]; rfl)
          have SX4 := Lib.hid (show SameX w2.heap.size wX w4 from ⟨by have g1 := hgrow.size; have g2 := HSX.out.1; have g3 := BR.out.size; simp at g1; omega, fun b hb hne => (HP.out.2.2 b (Nat.lt_of_lt_of_le hb (Nat.le_trans HSX.out.1 BR.out.size)) (ownN_not OW.out (.inl hb))).trans ((BR.out.block b (Nat.lt_of_lt_of_le hb HSX.out.1)).trans (HSX.out.2 b hb hne))⟩)
          obtain ⟨w5, h5⟩ : ∃ w5, w4.setCell ⟨w2.heap.size, 1, none⟩ (.slice so (g + 1) sc) = w5 := ⟨_, rfl⟩
          have K4 := Lib.hid (show BlockAt w4 w2.heap.size #[vo, vn] 25 by
            unfold BlockAt
            rw [HP.out.2.2 _ KZ.out.lt (ownN_not OW.out (.inl LTX.out.2.2))]
            exact KZ.out)
          have nk3 := Lib.hid (box2_set1 K4.out h5)
          have no2 := Lib.hid (show OwnN w5 wX.heap.size _ _ by rw [← h5]; exact ownN_set HP.out.1 (ownN_not HP.out.1 (.inl LTX.out.2.2)) 1 _)
          have nb := Lib.hid (set1_below HP.out.2.1 SZ.out.2.2.2.2.1 h5)
          have nx := Lib.hid (SX4.out.trans (SameX.set h5))
          have t1 := (cell2 K4.out).2
          have f1 := K4.out.free 1
          clear hown3 hgrow hblk hp j0 j1 j2 j3
          go_wp2_with fail
          clear t0 f1 t1 h5
          go_roundw
          case rel => exact ⟨g + 1, _, _, by omega, by go_num, hl2, no2, hz2, nk3, nx, nb⟩
          case measure => first | (simp [intOf]; done) | (simp [intOf]; omega)
        · obtain rfl : g = r := by omega
          obtain ⟨zo, zc, hzo⟩ := Hown.out.slice
          subst hzo
          obtain ⟨zn, znc, hzn⟩ := HownN.out.slice
          subst hzn
          rw [Hlen.out] at Hown HKN
          rw [HlenN.out] at HownN HKN
          have KR := Lib.hid (HSX.out.block HK2.out SZ.out.2.2.2.2.2.2)
          have OZ := Lib.hid (Hown.out.sameX HSX.out SZ.out.2.2.1)
          obtain ⟨w5, h5⟩ : ∃ w5, wr.setCell ⟨w1.heap.size, 0, none⟩ (.slice zo k zc) = w5 := ⟨_, rfl⟩
          obtain ⟨w6, h6⟩ : ∃ w6, w5.setCell ⟨w1.heap.size, 1, none⟩ (.slice zn g znc) = w6 := ⟨_, rfl⟩
          have K6 := box2_set KR.out h5 h6
          have B6 := Lib.hid (set2_below HBN.out SZ.out.2.2.2.1 h5 h6)
          have OZ6 := Lib.hid (show OwnZ w6 w3.heap.size _ xs by rw [← h6, ← h5]; exact own_set (own_set OZ.out (own_not OZ.out (.inl SZ.out.2.1)) 0 _) (own_not OZ.out (.inl SZ.out.2.1)) 1 _)
          have ON6 := Lib.hid (show OwnN w6 wX.heap.size _ ys by rw [← h6, ← h5]; exact ownN_set (ownN_set HownN.out (ownN_not HownN.out (.inl LTX.out.2.1)) 0 _) (ownN_not HownN.out (.inl LTX.out.2.1)) 1 _)
          have t0 := (cell2 KR.out).1
          have f0 := KR.out.free 0
          have t1 := (cell2 (box2_set0 KR.out h5)).2
          have f1 := (box2_set0 KR.out h5).free 1
          obtain ⟨g0, g1⟩ := cell2 HKN.out
          obtain ⟨e0, e1⟩ := cell2 K6
          clear K6
          go_wp2_with fail
          try simp only [Exit.inBlock, Exit.then]
          refine bodyPost_ret (v := .agg #[.slice zo k zc, .slice zn g znc]) ?_ rfl ?_
          · simp [results, Tryz.results5, go_sem, e0, e1]
          exact ⟨_, _, xs, ys, rfl, OZ6.out.lower (Nat.le_of_lt SZ.out.1), ON6.out.lower (Nat.le_of_lt LTX.out.1), Hz.out, HzN.out, by rw [Hlen.out]; omega, by rw [HlenN.out]; omega, B6.out⟩
end Go.Proofs.YtkmnfkhchcoamaaGreatDoor
/- The law's own alive. -/
namespace Go.Proofs.YtkmnfkhchcoamaaGreatDoor
open Go.RowKit
set_option linter.unusedSimpArgs false
set_option linter.unusedVariables false

def pT : ByteArray := ⟨#[112, 46, 84]⟩
def tpN : Ty := ⟨8, pT, 0, [], [2]⟩
def lu : List Ty := basics ++ [tp0, tp1, tpN]
def lv : List Ty := lu ++ [tp2]
def nmT : Nm := ⟨pT, [20], 23, []⟩
def un0 : Un := ⟨lu, [nmT]⟩
theorem ok_tpN : TyOk tpN := ⟨by decide, by decide, by decide, fun s hs => absurd hs (by simp [tpN]), by decide, fun k hk => by simp [tpN] at hk; subst hk; decide⟩
theorem ok_nmT : NmOk nmT := ⟨by decide, by decide, by decide, by decide, fun b hb => by simp [nmT] at hb; subst hb; decide, fun m hm => absurd hm (by simp [nmT])⟩
theorem under_un0 : underU un0 24 = (⟨lv, [nmT]⟩, 25, 0) := by decide +kernel
theorem right_lv : rightT lv = true := by decide +kernel
theorem need_lv : ∀ j, j ≤ 25 → needD (fun j => lv.getD j noT) 25 26 j = true → j = 2 ∨ j = 25 := by decide +kernel
theorem out_lv : outF (fun j => lv.getD j noT) 25 = (⟨#[91, 93, 105, 110, 116]⟩, 0) := by decide +kernel
theorem text_lv (j : Nat) (hj : j < lv.length) (h : j ≤ 25) (hn : needD (fun j => lv.getD j noT) 25 26 j = true) : TextC lv[j] := by
  rcases need_lv j h hn with rfl | rfl
  · exact text_zero ⟨#[105, 110, 116]⟩ 0 [] [] rfl
  · exact text_slice ⟨#[]⟩ 0 [] [2] rfl
theorem aliveU_row {w W w5 : World} {ao : Option Addr} {cap kb nb : Nat} {v5 : Value} (ho : W.ownsRow w.heap.size 38 5 (.slice ao 22 cap) 22 (tzC startZ)) (hk : BlockAt W kb #[.int .i64 22] 3) (hk2 : BlockAt W nb #[.int .i64 2] 3)
    (hown : w5.ownsRow w.heap.size 38 5 v5 (22 + 3) (tzC startZ ++ tzC [⟨tp0, none, 0, none, 0⟩, ⟨tp1, none, 0, some ⟨kb, 0, none⟩, 1⟩, ⟨tpN, none, 0, some ⟨nb, 0, none⟩, 1⟩])) (hg : W.grownBy w5 (Value.slice ao 22 cap).ownBlock) (hb : Below w.heap.size w W) (hne : (Value.slice ao 22 cap).ownBlock ≠ some kb) (hne2 : (Value.slice ao 22 cap).ownBlock ≠ some nb) :
    (∃ ao5 cap5, v5 = .slice ao5 25 cap5 ∧ ARow w5 ao5 lu ∧ 25 ≤ cap5) ∧ Below w.heap.size w w5 := by
  have hk5 := fresh_grown hk hne hg
  have hn5 := fresh_grown hk2 hne2 hg
  have b5 := be_grown0 ho hb hg
  have hz : OwnZ w5 w.heap.size v5 (startZ ++ [⟨tp0, none, 0, none, 0⟩, ⟨tp1, none, 0, some ⟨kb, 0, none⟩, 1⟩, ⟨tpN, none, 0, some ⟨nb, 0, none⟩, 1⟩]) := by
    unfold OwnZ
    rw [tzC_app]
    exact hown
  obtain ⟨ao5, cap5, e, ha, hc⟩ := own_arow hz (fun z hz => by
    rcases List.mem_append.1 hz with h | h
    · exact startZ_in _ z h
    · rcases List.mem_cons.1 h with h | h
      · rw [h]; exact ⟨by decide, by decide, .inl rfl, .inl rfl, ok_tp0⟩
      · rcases List.mem_cons.1 h with h | h
        · rw [h]
          exact ⟨by (show (0 : Nat) ≤ 0; decide), by (show (1 : Nat) ≤ 1; decide), .inl rfl, .inr ⟨kb, 0, rfl, hk5.lt, fun i hi => by
            have hi : i < 1 := hi
            obtain rfl : i = 0 := by omega
            exact hk5.cell 0⟩, ok_tp1⟩
        · rw [List.mem_singleton.1 h]
          exact ⟨by (show (0 : Nat) ≤ 0; decide), by (show (1 : Nat) ≤ 1; decide), .inl rfl, .inr ⟨nb, 0, rfl, hn5.lt, fun i hi => by
            have hi : i < 1 := hi
            obtain rfl : i = 0 := by omega
            exact hn5.cell 0⟩, ok_tpN⟩)
  exact ⟨⟨ao5, cap5, e, ha, hc⟩, b5⟩
theorem un0_in {w w' : World} {ao : Option Addr} {cap ib nb : Nat} (ha : ARow w ao lu) (hc : 25 ≤ cap) (hi : BlockAt w ib #[.int .i64 20] 3) (hn : BlockAt w nb #[.string pT, .slice (some ⟨ib, 0, none⟩) 1 1, .int .i64 23, .slice none 0 0] 51) : UnC w ao (some ⟨nb, 0, none⟩) cap 1 un0 := by
  refine ⟨ha, .inr ⟨nb, 0, rfl, hn.lt, fun i hi2 => ?_⟩, by decide, by decide, hc, by decide⟩
  have hi2 : i < 1 := hi2
  obtain rfl : i = 0 := by omega
  obtain ⟨c0, c1, c2, c3⟩ := cell4 hn
  refine ⟨some ⟨ib, 0, none⟩, 1, none, 0, c0, c1, c2, c3, Nat.le_refl 1, Nat.le_refl 0, .inr ⟨ib, 0, rfl, hi.lt, fun j hj => ?_⟩, .inl rfl, ok_nmT⟩
  have hj : j < 1 := hj
  obtain rfl : j = 0 := by omega
  exact hi.cell 0
set_option maxHeartbeats 8000000 in
set_option maxRecDepth 100000 in
theorem aliveU_any (w : World) (hE : Env w) :
    Calls Tryz.prog 11 #[] w fun e w' => e = .returned (.bool true) ∧ Below w.heap.size w w' := by
  obtain ⟨i0, hi, hz0, hz1, hz2⟩ := info_parts info_ty
  have HST := Lib.hid (fun W => start_own W)
  have HE := Lib.hid hE
  clear hE
  go_enter Tryz.func11, Tryz.ntmps11
  go_wp2_with fail
  refine (HST.out _).mono ?_
  rintro e w1 ⟨⟨ao0, cap0, rfl, ho⟩, bs⟩
  have HO := Lib.hid (show w1.ownsRow w.heap.size 38 5 (.slice ao0 22 cap0) 22 (tzC startZ) from ho)
  have HNO := Lib.hid (own_not ho (b := w1.heap.size) (.inr (Nat.le_refl _)))
  have HNO2 := Lib.hid (own_not ho (b := w1.heap.size + 1) (.inr (Nat.le_add_right _ _)))
  have BS := Lib.hid bs
  have HSZ := Lib.hid (show w.heap.size ≤ w1.heap.size from bs.size)
  clear ho bs
  go_wp2_with (at_builtin; refine wpList_append_own_at _ rfl _ _ 22 rfl w.heap.size 38 i0 (.agg #[.int .i64 0, .string ⟨#[]⟩, .int .i64 0, .slice none 0 0, .slice none 0 0]) 5 80 Tryz.underlying22 hi hz0 hz1 hz2 rfl (by decide) _ 22 (tzC startZ) rfl (((HO.out.alloc _).alloc _).alloc _) ⟨w1.heap.size + 2, 0, none⟩ 3 3 (tzC [⟨tp0, none, 0, none, 0⟩, ⟨tp1, none, 0, some ⟨w1.heap.size, 0, none⟩, 1⟩, ⟨tpN, none, 0, some ⟨w1.heap.size + 1, 0, none⟩, 1⟩]) rfl ?c1 ?c2 ?c3 ?c4 ?c5 ?c6 ?_)
  case c1 => rfl
  case c2 => exact cell_block (xs := #[.int .i64 9, .string ⟨#[]⟩, .int .i64 0, .slice none 0 0, .slice none 0 0, .int .i64 2, .string ⟨#[]⟩, .int .i64 0, .slice none 0 0, .slice (some ⟨w1.heap.size, 0, none⟩) 1 1, .int .i64 8, .string pT, .int .i64 0, .slice none 0 0, .slice (some ⟨w1.heap.size + 1, 0, none⟩) 1 1]) (T := 38) (by simpa [pT, Nat.add_assoc] using BlockAt.new ((w1.alloc (.cells #[.int .i64 22] 3)).alloc (.cells #[.int .i64 2] 3)) #[.int .i64 9, .string ⟨#[]⟩, .int .i64 0, .slice none 0 0, .slice none 0 0, .int .i64 2, .string ⟨#[]⟩, .int .i64 0, .slice none 0 0, .slice (some ⟨w1.heap.size, 0, none⟩) 1 1, .int .i64 8, .string pT, .int .i64 0, .slice none 0 0, .slice (some ⟨w1.heap.size + 1, 0, none⟩) 1 1] 38) rfl
  case c3 => exact tzC_one _
  case c4 => unfold maxLen; omega
  case c5 => omega
  case c6 => have := HSZ.out; simp; omega
  intro v5 wc hown hgrow _ hblk
  have N1 := Lib.hid (show BlockAt ((w1.alloc (.cells #[.int .i64 22] 3)).alloc (.cells #[.int .i64 2] 3)) (w1.heap.size + 1) #[.int .i64 2] 3 from by simpa using BlockAt.new (w1.alloc (.cells #[.int .i64 22] 3)) #[.int .i64 2] 3)
  have HR := Lib.hid (aliveU_row (((HO.out.alloc _).alloc _).alloc _) (((BlockAt.new w1 #[.int .i64 22] 3).below ((Below.refl _ _).alloc (Nat.le_refl _) _)).below ((Below.refl _ _).alloc (Nat.le_refl _) _)) (N1.out.below ((Below.refl _ _).alloc (Nat.le_refl _) _)) hown hgrow (((BS.out.alloc HSZ.out _).alloc (by have := HSZ.out; simp; omega) _).alloc (by have := HSZ.out; simp; omega) _) HNO.out HNO2.out)
  clear hown hgrow hblk HO HNO HNO2 N1
  obtain ⟨⟨ao, cap, e5, ha5, hc5⟩, b5⟩ := HR.out
  subst e5
  have HA := Lib.hid ha5
  have HC := Lib.hid hc5
  have HB := Lib.hid b5
  clear HR ha5 hc5 b5
  obtain ⟨w2, h2⟩ : ∃ w2, wc.alloc (.cells #[.int .i64 20] 3) = w2 := ⟨_, rfl⟩
  obtain ⟨k2, q2, z2⟩ := box_new h2
  obtain ⟨w3, h3⟩ : ∃ w3, w2.alloc (.cells #[.string pT, .slice (some ⟨wc.heap.size, 0, none⟩) 1 1, .int .i64 23, .slice none 0 0] 51) = w3 := ⟨_, rfl⟩
  obtain ⟨k3, q3, z3⟩ := box_new h3
  have B3 := Lib.hid (HB.out.trans ((q2.trans (q3.mono q2.size)).mono HB.out.size))
  have HUN := Lib.hid (un0_in (w' := w3) ((HA.out.below q2).below q3) HC.out (k2.below q3) k3)
  have HUD0 := under_any (fun _ => True) un0 ao (some ⟨w2.heap.size, 0, none⟩) cap 1 24 w3 (fun _ _ => trivial) (UnS.fresh HUN.out (fun _ _ => trivial)) (HE.out.below B3.out)
  rw [under_un0] at HUD0
  have HUD : Calls Tryz.prog 16 #[.agg #[.slice ao 25 cap, .slice (some ⟨w2.heap.size, 0, none⟩) 1 1], .int .i64 24] w3 (UnR (fun _ => True) w3 (⟨lv, [nmT]⟩, 25, 0)) := HUD0
  have HUD1 := Lib.hid HUD
  unfold pT at h3
  clear HUD HUD0 k2 k3 q2 q3 z2 z3
  go_wp2_with fail
  refine HUD1.out.mono ?_
  rintro e w4 ⟨uo, no, uc, nc, rfl, hu, b4⟩
  have B4 := Lib.hid (B3.out.trans (b4.mono B3.out.size))
  have HU4 := Lib.hid hu.out
  unfold unV
  rw [show (⟨lv, [nmT]⟩ : Un).types.length = 26 from rfl, show (⟨lv, [nmT]⟩ : Un).named.length = 1 from rfl]
  obtain ⟨w5, h5⟩ : ∃ w5, w4.alloc (.cells #[.slice uo 26 uc, .slice no 1 nc] 25) = w5 := ⟨_, rfl⟩
  obtain ⟨k5, q5, z5⟩ := box_new h5
  have B5 := Lib.hid (B4.out.trans (q5.mono B4.out.size))
  have HTX0 := text_in lv uo uc 25 w5 (HU4.out.types.below q5) right_lv HU4.out.tc (HE.out.below B5.out) (by decide) (fun j hj h hn => text_lv j hj h hn)
  have HTX : Calls Tryz.prog 33 #[.slice uo 26 uc, .int .i64 25] w5 (TextR (fun j => lv.getD j noT) 25 w5) := HTX0
  have HTX := Lib.hid HTX
  obtain ⟨c0, c1⟩ := cell2 k5
  clear hu b4 h2 h3 HTX0 k5 q5 z5
  go_wp2_with fail
  refine HTX.out.mono ?_
  unfold TextR
  rw [out_lv]
  rintro e w6 ⟨rfl, b6⟩
  have B6 := Lib.hid (B5.out.trans (b6.mono B5.out.size))
  clear b6 c0 c1 h5
  go_wp2_with fail
  go_ret
  exact ⟨by first | rfl | (simp; done), B6.out⟩
end Go.Proofs.YtkmnfkhchcoamaaGreatDoor

