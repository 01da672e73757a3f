/- Slices of nodes that came in, and the table of kinds, out of their readings. -/
import Derived.Test.YtfcoelnibpinmaaDoorAstAlone
import Derived.Deep.Slices
import Derived.Deep.Fields
import Derived.Lib.SmallJoins
import Derived.ChangeSlices
import Derived.ChangeArms
import Derived.Lib.LaidTab
namespace Go.Proofs.YtfcoelnibpinmaaDoor
open Go.RowKit Go.ChangeShapes Go.WideShapes Go.Deep Go.Joins

section
variable {H : Type} {enc : TypeId × Value → H} {P : Program} {w : World} {base : Nat} {spare : Nat → Bool} {held : Bool}
theorem add_flat (b o i : Nat) : (⟨b, o, none⟩ : Addr).add i = ⟨b, o + i, none⟩ := by
  unfold Addr.add
  split
  · rename_i h
    rw [h]
    rfl
  · rfl
theorem spot_none {a : Addr} {v : Value} (h : w.cell? a = some v) : a = ⟨a.block, a.off, none⟩ ∧ a.block < w.heap.size := by
  unfold World.cell? at h
  split at h
  · rename_i hb
    split at h
    · cases h
    · rename_i hs
      obtain ⟨b, o, s⟩ := a
      cases s with
      | none => exact ⟨rfl, (Array.getElem?_eq_some_iff.1 hb).1⟩
      | some s => exact absurd rfl hs
  · cases h
/-- A slice of integers in a cell. -/
theorem irow_open {t e : TypeId} {fuel : Nat} {v : Value} {x : DataW H × List MemPlace} (ht : P.underlying t = some (.slice e)) (he : P.underlying e = some (.int .i64)) (hc : P.cellsOf e = 1) (h : DataW.trod enc P w base spare held fuel t [v] = some x) :
    ∃ (ka : Option Addr) (zs : List Int) (kc : Nat), v = .slice ka zs.length kc ∧ zs.length ≤ kc ∧ kc ≤ maxLen ∧ IRow w ka zs := by
  rcases open_ints ht he hc h with ⟨hcs, _⟩ | ⟨a, l, c, zs, hcs, _, hl, hm, hz, _, hcell, _⟩
  · exact ⟨none, [], 0, by simpa using hcs, Nat.le_refl _, Nat.zero_le _, .inl rfl⟩
  · have hlz : l ≤ zs.length := by rw [hz]; split <;> omega
    have e1 : (zs.take l).length = l := by rw [List.length_take]; omega
    refine ⟨some a, zs.take l, c, by rw [e1]; simpa using hcs, by rw [e1]; exact hl, hm, ?_⟩
    by_cases h0 : l = 0
    · exact .inl (by rw [h0]; simp)
    · have c0 := hcell 0 (by omega)
      obtain ⟨ea, hlt⟩ := spot_none c0
      have ea2 : a = ⟨a.block, a.off, none⟩ := by
        obtain ⟨b, o, s⟩ := a
        simp [Addr.add] at ea
        rw [ea]
      refine .inr ⟨a.block, a.off, by rw [← ea2], hlt, fun i hi => ?_⟩
      rw [e1] at hi
      have ci := hcell i (by omega)
      rw [ea2] at ci
      rw [show (zs.take l).getD i 0 = zs.getD i 0 by simp only [List.getD_eq_getElem?_getD]; rw [List.getElem?_take_of_lt hi]]
      rw [add_flat] at ci
      exact ci
/-- The cells of an array of pairs of integers. -/
theorem pairs_of_tab {fuel : Nat} {t e : TypeId} {f0 f1 : Field} {n : Nat} {cs : List Value} {zs : List (Int × Int)} {p : List MemPlace}
    (ht : P.underlying t = some (.array n e)) (he : P.underlying e = some (.struct #[f0, f1])) (hone : oneCellFields P #[f0, f1] = true) (hce : P.cellsOf e = 2) (hct : P.cellsOf t = n * 2)
    (h0 : P.underlying f0.type = some (.int .i64)) (h1 : P.underlying f1.type = some (.int .i64))
    (h : DataW.trod enc P w base spare held fuel t cs = some (.agg (zs.map fun z => .agg [.lit (.int .i64 z.1), .lit (.int .i64 z.2)]), p)) :
    ∀ i, i < n → cs[i * 2]? = some (.int .i64 (zs.getD i (0, 0)).1) ∧ cs[i * 2 + 1]? = some (.int .i64 (zs.getD i (0, 0)).2) := by
  intro i hi
  cases fuel with
  | zero => simp [DataW.trod] at h
  | succ fuel =>
    simp only [DataW.trod, ht, hce, hct] at h
    split at h
    · obtain ⟨xs, hm, hx⟩ := Option.map_eq_some_iff.1 h
      have hxs : xs.map (·.1) = zs.map fun z => (DataW.agg [.lit (.int .i64 z.1), .lit (.int .i64 z.2)] : DataW H) := by
        have := congrArg Prod.fst hx
        simpa using this
      obtain ⟨b, hb, hf⟩ := Lib.mapM_at hm i i (by simp [hi])
      obtain ⟨y0, y1, m, hy, hl, g0, g1⟩ := trod_struct2 he hf
      obtain ⟨o0, k0⟩ := hone_of hone 0 f0 rfl
      obtain ⟨o1, k1⟩ := hone_of hone 1 f1 rfl
      rw [o0, k0] at g0
      rw [o1, k1] at g1
      obtain ⟨z0, q0, rfl, _⟩ := DataW.trod_int h0 g0
      obtain ⟨z1, q1, rfl, _⟩ := DataW.trod_int h1 g1
      have h2 : (xs.map (·.1))[i]? = some (DataW.agg [.lit (.int .i64 z0), .lit (.int .i64 z1)] : DataW H) := by rw [List.getElem?_map, hb, hy]; rfl
      rw [hxs, List.getElem?_map] at h2
      obtain ⟨z, hz, hzz⟩ := Option.map_eq_some_iff.1 h2
      have hz0 : z.1 = z0 ∧ z.2 = z1 := by simpa using hzz
      have hg : zs.getD i (0, 0) = z := by rw [List.getD_eq_getElem?_getD, hz]; rfl
      rw [hg, hz0.1, hz0.2]
      constructor
      · have := congrArg (·[0]?) q0
        simpa [List.getElem?_take, List.getElem?_drop] using this
      · have := congrArg (·[0]?) q1
        simpa [List.getElem?_take, List.getElem?_drop] using this
    · cases h
end

section
variable {H : Type} {enc : TypeId × Value → H} {w : World} {base : Nat} {spare : Nat → Bool} {held : Bool}
theorem cells_node : Tryd.prog.cellsOf 37 = 4 := by kernel_rfl
theorem cells_int : Tryd.prog.cellsOf 3 = 1 := by kernel_rfl
theorem cells_str : Tryd.prog.cellsOf 9 = 1 := by kernel_rfl
theorem cells_ints : Tryd.prog.cellsOf 35 = 1 := by kernel_rfl
theorem node_open {n : Nat} {a : Addr} {cs : List Value} {x : DataW H × List MemPlace} (hc : w.cells? base a 4 = some cs) (h : DataW.trod enc Tryd.prog w base spare held n 37 cs = some x) :
    ∃ nd : Nd, w.cell? (a.add 0) = some (.int .i64 nd.kind) ∧ w.cell? (a.add 1) = some (.string nd.text) ∧ (∃ ka kc, w.cell? (a.add 2) = some (.slice ka nd.kids.length kc) ∧ nd.kids.length ≤ kc ∧ kc ≤ maxLen ∧ IRow w ka nd.kids) ∧ w.cell? (a.add 3) = some (.int .i64 nd.place) ∧ nd.text.size ≤ maxLen := by
  obtain ⟨_, hl, hi⟩ := World.cells?_some hc
  match cs, hl with
  | [v0, v1, v2, v3], _ =>
    obtain ⟨y0, y1, y2, y3, m, _, _, h0, h1, h2, h3⟩ := trod_struct4 Tryd.underlying37 h
    simp only [cells_int, cells_str, cells_ints, List.drop_zero, List.drop_succ_cons, List.take_succ_cons, List.take_zero] at h0 h1 h2 h3
    obtain ⟨z0, q0, _, _⟩ := DataW.trod_int (k := .i64) (by kernel_rfl) h0
    obtain ⟨s1, q1, _, hs⟩ := DataW.trod_string (by kernel_rfl) h1
    obtain ⟨z3, q3, _, _⟩ := DataW.trod_int (k := .i64) (by kernel_rfl) h3
    obtain ⟨ka, zs, kc, q2, hk1, hk2, hk3⟩ := irow_open (v := v2) Tryd.underlying35 (by kernel_rfl) (by kernel_rfl) h2
    obtain rfl : v0 = .int .i64 z0 := by simpa using q0
    obtain rfl : v1 = .string s1 := by simpa using q1
    obtain rfl : v3 = .int .i64 z3 := by simpa using q3
    refine ⟨⟨z0, s1, zs, z3⟩, hi 0 (by omega), hi 1 (by omega), ⟨ka, kc, ?_, hk1, hk2, hk3⟩, hi 3 (by omega), hs⟩
    rw [hi 2 (by omega)]
    simp [q2]
/-- Nodes that came in. -/
theorem nodes_open {v : Value} {fuel : Nat} {x : DataW H × List MemPlace} (h : DataW.trod enc Tryd.prog w base spare held fuel 22 [v] = some x) :
    ∃ (a : Option Addr) (ns : List Nd) (cap : Nat), v = .slice a ns.length cap ∧ ns.length ≤ cap ∧ cap ≤ 9223372036854775807 ∧ NRow w a ns ∧ (∀ n ∈ ns, n.text.size ≤ 9223372036854775807) ∧ ∀ n ∈ ns, n.kids.length ≤ 9223372036854775807 := by
  rcases open_slice Tryd.underlying22 h with ⟨hcs, _⟩ | ⟨a, len, cap, m, n, D, Pl, hcs, _, hl, hm, hmm, _, hx⟩
  · exact ⟨none, [], 0, by simpa using hcs, Nat.le_refl _, Nat.zero_le _, .inl rfl, by simp, by simp⟩
  · have hlm : len ≤ m := by rw [hmm]; split <;> omega
    rw [cells_node] at hx
    have : Inhabited Nd := ⟨⟨0, ⟨#[]⟩, [], 0⟩⟩
    obtain ⟨f, hf⟩ := choose_lt (α := Nd) (n := len) (p := fun i nd => w.cell? ((a.add (i * 4)).add 0) = some (.int .i64 nd.kind) ∧ w.cell? ((a.add (i * 4)).add 1) = some (.string nd.text) ∧ (∃ ka kc, w.cell? ((a.add (i * 4)).add 2) = some (.slice ka nd.kids.length kc) ∧ nd.kids.length ≤ kc ∧ kc ≤ maxLen ∧ IRow w ka nd.kids) ∧ w.cell? ((a.add (i * 4)).add 3) = some (.int .i64 nd.place) ∧ nd.text.size ≤ maxLen) (fun i hi => by
      obtain ⟨cs', h1, h2⟩ := hx i (by omega)
      exact node_open h1 h2)
    have e1 : ((List.range len).map f).length = len := by simp
    have e2 : maxLen = 9223372036854775807 := by decide
    refine ⟨some a, (List.range len).map f, cap, by rw [e1]; simpa using hcs, by rw [e1]; exact hl, by omega, ?_, ?_, ?_⟩
    · by_cases h0 : len = 0
      · exact .inl (by rw [h0]; rfl)
      · obtain ⟨ea, hlt⟩ := spot_none (hf 0 (by omega)).1
        obtain ⟨b, o, s⟩ := a
        obtain rfl : s = none := by simpa [Addr.add] using ea
        refine .inr ⟨b, o, rfl, by simpa [Addr.add] using hlt, fun i hi => ?_⟩
        rw [e1] at hi
        obtain ⟨c0, c1, ⟨ka, kc, c2, k1, _, k3⟩, c3, _⟩ := hf i hi
        simp only [List.getElem_map, List.getElem_range]
        simp only [add_flat, Nat.add_zero] at c0 c1 c2 c3
        exact ⟨c0, c1, ⟨ka, kc, c2, k1, k3⟩, c3⟩
    · intro n hn
      obtain ⟨i, hi, rfl⟩ := List.mem_map.1 hn
      rw [← e2]
      exact (hf i (List.mem_range.1 hi)).2.2.2.2
    · intro n hn
      obtain ⟨i, hi, rfl⟩ := List.mem_map.1 hn
      obtain ⟨ka, kc, _, k1, k2, _⟩ := (hf i (List.mem_range.1 hi)).2.2.1
      omega
end
theorem gCounts : Tryd.prog.globalNamed "indenture/ast.counts" = some 0 := by kernel_rfl
theorem gCountsType : (Tryd.prog.globals[0]?).map (·.type) = some 52 := by kernel_rfl
/-- What a row's list gives. -/
theorem counts_of {W : World} {d : DataW Unit} (hd : d = .agg (CT.map fun z => .agg [.lit (.int .i64 z.1), .lit (.int .i64 z.2)])) (h : laidMet Tryd.prog [("indenture/ast.counts", d)] W) : Counts W := by
  subst hd
  obtain ⟨ps, ⟨g', t', cs, fuel, p, q, hg', ht', hvar, hdd, _, _⟩, _⟩ := h
  obtain rfl := Option.some.inj (gCounts.symm.trans hg')
  obtain rfl := Option.some.inj (gCountsType.symm.trans ht')
  have hp := pairs_of_tab (n := 33) Tryd.underlying52 Tryd.underlying51 (by kernel_rfl) (by kernel_rfl) (by kernel_rfl) (by kernel_rfl) (by kernel_rfl) hdd
  intro k hk
  obtain ⟨h1, h2⟩ := hp k hk
  have c1 := World.var?_cell gCounts hvar (k * 2)
  have c2 := World.var?_cell gCounts hvar (k * 2 + 1)
  rw [← Array.getElem?_toList, h1] at c1
  rw [← Array.getElem?_toList, h2] at c2
  exact ⟨c1, c2⟩
end Go.Proofs.YtfcoelnibpinmaaDoor
