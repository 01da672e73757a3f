/- Versions that came in, and the listed variables, out of their readings. -/
import Derived.Test.YtbdhmelebedpiaaGreatDoorSemLaws
import Derived.Deep.Slices
import Derived.Deep.Fields
import Derived.Deep.Strs
import Derived.Lib.SmallJoins
import Derived.ChangeSlices
import Derived.ChangeArms
import Derived.Lib.LaidTab
import Derived.LaidLaws
import Derived.Shelf.Vars
namespace Go.Proofs.YtbdhmelebedpiaaGreatDoor
open Go.RowKit Go.ChangeShapes Go.WideShapes Go.Deep Go.Joins

theorem i64_of_wf {n : Int} (h : (Lit.int .i64 n).wf = true) : -9223372036854775808 ≤ n ∧ n ≤ 9223372036854775807 := by
  simp [Lit.wf, IntKind.min, IntKind.max, IntKind.signed, IntKind.bits] at h
  omega
theorem add_flatS (b o i : Nat) : (⟨b, o, none⟩ : Addr).add i = ⟨b, o + i, none⟩ := by
  unfold Addr.add
  split
  · rename_i h
    rw [h]
    rfl
  · rfl
section
variable {H : Type} {enc : TypeId × Value → H} {w : World} {base : Nat} {spare : Nat → Bool} {held : Bool}
/-- A slice of texts in a cell. -/
theorem srow_open {fuel : Nat} {v : Value} {x : DataW H × List MemPlace} (h : DataW.trod enc Tryz.prog w base spare held fuel 22 [v] = some x) :
    ∃ (ao : Option Addr) (ss : List ByteArray) (cap : Nat), v = .slice ao ss.length cap ∧ ss.length ≤ cap ∧ cap ≤ 9223372036854775807 ∧ SRow w ao ss ∧ ∀ s ∈ ss, s.size ≤ 9223372036854775807 := by
  rcases open_strs Tryz.underlying22 (by kernel_rfl) (by kernel_rfl) h with ⟨hcs, _⟩ | ⟨a, len, cap, m, Sx, hcs, _, hl, hm, hmm, _, hx⟩
  · exact ⟨none, [], 0, by simpa using hcs, Nat.le_refl _, by decide, .inl rfl, by simp⟩
  · have hlm : len ≤ m := by rw [hmm]; split <;> omega
    refine ⟨some a, (List.range len).map Sx, cap, by simpa using hcs, by simpa using hl, hm, ?_, fun s hs => ?_⟩
    · by_cases h0 : len = 0
      · exact .inl (by simp [h0])
      · obtain ⟨c0, _⟩ := hx 0 (by omega)
        have hlt : (a.add 0).block < w.heap.size ∧ a = ⟨a.block, a.off, none⟩ := by
          obtain ⟨b, o, sp⟩ := a
          cases sp with
          | none =>
            have e : (⟨b, o, none⟩ : Addr).add 0 = ⟨b, o, none⟩ := by unfold Addr.add; split <;> simp_all
            rw [e] at c0 ⊢
            exact ⟨cell_lt0 c0, rfl⟩
          | some s =>
            exfalso
            have e : (⟨b, o, some s⟩ : Addr).add 0 = ⟨b, o, some s⟩ := by unfold Addr.add; split <;> simp_all
            rw [e] at c0
            unfold World.cell? at c0
            split at c0 <;> simp at c0
        have hb : (a.add 0).block = a.block := by unfold Addr.add; split <;> rfl
        refine .inr ⟨a.block, a.off, by rw [← hlt.2], by rw [← hb]; exact hlt.1, fun i hi => ?_⟩
        have hi' : i < len := by simpa using hi
        obtain ⟨ci, _⟩ := hx i (by omega)
        rw [hlt.2] at ci
        have e := add_flatS a.block a.off i
        rw [e] at ci
        rw [ci]
        simp
    · obtain ⟨i, hi, rfl⟩ := List.mem_map.1 hs
      exact (hx i (by have := List.mem_range.1 hi; omega)).2
set_option maxRecDepth 100000 in
/-- A version that came in. -/
theorem ver_open {v : Value} {r : Reach} {b0 : Nat} {d : DataW H} {p : List MemPlace} (hv : Value.okWide Tryz.prog w r b0 24 v) (h : DataW.Trod enc Tryz.prog w base spare held 24 v d p) :
    ∃ (V : Vr) (po bo : Option Addr) (pc bc : Nat), v = verV V po pc bo bc ∧ VerIn w po bo pc bc V := by
  obtain ⟨cs, rfl, hsz⟩ := okWide_struct Tryz.underlying24 hv
  have hC : Tryz.prog.cellsOf 24 = 5 := by kernel_rfl
  obtain ⟨l⟩ := cs
  match l, hsz.trans hC with
  | [c0, c1, c2, c3, c4], _ =>
    obtain ⟨fuel, hf⟩ := h
    obtain ⟨xs, n, _, _, _, hlen, hg⟩ := DataW.trod_struct Tryz.underlying24 hf
    match xs, hlen with
    | [y0, y1, y2, y3, y4], _ =>
      have k3 : Tryz.prog.cellsOf 3 = 1 := by kernel_rfl
      have k22 : Tryz.prog.cellsOf 22 = 1 := by kernel_rfl
      have g0 : DataW.trod enc Tryz.prog w base spare held n 3 [c0] = some y0 := by
        have h : DataW.trod enc Tryz.prog w base spare held n 3 (([c0, c1, c2, c3, c4].drop 0).take (Tryz.prog.cellsOf 3)) = some y0 := hg 0 _ rfl
        rw [k3] at h
        exact h
      have g1 : DataW.trod enc Tryz.prog w base spare held n 3 [c1] = some y1 := by
        have h : DataW.trod enc Tryz.prog w base spare held n 3 (([c0, c1, c2, c3, c4].drop 1).take (Tryz.prog.cellsOf 3)) = some y1 := hg 1 _ rfl
        rw [k3] at h
        exact h
      have g2 : DataW.trod enc Tryz.prog w base spare held n 3 [c2] = some y2 := by
        have h : DataW.trod enc Tryz.prog w base spare held n 3 (([c0, c1, c2, c3, c4].drop 2).take (Tryz.prog.cellsOf 3)) = some y2 := hg 2 _ rfl
        rw [k3] at h
        exact h
      have g3 : DataW.trod enc Tryz.prog w base spare held n 22 [c3] = some y3 := by
        have h : DataW.trod enc Tryz.prog w base spare held n 22 (([c0, c1, c2, c3, c4].drop 3).take (Tryz.prog.cellsOf 22)) = some y3 := hg 3 _ rfl
        rw [k22] at h
        exact h
      have g4 : DataW.trod enc Tryz.prog w base spare held n 22 [c4] = some y4 := by
        have h : DataW.trod enc Tryz.prog w base spare held n 22 (([c0, c1, c2, c3, c4].drop 4).take (Tryz.prog.cellsOf 22)) = some y4 := hg 4 _ rfl
        rw [k22] at h
        exact h
      obtain ⟨z0, q0, _, w0⟩ := DataW.trod_int (k := .i64) (by kernel_rfl) g0
      obtain ⟨z1, q1, _, w1⟩ := DataW.trod_int (k := .i64) (by kernel_rfl) g1
      obtain ⟨z2, q2, _, w2⟩ := DataW.trod_int (k := .i64) (by kernel_rfl) g2
      obtain ⟨po, ps, pc, rfl, a1, a2, a3, a4⟩ := srow_open g3
      obtain ⟨bo, bs, bc, rfl, b1, b2, b3, b4⟩ := srow_open g4
      obtain rfl : c0 = .int .i64 z0 := by simpa using q0
      obtain rfl : c1 = .int .i64 z1 := by simpa using q1
      obtain rfl : c2 = .int .i64 z2 := by simpa using q2
      exact ⟨⟨z0, z1, z2, ps, bs⟩, po, bo, pc, bc, rfl, ⟨a3, b3, a1, a2, b1, b2, a4, b4, i64_of_wf w0, i64_of_wf w1, i64_of_wf w2⟩⟩
end
/-- A listed variable's reading. -/
theorem laid_mem {P : Program} {W : World} {n : String} {d : DataW Unit} : ∀ {laid : List (String × DataW Unit)} {ps : List MemPlace}, DataW.LaidVars P W laid ps → (n, d) ∈ laid →
    ∃ g t cs fuel p, P.globalNamed n = some g ∧ (P.globals[g]?).map (·.type) = some t ∧ W.var? P n = some cs ∧ DataW.trod (fun _ => ()) P W 0 (fun _ => true) false fuel t cs.toList = some (d, p)
  | [], _, _, hm => by cases hm
  | (n', d') :: r, ps, h, hm => by
    obtain ⟨g, t, cs, fuel, p, q, h1, h2, h3, h4, h5, _⟩ := h
    rcases List.mem_cons.1 hm with e | hm
    · cases e
      exact ⟨g, t, cs, fuel, p, h1, h2, h3, h4⟩
    · exact laid_mem h5 hm
theorem ev_of {W : World} {n nm : String} {g ti : Nat} {ms : Array (String × TypeId)} {d : DataW Unit} {laid : List (String × DataW Unit)} {ps : List MemPlace} (hg : Tryz.prog.globalNamed n = some g) (ht : (Tryz.prog.globals[g]?).map (·.type) = some ti) (hi : Tryz.prog.underlying ti = some (.interface ms))
    (h : DataW.LaidVars Tryz.prog W laid ps) (hm : (n, .iface nm d) ∈ laid) : EvAt W g := by
  obtain ⟨g', t, cs, fuel, p, h1, h2, h3, h4⟩ := laid_mem h hm
  obtain rfl := Option.some.inj (hg.symm.trans h1)
  obtain rfl := Option.some.inj (ht.symm.trans h2)
  obtain ⟨f1, u, v, hc, _, _⟩ := iface_of_trod hi h4
  have hcell := World.var?_cell hg h3 0
  rw [← Array.getElem?_toList, hc] at hcell
  exact ⟨_, hcell, .inr ⟨_, _, rfl⟩⟩
/-- What a row's list, and the world's shape, give. -/
theorem vars_of {W : World} {laid : List (String × DataW Unit)} (h : laidMet Tryz.prog laid W) (hsh : W.ShapedOpen Tryz.prog)
    (m1 : ("internal/strconv.uint64pow10", Rows.laid_internal_strconv_uint64pow10) ∈ laid) (m2 : ("strconv.ErrRange", Rows.laid_strconv_ErrRange) ∈ laid) (m3 : ("strconv.ErrSyntax", Rows.laid_strconv_ErrSyntax) ∈ laid) : Vars W := by
  obtain ⟨ps, hL, _⟩ := h
  refine ⟨?_, ⟨?_, ?_⟩, ?_⟩
  · exact cell_of_shapedOpen_int (t := 3) (zero := #[.int .i64 0]) hsh (by decide +kernel) (by kernel_rfl) rfl (by kernel_rfl) (by kernel_rfl) (by kernel_rfl)
  · exact ev_of (n := "strconv.ErrSyntax") (ti := 60) (by kernel_rfl) (by kernel_rfl) Tryz.underlying60 hL m3
  · exact ev_of (n := "strconv.ErrRange") (ti := 60) (by kernel_rfl) (by kernel_rfl) Tryz.underlying60 hL m2
  · obtain ⟨g, t, cs, fuel, p, h1, h2, h3, h4⟩ := laid_mem hL m1
    have hg : Tryz.prog.globalNamed "internal/strconv.uint64pow10" = some 0 := by kernel_rfl
    have ht : (Tryz.prog.globals[0]?).map (·.type) = some 98 := by kernel_rfl
    obtain rfl := Option.some.inj (hg.symm.trans h1)
    obtain rfl := Option.some.inj (ht.symm.trans h2)
    have hd : (Rows.laid_internal_strconv_uint64pow10 : DataW Unit) = Lib.tabData .u64 Lib.pow10Tab := by kernel_rfl
    rw [hd] at h4
    unfold PowAt Lib.TabIs
    rw [h3, ← Lib.cells_of_tab (n := 20) Tryz.underlying98 (by kernel_rfl) (by kernel_rfl) (by kernel_rfl) h4]
/-- A datum's cells, if it leads nowhere. -/
def flatD : Nat → DataW Unit → List Value
  | 0, _ => []
  | _ + 1, .lit (.int k z) => [.int k z]
  | n + 1, .agg l => l.flatMap (flatD n)
  | _ + 1, _ => []
def putG (h : Array Obj) (g : Nat) (cs : Array Value) : Array Obj := h.modify g fun
  | .cells _ t frozen => .cells cs t frozen
  | o => o
end Go.Proofs.YtbdhmelebedpiaaGreatDoor
