import Derived.Test.YtkmnfkhchcoamaaGreatDoorSubL
import Derived.Deep.Slices
import Derived.Deep.Fields
import Derived.Deep.Strs
import Derived.Lib.SmallJoins
import Derived.ChangeSlices
import Derived.ChangeArms
import Derived.Lib.LaidTab
import Derived.LaidLaws
import Derived.Shelf.Vars
import Derived.HandedShaped
/- Types that came in, and the listed variables, out of their readings. -/
namespace Go.Proofs.YtkmnfkhchcoamaaGreatDoor
open Go.RowKit Go.ChangeShapes Go.WideShapes Go.Deep Go.Joins

theorem i64_wf {n : Int} (h : (Lit.int .i64 n).wf = true) : -9223372036854775808 ≤ n ∧ n ≤ 9223372036854775807 := by
  simp [Lit.wf, IntKind.min, IntKind.max, IntKind.signed, IntKind.bits] at h
  omega
theorem flat_add (b o i : Nat) : (⟨b, o, none⟩ : Addr).add i = ⟨b, o + i, none⟩ := by
  unfold Addr.add
  split
  · rename_i h
    rw [h]
    rfl
  · rfl
theorem none_spot {w : World} {a : Addr} {v : Value} (h : w.cell? a = some v) : a = ⟨a.block, a.off, none⟩ ∧ a.block < w.heap.size := by
  unfold World.cell? at h
  split at h
  · rename_i hb
    split at h
    · cases h
    · rename_i hs
      obtain ⟨b, o, s⟩ := a
      cases s with
      | none => exact ⟨rfl, (Array.getElem?_eq_some_iff.1 hb).1⟩
      | some s => exact absurd rfl hs
  · cases h
section
variable {H : Type} {enc : TypeId × Value → H} {w : World} {base : Nat} {spare : Nat → Bool} {held : Bool}
/-- A slice of texts in a cell. -/
theorem words_open {fuel : Nat} {v : Value} {x : DataW H × List MemPlace} (h : DataW.trod enc Tryz.prog w base spare held fuel 35 [v] = some x) :
    ∃ (ao : Option Addr) (ss : List ByteArray) (cap : Nat), v = .slice ao ss.length cap ∧ ss.length ≤ cap ∧ cap ≤ 9223372036854775807 ∧ SRow w ao ss ∧ ∀ s ∈ ss, s.size ≤ 9223372036854775807 := by
  rcases open_strs Tryz.underlying35 (by kernel_rfl) (by kernel_rfl) h with ⟨hcs, _⟩ | ⟨a, len, cap, m, Sx, hcs, _, hl, hm, hmm, _, hx⟩
  · exact ⟨none, [], 0, by simpa using hcs, Nat.le_refl _, by decide, .inl rfl, by simp⟩
  · have hlm : len ≤ m := by rw [hmm]; split <;> omega
    refine ⟨some a, (List.range len).map Sx, cap, by simpa using hcs, by simpa using hl, hm, ?_, fun s hs => ?_⟩
    · by_cases h0 : len = 0
      · exact .inl (by simp [h0])
      · obtain ⟨c0, _⟩ := hx 0 (by omega)
        obtain ⟨ea, hlt⟩ := none_spot c0
        obtain ⟨b, o, s⟩ := a
        obtain rfl : s = none := by simpa [Addr.add] using ea
        refine .inr ⟨b, o, rfl, by simpa [Addr.add] using hlt, fun i hi => ?_⟩
        have hi' : i < len := by simpa using hi
        obtain ⟨ci, _⟩ := hx i (by omega)
        rw [flat_add] at ci
        rw [ci]
        simp [hi']
    · obtain ⟨i, hi, rfl⟩ := List.mem_map.1 hs
      exact (hx i (by have := List.mem_range.1 hi; omega)).2
/-- A slice of integers in a cell. -/
theorem kids_open {fuel : Nat} {v : Value} {x : DataW H × List MemPlace} (h : DataW.trod enc Tryz.prog w base spare held fuel 36 [v] = some x) :
    ∃ (ka : Option Addr) (zs : List Int) (kc : Nat), v = .slice ka zs.length kc ∧ zs.length ≤ kc ∧ kc ≤ 9223372036854775807 ∧ IRow w ka zs ∧ ∀ z ∈ zs, -9223372036854775808 ≤ z ∧ z ≤ 9223372036854775807 := by
  rcases open_ints (k := .i64) Tryz.underlying36 (by kernel_rfl) (by kernel_rfl) h with ⟨hcs, _⟩ | ⟨a, l, c, zs, hcs, _, hl, hm, hz, _, hcell, hwf⟩
  · exact ⟨none, [], 0, by simpa using hcs, Nat.le_refl _, by decide, .inl rfl, by simp⟩
  · have hlz : l ≤ zs.length := by rw [hz]; split <;> omega
    have e1 : (zs.take l).length = l := by rw [List.length_take]; omega
    refine ⟨some a, zs.take l, c, by rw [e1]; simpa using hcs, by rw [e1]; exact hl, hm, ?_, fun z hz => i64_wf (hwf z (List.mem_of_mem_take hz))⟩
    by_cases h0 : l = 0
    · exact .inl (by rw [h0]; simp)
    · have c0 := hcell 0 (by omega)
      obtain ⟨ea, hlt⟩ := none_spot c0
      obtain ⟨b, o, s⟩ := a
      obtain rfl : s = none := by simpa [Addr.add] using ea
      refine .inr ⟨b, o, rfl, by simpa [Addr.add] using hlt, fun i hi => ?_⟩
      rw [e1] at hi
      have ci := hcell i (by omega)
      rw [flat_add] at ci
      rw [show (zs.take l).getD i 0 = zs.getD i 0 by simp only [List.getD_eq_getElem?_getD]; rw [List.getElem?_take_of_lt hi]]
      exact ci
set_option maxRecDepth 100000 in
/-- A type's five cells. -/
theorem ty_cells {n : Nat} {cs : List Value} {x : DataW H × List MemPlace} (hl : cs.length = 5) (h : DataW.trod enc Tryz.prog w base spare held n 38 cs = some x) :
    ∃ (t : Ty) (wo ko : Option Addr) (wc kc : Nat), cs = [.int .i64 t.kind, .string t.name, .int .i64 t.n, .slice wo t.words.length wc, .slice ko t.kids.length kc] ∧ TyIn w wo ko wc kc t := by
  match cs, hl with
  | [c0, c1, c2, c3, c4], _ =>
    obtain ⟨xs, n, _, _, _, hlen, hg⟩ := DataW.trod_struct Tryz.underlying38 h
    match xs, hlen with
    | [y0, y1, y2, y3, y4], _ =>
      have k3 : Tryz.prog.cellsOf 3 = 1 := by kernel_rfl
      have k1 : Tryz.prog.cellsOf 9 = 1 := by kernel_rfl
      have k22 : Tryz.prog.cellsOf 35 = 1 := by kernel_rfl
      have k23 : Tryz.prog.cellsOf 36 = 1 := by kernel_rfl
      have g0 : DataW.trod enc Tryz.prog w base spare held n 3 [c0] = some y0 := by
        have h : DataW.trod enc Tryz.prog w base spare held n 3 (([c0, c1, c2, c3, c4].drop 0).take (Tryz.prog.cellsOf 3)) = some y0 := hg 0 _ rfl
        rw [k3] at h
        exact h
      have g1 : DataW.trod enc Tryz.prog w base spare held n 9 [c1] = some y1 := by
        have h : DataW.trod enc Tryz.prog w base spare held n 9 (([c0, c1, c2, c3, c4].drop 1).take (Tryz.prog.cellsOf 9)) = some y1 := hg 1 _ rfl
        rw [k1] at h
        exact h
      have g2 : DataW.trod enc Tryz.prog w base spare held n 3 [c2] = some y2 := by
        have h : DataW.trod enc Tryz.prog w base spare held n 3 (([c0, c1, c2, c3, c4].drop 2).take (Tryz.prog.cellsOf 3)) = some y2 := hg 2 _ rfl
        rw [k3] at h
        exact h
      have g3 : DataW.trod enc Tryz.prog w base spare held n 35 [c3] = some y3 := by
        have h : DataW.trod enc Tryz.prog w base spare held n 35 (([c0, c1, c2, c3, c4].drop 3).take (Tryz.prog.cellsOf 35)) = some y3 := hg 3 _ rfl
        rw [k22] at h
        exact h
      have g4 : DataW.trod enc Tryz.prog w base spare held n 36 [c4] = some y4 := by
        have h : DataW.trod enc Tryz.prog w base spare held n 36 (([c0, c1, c2, c3, c4].drop 4).take (Tryz.prog.cellsOf 36)) = some y4 := hg 4 _ rfl
        rw [k23] at h
        exact h
      obtain ⟨z0, q0, _, w0⟩ := DataW.trod_int (k := .i64) (by kernel_rfl) g0
      obtain ⟨s1, q1, _, hs⟩ := DataW.trod_string (by kernel_rfl) g1
      obtain ⟨z2, q2, _, w2⟩ := DataW.trod_int (k := .i64) (by kernel_rfl) g2
      obtain ⟨po, ps, pc, rfl, a1, a2, a3, a4⟩ := words_open g3
      obtain ⟨bo, bs, bc, rfl, b1, b2, b3, b4⟩ := kids_open g4
      obtain rfl : c0 = .int .i64 z0 := by simpa using q0
      obtain rfl : c1 = .string s1 := by simpa using q1
      obtain rfl : c2 = .int .i64 z2 := by simpa using q2
      have hmx : s1.size ≤ 9223372036854775807 := hs
      exact ⟨⟨z0, s1, z2, ps, bs⟩, po, bo, pc, bc, rfl, ⟨a3, b3, a1, a2, b1, b2, hmx, a4, ⟨i64_wf w0, i64_wf w2⟩, b4⟩⟩
set_option maxRecDepth 100000 in
/-- A type that came in. -/
theorem ty_open {v : Value} {r : Reach} {b0 : Nat} {d : DataW H} {p : List MemPlace} (hv : Value.okWide Tryz.prog w r b0 38 v) (h : DataW.Trod enc Tryz.prog w base spare held 38 v d p) :
    ∃ (t : Ty) (wo ko : Option Addr) (wc kc : Nat), v = tyV t wo wc ko kc ∧ TyIn w wo ko wc kc t := by
  obtain ⟨cs, rfl, hsz⟩ := okWide_struct Tryz.underlying38 hv
  have hC : Tryz.prog.cellsOf 38 = 5 := by kernel_rfl
  obtain ⟨fuel, hf⟩ := h
  obtain ⟨t, wo, ko, wc, kc, e, ht⟩ := ty_cells (cs := cs.toList) (by simpa using hsz.trans hC) hf
  refine ⟨t, wo, ko, wc, kc, ?_, ht⟩
  have e2 : cs = #[.int .i64 t.kind, .string t.name, .int .i64 t.n, .slice wo t.words.length wc, .slice ko t.kids.length kc] := by
    apply Array.toList_inj.1
    exact e
  rw [e2]
  rfl
theorem cells_ty : Tryz.prog.cellsOf 38 = 5 := by kernel_rfl
/-- A row of types that came in. -/
theorem tys_open {v : Value} {fuel : Nat} {x : DataW H × List MemPlace} (h : DataW.trod enc Tryz.prog w base spare held fuel 22 [v] = some x) :
    ∃ (a : Option Addr) (l : List Ty) (cap : Nat), v = .slice a l.length cap ∧ l.length ≤ cap ∧ cap ≤ 9223372036854775807 ∧ InRow w a l := by
  rcases open_slice Tryz.underlying22 h with ⟨hcs, _⟩ | ⟨a, len, cap, m, n, D, Pl, hcs, _, hl, hm, hmm, _, hx⟩
  · exact ⟨none, [], 0, by simpa using hcs, Nat.le_refl _, by decide, .inl rfl⟩
  · have hlm : len ≤ m := by rw [hmm]; split <;> omega
    rw [cells_ty] at hx
    have : Inhabited Ty := ⟨⟨0, ⟨#[]⟩, 0, [], []⟩⟩
    obtain ⟨f, hf⟩ := choose_lt (α := Ty) (n := len) (p := fun i t => ∃ wo wc ko kc, w.cell? ((a.add (i * 5)).add 0) = some (.int .i64 t.kind) ∧ w.cell? ((a.add (i * 5)).add 1) = some (.string t.name) ∧ w.cell? ((a.add (i * 5)).add 2) = some (.int .i64 t.n) ∧
        w.cell? ((a.add (i * 5)).add 3) = some (.slice wo t.words.length wc) ∧ w.cell? ((a.add (i * 5)).add 4) = some (.slice ko t.kids.length kc) ∧ TyIn w wo ko wc kc t) (fun i hi => by
      obtain ⟨cs', h1, h2⟩ := hx i (by omega)
      obtain ⟨_, hl, hi⟩ := World.cells?_some h1
      obtain ⟨t, wo, ko, wc, kc, rfl, ht⟩ := ty_cells hl h2
      exact ⟨t, wo, wc, ko, kc, hi 0 (by omega), hi 1 (by omega), hi 2 (by omega), hi 3 (by omega), hi 4 (by omega), ht⟩)
    have e1 : ((List.range len).map f).length = len := by simp
    refine ⟨some a, (List.range len).map f, cap, by rw [e1]; simpa using hcs, by rw [e1]; exact hl, hm, ?_⟩
    by_cases h0 : len = 0
    · exact .inl (by rw [h0]; rfl)
    · obtain ⟨_, _, _, _, c0, _⟩ := hf 0 (by omega)
      obtain ⟨ea, hlt⟩ := none_spot c0
      obtain ⟨b, o, s⟩ := a
      obtain rfl : s = none := by simpa [Addr.add] using ea
      refine .inr ⟨b, o, rfl, by simpa [Addr.add] using hlt, fun i hi => ?_⟩
      rw [e1] at hi
      obtain ⟨wo, wc, ko, kc, c0, c1, c2, c3, c4, ht⟩ := hf i hi
      simp only [List.getElem_map, List.getElem_range]
      simp only [flat_add, Nat.add_zero] at c0 c1 c2 c3 c4
      exact ⟨wo, wc, ko, kc, c0, c1, c2, c3, c4, ht⟩
/-- The cells of an array of texts. -/
theorem texts_of_tab {fuel : Nat} {t e n : Nat} {cs : List Value} {ss : List ByteArray} {p : List MemPlace}
    (ht : Tryz.prog.underlying t = some (.array n e)) (he : Tryz.prog.underlying e = some .string) (hce : Tryz.prog.cellsOf e = 1) (hct : Tryz.prog.cellsOf t = n)
    (h : DataW.trod enc Tryz.prog w base spare held fuel t cs = some (.agg (ss.map fun s => .lit (.string s.data.toList)), p)) :
    ∀ i, i < n → cs[i]? = some (.string (ss.getD i ⟨#[]⟩)) := by
  intro i hi
  cases fuel with
  | zero => simp [DataW.trod] at h
  | succ fuel =>
    simp only [DataW.trod, ht, hce, hct] at h
    split at h
    · obtain ⟨xs, hm, hx⟩ := Option.map_eq_some_iff.1 h
      have hxs : xs.map (·.1) = ss.map fun s => (DataW.lit (.string s.data.toList) : DataW H) := by
        have := congrArg Prod.fst hx
        simpa using this
      obtain ⟨b, hb, hf⟩ := Lib.mapM_at hm i i (by simp [hi])
      obtain ⟨s, q, hy, _⟩ := DataW.trod_string he hf
      have h2 : (xs.map (·.1))[i]? = some (DataW.lit (.string s.data.toList) : DataW H) := by rw [List.getElem?_map, hb, hy]; rfl
      rw [hxs, List.getElem?_map] at h2
      obtain ⟨z, hz, hzz⟩ := Option.map_eq_some_iff.1 h2
      have hzs : z = s := by
        have : z.data.toList = s.data.toList := by simpa using hzz
        exact ByteArray.ext (Array.toList_inj.1 this)
      rw [show ss.getD i ⟨#[]⟩ = s by rw [List.getD_eq_getElem?_getD, hz, hzs]; rfl]
      have := congrArg (·[0]?) q
      simpa [List.getElem?_take, List.getElem?_drop] using this
    · cases h
end
/-- A listed variable's reading. -/
theorem mem_laid {P : Program} {W : World} {n : String} {d : DataW Unit} : ∀ {laid : List (String × DataW Unit)} {ps : List MemPlace}, DataW.LaidVars P W laid ps → (n, d) ∈ laid →
    ∃ g t cs fuel p, P.globalNamed n = some g ∧ (P.globals[g]?).map (·.type) = some t ∧ W.var? P n = some cs ∧ DataW.trod (fun _ => ()) P W 0 (fun _ => true) false fuel t cs.toList = some (d, p)
  | [], _, _, hm => by cases hm
  | (n', d') :: r, ps, h, hm => by
    obtain ⟨g, t, cs, fuel, p, q, h1, h2, h3, h4, h5, _⟩ := h
    rcases List.mem_cons.1 hm with e | hm
    · cases e
      exact ⟨g, t, cs, fuel, p, h1, h2, h3, h4⟩
    · exact mem_laid h5 hm
/-- What a row's list, and the world's shape, give. -/
theorem env_of {W : World} {laid : List (String × DataW Unit)} (h : laidMet Tryz.prog laid W) (hsh : W.ShapedOpen Tryz.prog)
    (m1 : ("indenture/typ.basics", Rows.laid_indenture_typ_basics) ∈ laid) (m2 : ("internal/strconv.uint64pow10", Rows.laid_internal_strconv_uint64pow10) ∈ laid) : Env W := by
  obtain ⟨_, hL, _⟩ := h
  refine ⟨?_, ?_, ?_⟩
  · obtain ⟨g, t, cs, fuel, p, h1, h2, h3, h4⟩ := mem_laid hL m1
    have hg : Tryz.prog.globalNamed "indenture/typ.basics" = some 0 := by kernel_rfl
    have ht : (Tryz.prog.globals[0]?).map (·.type) = some 112 := by kernel_rfl
    obtain rfl := Option.some.inj (hg.symm.trans h1)
    obtain rfl := Option.some.inj (ht.symm.trans h2)
    rw [show (Rows.laid_indenture_typ_basics : DataW Unit) = .agg (basicNames.map fun s => .lit (.string s.data.toList)) by kernel_rfl] at h4
    have hc := texts_of_tab (n := 20) Tryz.underlying112 (by kernel_rfl) (by kernel_rfl) (by kernel_rfl) h4
    intro i hi
    have hcell := World.var?_cell hg h3 i
    rw [hcell, ← Array.getElem?_toList, hc i hi]
  · exact cell_of_shapedOpen_int (P := Tryz.prog) (g := 1) (t := 3) (zero := #[.int .i64 0]) hsh (of_decide_eq_true (by kernel_rfl)) (by kernel_rfl) rfl (by kernel_rfl) (by kernel_rfl) Tryz.underlying3
  · obtain ⟨g, t, cs, fuel, p, h1, h2, h3, h4⟩ := mem_laid hL m2
    have hg : Tryz.prog.globalNamed "internal/strconv.uint64pow10" = some 2 := by kernel_rfl
    have ht : (Tryz.prog.globals[2]?).map (·.type) = some 157 := by kernel_rfl
    obtain rfl := Option.some.inj (hg.symm.trans h1)
    obtain rfl := Option.some.inj (ht.symm.trans h2)
    have hd : (Rows.laid_internal_strconv_uint64pow10 : DataW Unit) = Lib.tabData .u64 Lib.pow10Tab := by kernel_rfl
    rw [hd] at h4
    unfold PowAt Lib.TabIs
    rw [h3, ← Lib.cells_of_tab (n := 20) Tryz.underlying157 (by kernel_rfl) (by kernel_rfl) (by kernel_rfl) h4]
/-- A datum's cells, if it leads nowhere. -/
def flatD : Nat → DataW Unit → List Value
  | 0, _ => []
  | _ + 1, .lit (.int k z) => [.int k z]
  | _ + 1, .lit (.string bs) => [.string ⟨bs.toArray⟩]
  | n + 1, .agg l => l.flatMap (flatD n)
  | _ + 1, _ => []
def putG (h : Array Obj) (g : Nat) (cs : Array Value) : Array Obj := h.modify g fun
  | .cells _ t frozen => .cells cs t frozen
  | o => o
end Go.Proofs.YtkmnfkhchcoamaaGreatDoor

