import Derived.Test.YtkmnfkhchcoamaaGreatDoorUnF
import Derived.Test.YtkmnfkhchcoamaaGreatDoorTypData
import Derived.Test.YtkmnfkhchcoamaaGreatDoorRows
/- Units that came in, out of their readings. -/
namespace Go.Proofs.YtkmnfkhchcoamaaGreatDoor
open Go.RowKit Go.ChangeShapes Go.WideShapes Go.Deep Go.Joins

section
variable {H : Type} {enc : TypeId × Value → H} {w : World} {base : Nat} {spare : Nat → Bool} {held : Bool}
set_option maxRecDepth 100000 in
/-- A method's three cells. -/
theorem meth_cells {n : Nat} {cs : List Value} {x : DataW H × List MemPlace} (hl : cs.length = 3) (h : DataW.trod enc Tryz.prog w base spare held n 48 cs = some x) :
    ∃ m : Mt, cs = [.string m.name, .bool m.ptr, .int .i64 m.sig] ∧ m.name.size ≤ 9223372036854775807 ∧ -9223372036854775808 ≤ m.sig ∧ m.sig ≤ 9223372036854775807 := by
  match cs, hl with
  | [c0, c1, c2], _ =>
    obtain ⟨xs, n, _, _, _, hlen, hg⟩ := DataW.trod_struct Tryz.underlying48 h
    match xs, hlen with
    | [y0, y1, y2], _ =>
      have k3 : Tryz.prog.cellsOf 3 = 1 := by kernel_rfl
      have k1 : Tryz.prog.cellsOf 9 = 1 := by kernel_rfl
      have k4 : Tryz.prog.cellsOf 4 = 1 := by kernel_rfl
      have g0 : DataW.trod enc Tryz.prog w base spare held n 9 [c0] = some y0 := by
        have h : DataW.trod enc Tryz.prog w base spare held n 9 (([c0, c1, c2].drop 0).take (Tryz.prog.cellsOf 9)) = some y0 := hg 0 _ rfl
        rw [k1] at h
        exact h
      have g1 : DataW.trod enc Tryz.prog w base spare held n 4 [c1] = some y1 := by
        have h : DataW.trod enc Tryz.prog w base spare held n 4 (([c0, c1, c2].drop 1).take (Tryz.prog.cellsOf 4)) = some y1 := hg 1 _ rfl
        rw [k4] at h
        exact h
      have g2 : DataW.trod enc Tryz.prog w base spare held n 3 [c2] = some y2 := by
        have h : DataW.trod enc Tryz.prog w base spare held n 3 (([c0, c1, c2].drop 2).take (Tryz.prog.cellsOf 3)) = some y2 := hg 2 _ rfl
        rw [k3] at h
        exact h
      obtain ⟨s0, q0, _, hs⟩ := DataW.trod_string (by kernel_rfl) g0
      obtain ⟨b1, q1, _⟩ := DataW.trod_bool (by kernel_rfl) g1
      obtain ⟨z2, q2, _, w2⟩ := DataW.trod_int (k := .i64) (by kernel_rfl) g2
      obtain rfl : c0 = .string s0 := by simpa using q0
      obtain rfl : c1 = .bool b1 := by simpa using q1
      obtain rfl : c2 = .int .i64 z2 := by simpa using q2
      have hmx : s0.size ≤ 9223372036854775807 := hs
      exact ⟨⟨s0, b1, z2⟩, rfl, hmx, i64_wf w2⟩
theorem cells_meth : Tryz.prog.cellsOf 48 = 3 := by kernel_rfl
theorem cells_nm : Tryz.prog.cellsOf 51 = 4 := by kernel_rfl
/-- A row of methods that came in. -/
theorem meths_open {v : Value} {fuel : Nat} {x : DataW H × List MemPlace} (h : DataW.trod enc Tryz.prog w base spare held fuel 44 [v] = some x) :
    ∃ (a : Option Addr) (l : List Mt) (cap : Nat), v = .slice a l.length cap ∧ l.length ≤ cap ∧ cap ≤ 9223372036854775807 ∧ MRow w a l ∧ ∀ m ∈ l, m.name.size ≤ 9223372036854775807 ∧ -9223372036854775808 ≤ m.sig ∧ m.sig ≤ 9223372036854775807 := by
  rcases open_slice Tryz.underlying44 h with ⟨hcs, _⟩ | ⟨a, len, cap, m, n, D, Pl, hcs, _, hl, hm, hmm, _, hx⟩
  · exact ⟨none, [], 0, by simpa using hcs, Nat.le_refl _, by decide, .inl rfl, by simp⟩
  · have hlm : len ≤ m := by rw [hmm]; split <;> omega
    rw [cells_meth] at hx
    have : Inhabited Mt := ⟨⟨⟨#[]⟩, false, 0⟩⟩
    obtain ⟨f, hf⟩ := choose_lt (α := Mt) (n := len) (p := fun i t => (w.cell? ((a.add (i * 3)).add 0) = some (.string t.name) ∧ w.cell? ((a.add (i * 3)).add 1) = some (.bool t.ptr) ∧ w.cell? ((a.add (i * 3)).add 2) = some (.int .i64 t.sig)) ∧ t.name.size ≤ 9223372036854775807 ∧ -9223372036854775808 ≤ t.sig ∧ t.sig ≤ 9223372036854775807) (fun i hi => by
      obtain ⟨cs', h1, h2⟩ := hx i (by omega)
      obtain ⟨_, hl, hi⟩ := World.cells?_some h1
      obtain ⟨t, rfl, ht⟩ := meth_cells hl h2
      exact ⟨t, ⟨hi 0 (by omega), hi 1 (by omega), hi 2 (by omega)⟩, ht⟩)
    have e1 : ((List.range len).map f).length = len := by simp
    refine ⟨some a, (List.range len).map f, cap, by rw [e1]; simpa using hcs, by rw [e1]; exact hl, hm, ?_, fun m hm => ?_⟩
    · by_cases h0 : len = 0
      · exact .inl (by rw [h0]; rfl)
      · obtain ⟨⟨c0, _⟩, _⟩ := hf 0 (by omega)
        obtain ⟨ea, hlt⟩ := none_spot c0
        obtain ⟨b, o, s⟩ := a
        obtain rfl : s = none := by simpa [Addr.add] using ea
        refine .inr ⟨b, o, rfl, by simpa [Addr.add] using hlt, fun i hi => ?_⟩
        rw [e1] at hi
        obtain ⟨⟨c0, c1, c2⟩, _⟩ := hf i hi
        simp only [List.getElem_map, List.getElem_range]
        simp only [flat_add, Nat.add_zero] at c0 c1 c2
        exact ⟨c0, c1, c2⟩
    · obtain ⟨i, hi, rfl⟩ := List.mem_map.1 hm
      exact (hf i (List.mem_range.1 hi)).2
set_option maxRecDepth 100000 in
/-- A Named's four cells. -/
theorem nm_cells {n : Nat} {cs : List Value} {x : DataW H × List MemPlace} (hl : cs.length = 4) (h : DataW.trod enc Tryz.prog w base spare held n 51 cs = some x) :
    ∃ (t : Nm) (bo mo : Option Addr) (bc mc : Nat), cs = [.string t.name, .slice bo t.bounds.length bc, .int .i64 t.under, .slice mo t.methods.length mc] ∧ NmIn w bo mo bc mc t := by
  match cs, hl with
  | [c0, c1, c2, c3], _ =>
    obtain ⟨xs, n, _, _, _, hlen, hg⟩ := DataW.trod_struct Tryz.underlying51 h
    match xs, hlen with
    | [y0, y1, y2, y3], _ =>
      have k3 : Tryz.prog.cellsOf 3 = 1 := by kernel_rfl
      have k1 : Tryz.prog.cellsOf 9 = 1 := by kernel_rfl
      have k23 : Tryz.prog.cellsOf 36 = 1 := by kernel_rfl
      have k24 : Tryz.prog.cellsOf 44 = 1 := by kernel_rfl
      have g0 : DataW.trod enc Tryz.prog w base spare held n 9 [c0] = some y0 := by
        have h : DataW.trod enc Tryz.prog w base spare held n 9 (([c0, c1, c2, c3].drop 0).take (Tryz.prog.cellsOf 9)) = some y0 := hg 0 _ rfl
        rw [k1] at h
        exact h
      have g1 : DataW.trod enc Tryz.prog w base spare held n 36 [c1] = some y1 := by
        have h : DataW.trod enc Tryz.prog w base spare held n 36 (([c0, c1, c2, c3].drop 1).take (Tryz.prog.cellsOf 36)) = some y1 := hg 1 _ rfl
        rw [k23] at h
        exact h
      have g2 : DataW.trod enc Tryz.prog w base spare held n 3 [c2] = some y2 := by
        have h : DataW.trod enc Tryz.prog w base spare held n 3 (([c0, c1, c2, c3].drop 2).take (Tryz.prog.cellsOf 3)) = some y2 := hg 2 _ rfl
        rw [k3] at h
        exact h
      have g3 : DataW.trod enc Tryz.prog w base spare held n 44 [c3] = some y3 := by
        have h : DataW.trod enc Tryz.prog w base spare held n 44 (([c0, c1, c2, c3].drop 3).take (Tryz.prog.cellsOf 44)) = some y3 := hg 3 _ rfl
        rw [k24] at h
        exact h
      obtain ⟨s0, q0, _, hs⟩ := DataW.trod_string (by kernel_rfl) g0
      obtain ⟨bo, bs, bc, rfl, b1, b2, b3, b4⟩ := kids_open g1
      obtain ⟨z2, q2, _, w2⟩ := DataW.trod_int (k := .i64) (by kernel_rfl) g2
      obtain ⟨mo, ms, mc, rfl, m1, m2, m3, m4⟩ := meths_open g3
      obtain rfl : c0 = .string s0 := by simpa using q0
      obtain rfl : c2 = .int .i64 z2 := by simpa using q2
      have hmx : s0.size ≤ 9223372036854775807 := hs
      exact ⟨⟨s0, bs, z2, ms⟩, bo, mo, bc, mc, rfl, ⟨b3, m3, b1, b2, m1, m2, hmx, i64_wf w2, b4, m4⟩⟩
/-- A row of Named that came in. -/
theorem nms_open {v : Value} {fuel : Nat} {x : DataW H × List MemPlace} (h : DataW.trod enc Tryz.prog w base spare held fuel 23 [v] = some x) :
    ∃ (a : Option Addr) (l : List Nm) (cap : Nat), v = .slice a l.length cap ∧ l.length ≤ cap ∧ cap ≤ 9223372036854775807 ∧ InNRow w a l := by
  rcases open_slice Tryz.underlying23 h with ⟨hcs, _⟩ | ⟨a, len, cap, m, n, D, Pl, hcs, _, hl, hm, hmm, _, hx⟩
  · exact ⟨none, [], 0, by simpa using hcs, Nat.le_refl _, by decide, .inl rfl⟩
  · have hlm : len ≤ m := by rw [hmm]; split <;> omega
    rw [cells_nm] at hx
    have : Inhabited Nm := ⟨⟨⟨#[]⟩, [], 0, []⟩⟩
    obtain ⟨f, hf⟩ := choose_lt (α := Nm) (n := len) (p := fun i t => ∃ bo bc mo mc, w.cell? ((a.add (i * 4)).add 0) = some (.string t.name) ∧ w.cell? ((a.add (i * 4)).add 1) = some (.slice bo t.bounds.length bc) ∧ w.cell? ((a.add (i * 4)).add 2) = some (.int .i64 t.under) ∧ w.cell? ((a.add (i * 4)).add 3) = some (.slice mo t.methods.length mc) ∧ NmIn w bo mo bc mc t) (fun i hi => by
      obtain ⟨cs', h1, h2⟩ := hx i (by omega)
      obtain ⟨_, hl, hi⟩ := World.cells?_some h1
      obtain ⟨t, bo, mo, bc, mc, rfl, ht⟩ := nm_cells hl h2
      exact ⟨t, bo, bc, mo, mc, hi 0 (by omega), hi 1 (by omega), hi 2 (by omega), hi 3 (by omega), ht⟩)
    have e1 : ((List.range len).map f).length = len := by simp
    refine ⟨some a, (List.range len).map f, cap, by rw [e1]; simpa using hcs, by rw [e1]; exact hl, hm, ?_⟩
    by_cases h0 : len = 0
    · exact .inl (by rw [h0]; rfl)
    · obtain ⟨_, _, _, _, c0, _⟩ := hf 0 (by omega)
      obtain ⟨ea, hlt⟩ := none_spot c0
      obtain ⟨b, o, s⟩ := a
      obtain rfl : s = none := by simpa [Addr.add] using ea
      refine .inr ⟨b, o, rfl, by simpa [Addr.add] using hlt, fun i hi => ?_⟩
      rw [e1] at hi
      obtain ⟨bo, bc, mo, mc, c0, c1, c2, c3, ht⟩ := hf i hi
      simp only [List.getElem_map, List.getElem_range]
      simp only [flat_add, Nat.add_zero] at c0 c1 c2 c3
      exact ⟨bo, bc, mo, mc, c0, c1, c2, c3, ht⟩
set_option maxRecDepth 100000 in
/-- A unit that came in. -/
theorem un_open {v : Value} {r : Reach} {b0 : Nat} {d : DataW H} {p : List MemPlace} (hv : Value.okWide Tryz.prog w r b0 25 v) (h : DataW.Trod enc Tryz.prog w base spare held 25 v d p) :
    ∃ (u : Un) (ao no : Option Addr) (ac nc : Nat), v = unV u ao ac no nc ∧ InUn w ao no ac nc u := by
  obtain ⟨cs, rfl, hsz⟩ := okWide_struct Tryz.underlying25 hv
  have hC : Tryz.prog.cellsOf 25 = 2 := by kernel_rfl
  obtain ⟨fuel, hf⟩ := h
  have hl2 : cs.toList.length = 2 := by simpa using hsz.trans hC
  obtain ⟨ks, hks⟩ : ∃ ks, cs.toList = ks := ⟨_, rfl⟩
  have hf2 : DataW.trod enc Tryz.prog w base spare held fuel 25 cs.toList = some (d, p) := hf
  rw [hks] at hf2 hl2
  match ks, hl2 with
  | [c0, c1], _ =>
    obtain ⟨xs, n, _, _, _, hlen, hg⟩ := DataW.trod_struct Tryz.underlying25 hf2
    match xs, hlen with
    | [y0, y1], _ =>
      have k0 : Tryz.prog.cellsOf 22 = 1 := by kernel_rfl
      have k1 : Tryz.prog.cellsOf 23 = 1 := by kernel_rfl
      have g0 : DataW.trod enc Tryz.prog w base spare held n 22 [c0] = some y0 := by
        have h : DataW.trod enc Tryz.prog w base spare held n 22 (([c0, c1].drop 0).take (Tryz.prog.cellsOf 22)) = some y0 := hg 0 _ rfl
        rw [k0] at h
        exact h
      have g1 : DataW.trod enc Tryz.prog w base spare held n 23 [c1] = some y1 := by
        have h : DataW.trod enc Tryz.prog w base spare held n 23 (([c0, c1].drop 1).take (Tryz.prog.cellsOf 23)) = some y1 := hg 1 _ rfl
        rw [k1] at h
        exact h
      obtain ⟨ao, l, ac, rfl, a1, a2, a3⟩ := tys_open g0
      obtain ⟨no, ns, nc, rfl, n1, n2, n3⟩ := nms_open g1
      refine ⟨⟨l, ns⟩, ao, no, ac, nc, ?_, ⟨a3, n3, a1, a2, n1, n2⟩⟩
      have e2 : cs = #[.slice ao l.length ac, .slice no ns.length nc] := by
        apply Array.toList_inj.1
        exact hks
      rw [e2]
      rfl
end
end Go.Proofs.YtkmnfkhchcoamaaGreatDoor
/- A type that came in: its words are no longer than what is read holds. -/
namespace Go.Proofs.YtkmnfkhchcoamaaGreatDoor
open Go.RowKit Go.ChangeShapes Go.WideShapes Go.Deep Go.Joins

theorem bulk_part {H : Type} {d : DataW H} {l : List (DataW H)} (h : d ∈ l) : Rows.uptoBulk d ≤ Rows.uptoBulkAll l := by
  induction l with
  | nil => cases h
  | cons x r ih =>
    simp only [Rows.uptoBulkAll]
    cases List.mem_cons.1 h with
    | inl e => subst e; omega
    | inr e => have := ih e; omega
section
variable {H : Type} {enc : TypeId × Value → H} {w : World} {base : Nat} {spare : Nat → Bool} {held : Bool}
/-- A slice of texts in a cell. -/
theorem words_bulk {fuel : Nat} {v : Value} {x : DataW H × List MemPlace} (h : DataW.trod enc Tryz.prog w base spare held fuel 35 [v] = some x) :
    ∃ (ao : Option Addr) (ss : List ByteArray) (cap : Nat), v = .slice ao ss.length cap ∧ ss.length ≤ cap ∧ cap ≤ 9223372036854775807 ∧ SRow w ao ss ∧ (∀ s ∈ ss, s.size ≤ 9223372036854775807) ∧ ∀ s ∈ ss, s.size ≤ Rows.uptoBulk x.1 := by
  rcases open_strs Tryz.underlying35 (by kernel_rfl) (by kernel_rfl) h with ⟨hcs, _⟩ | ⟨a, len, cap, m, Sx, hcs, _, hl, hm, hmm, hd, hx⟩
  · exact ⟨none, [], 0, by simpa using hcs, Nat.le_refl _, by decide, .inl rfl, by simp, by simp⟩
  · have hlm : len ≤ m := by rw [hmm]; split <;> omega
    refine ⟨some a, (List.range len).map Sx, cap, by simpa using hcs, by simpa using hl, hm, ?_, fun s hs => ?_, fun s hs => ?_⟩
    · by_cases h0 : len = 0
      · exact .inl (by simp [h0])
      · obtain ⟨c0, _⟩ := hx 0 (by omega)
        obtain ⟨ea, hlt⟩ := none_spot c0
        obtain ⟨b, o, s⟩ := a
        obtain rfl : s = none := by simpa [Addr.add] using ea
        refine .inr ⟨b, o, rfl, by simpa [Addr.add] using hlt, fun i hi => ?_⟩
        have hi' : i < len := by simpa using hi
        obtain ⟨ci, _⟩ := hx i (by omega)
        rw [flat_add] at ci
        rw [ci]
        simp [hi']
    · obtain ⟨i, hi, rfl⟩ := List.mem_map.1 hs
      exact (hx i (by have := List.mem_range.1 hi; omega)).2
    · obtain ⟨i, hi, rfl⟩ := List.mem_map.1 hs
      subst hd
      have h1 : (DataW.lit (.string (Sx i).data.toList) : DataW H) ∈ (List.range len).map (fun i => (DataW.lit (.string (Sx i).data.toList) : DataW H)) := List.mem_map.2 ⟨i, hi, rfl⟩
      have h2 := bulk_part h1
      have h3 : Rows.uptoBulk (DataW.lit (.string (Sx i).data.toList) : DataW H) = (Sx i).data.toList.length + 1 := by simp [Rows.uptoBulk]
      have h4 : (Sx i).size = (Sx i).data.toList.length := by simp
      show (Sx i).size ≤ Rows.uptoBulk (DataW.slice _ _)
      simp only [Rows.uptoBulk]
      omega
set_option maxRecDepth 100000 in
/-- A type's five cells. -/
theorem ty_cells_bulk {n : Nat} {cs : List Value} {x : DataW H × List MemPlace} (hl : cs.length = 5) (h : DataW.trod enc Tryz.prog w base spare held n 38 cs = some x) :
    ∃ (t : Ty) (wo ko : Option Addr) (wc kc : Nat), cs = [.int .i64 t.kind, .string t.name, .int .i64 t.n, .slice wo t.words.length wc, .slice ko t.kids.length kc] ∧ TyIn w wo ko wc kc t ∧ ∀ s ∈ t.words, s.size ≤ Rows.uptoBulk x.1 := by
  match cs, hl with
  | [c0, c1, c2, c3, c4], _ =>
    obtain ⟨xs, n, _, hxx, _, hlen, hg⟩ := DataW.trod_struct Tryz.underlying38 h
    match xs, hlen with
    | [y0, y1, y2, y3, y4], _ =>
      have k3 : Tryz.prog.cellsOf 3 = 1 := by kernel_rfl
      have k1 : Tryz.prog.cellsOf 9 = 1 := by kernel_rfl
      have k22 : Tryz.prog.cellsOf 35 = 1 := by kernel_rfl
      have k23 : Tryz.prog.cellsOf 36 = 1 := by kernel_rfl
      have g0 : DataW.trod enc Tryz.prog w base spare held n 3 [c0] = some y0 := by
        have h : DataW.trod enc Tryz.prog w base spare held n 3 (([c0, c1, c2, c3, c4].drop 0).take (Tryz.prog.cellsOf 3)) = some y0 := hg 0 _ rfl
        rw [k3] at h
        exact h
      have g1 : DataW.trod enc Tryz.prog w base spare held n 9 [c1] = some y1 := by
        have h : DataW.trod enc Tryz.prog w base spare held n 9 (([c0, c1, c2, c3, c4].drop 1).take (Tryz.prog.cellsOf 9)) = some y1 := hg 1 _ rfl
        rw [k1] at h
        exact h
      have g2 : DataW.trod enc Tryz.prog w base spare held n 3 [c2] = some y2 := by
        have h : DataW.trod enc Tryz.prog w base spare held n 3 (([c0, c1, c2, c3, c4].drop 2).take (Tryz.prog.cellsOf 3)) = some y2 := hg 2 _ rfl
        rw [k3] at h
        exact h
      have g3 : DataW.trod enc Tryz.prog w base spare held n 35 [c3] = some y3 := by
        have h : DataW.trod enc Tryz.prog w base spare held n 35 (([c0, c1, c2, c3, c4].drop 3).take (Tryz.prog.cellsOf 35)) = some y3 := hg 3 _ rfl
        rw [k22] at h
        exact h
      have g4 : DataW.trod enc Tryz.prog w base spare held n 36 [c4] = some y4 := by
        have h : DataW.trod enc Tryz.prog w base spare held n 36 (([c0, c1, c2, c3, c4].drop 4).take (Tryz.prog.cellsOf 36)) = some y4 := hg 4 _ rfl
        rw [k23] at h
        exact h
      obtain ⟨z0, q0, _, w0⟩ := DataW.trod_int (k := .i64) (by kernel_rfl) g0
      obtain ⟨s1, q1, _, hs⟩ := DataW.trod_string (by kernel_rfl) g1
      obtain ⟨z2, q2, _, w2⟩ := DataW.trod_int (k := .i64) (by kernel_rfl) g2
      obtain ⟨po, ps, pc, rfl, a1, a2, a3, a4, a5⟩ := words_bulk g3
      obtain ⟨bo, bs, bc, rfl, b1, b2, b3, b4⟩ := kids_open g4
      obtain rfl : c0 = .int .i64 z0 := by simpa using q0
      obtain rfl : c1 = .string s1 := by simpa using q1
      obtain rfl : c2 = .int .i64 z2 := by simpa using q2
      have hmx : s1.size ≤ 9223372036854775807 := hs
      refine ⟨⟨z0, s1, z2, ps, bs⟩, po, bo, pc, bc, rfl, ⟨a3, b3, a1, a2, b1, b2, hmx, a4, ⟨i64_wf w0, i64_wf w2⟩, b4⟩, fun s hs => ?_⟩
      have h1 := a5 s hs
      have h2 := bulk_part (l := [y0, y1, y2, y3, y4].map (·.1)) (d := y3.1) (by simp)
      subst hxx
      show s.size ≤ Rows.uptoBulk (DataW.agg _)
      simp only [Rows.uptoBulk]
      omega
set_option maxRecDepth 100000 in
/-- A type that came in. -/
theorem ty_bulk {v : Value} {r : Reach} {b0 : Nat} {d : DataW H} {p : List MemPlace} (hv : Value.okWide Tryz.prog w r b0 38 v) (h : DataW.Trod enc Tryz.prog w base spare held 38 v d p) :
    ∃ (t : Ty) (wo ko : Option Addr) (wc kc : Nat), v = tyV t wo wc ko kc ∧ TyIn w wo ko wc kc t ∧ ∀ s ∈ t.words, s.size ≤ Rows.uptoBulk d := by
  obtain ⟨cs, rfl, hsz⟩ := okWide_struct Tryz.underlying38 hv
  have hC : Tryz.prog.cellsOf 38 = 5 := by kernel_rfl
  obtain ⟨fuel, hf⟩ := h
  obtain ⟨t, wo, ko, wc, kc, e, ht, hs⟩ := ty_cells_bulk (cs := cs.toList) (by simpa using hsz.trans hC) hf
  refine ⟨t, wo, ko, wc, kc, ?_, ht, hs⟩
  have e2 : cs = #[.int .i64 t.kind, .string t.name, .int .i64 t.n, .slice wo t.words.length wc, .slice ko t.kids.length kc] := by
    apply Array.toList_inj.1
    exact e
  rw [e2]
  rfl
end
theorem bulk_three {H : Type} {a b c : DataW H} (h : Rows.uptoSmall H ([a, b, c] ++ []) = true) : Rows.uptoBulk b ≤ 1048576 := by
  unfold Rows.uptoSmall at h
  have h := of_decide_eq_true h
  simp only [List.append_nil, Rows.uptoBulkAll] at h
  omega
end Go.Proofs.YtkmnfkhchcoamaaGreatDoor

