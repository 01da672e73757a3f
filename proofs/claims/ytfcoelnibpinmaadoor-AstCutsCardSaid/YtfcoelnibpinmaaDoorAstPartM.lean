/- What the program's part keeps: rows of integers, the nodes of the cut. -/
import Derived.Test.YtfcoelnibpinmaaDoorAstGather
import Derived.Laws.MakeOwn
namespace Go.Proofs.YtfcoelnibpinmaaDoor
open Go.RowKit

/-- A row of integers by its function. -/
def rowOf (L : Nat) (f : Nat → Nat) : Array Value := ((List.range L).map fun j => Value.int .i64 ((f j : Nat) : Int)).toArray
theorem rowOf_get {L : Nat} {f : Nat → Nat} {j : Nat} (h : j < L) : (rowOf L f)[j]? = some (.int .i64 ((f j : Nat) : Int)) := by
  unfold rowOf
  simp [h]
theorem rowOf_size {L : Nat} {f : Nat → Nat} : (rowOf L f).size = L := by simp [rowOf]
theorem rowOf_set {L : Nat} {f : Nat → Nat} {k d : Nat} : (rowOf L f).setIfInBounds k (.int .i64 ((d : Nat) : Int)) = rowOf L fun j => if j = k then d else f j := by
  apply Array.ext_getElem?
  intro j
  by_cases hj : j < L
  · rw [rowOf_get hj]
    by_cases hk : k = j
    · subst hk
      rw [Array.getElem?_setIfInBounds_self_of_lt (by rw [rowOf_size]; exact hj)]
      simp
    · rw [Array.getElem?_setIfInBounds_ne hk, rowOf_get hj, if_neg (fun e => hk e.symm)]
  · rw [Array.getElem?_eq_none (by rw [Array.size_setIfInBounds, rowOf_size]; omega), Array.getElem?_eq_none (by rw [rowOf_size]; omega)]
theorem rowOf_congr {L : Nat} {f g : Nat → Nat} (h : ∀ j, j < L → f j = g j) : rowOf L f = rowOf L g := by
  apply Array.ext_getElem?
  intro j
  by_cases hj : j < L
  · rw [rowOf_get hj, rowOf_get hj, h j hj]
  · rw [Array.getElem?_eq_none (by rw [rowOf_size]; omega), Array.getElem?_eq_none (by rw [rowOf_size]; omega)]
theorem rowOf_made (n : Nat) : madeCells #[.int .i64 0] n = rowOf n fun _ => 0 := by
  apply Array.toList_inj.1
  rw [toList_madeCells_one]
  unfold rowOf
  simp [List.map_const']
theorem info_ints2 : (Tryd.prog.info? 3).map (fun i => (i.zero, i.size, i.bytes)) = some (some (.int .i64 0), 1, 8) := by kernel_rfl
theorem make_rowOf (n : Nat) (hn : n ≤ 1000000) (w : World) :
    (Instr.makeSlice 35 (.int .i64 (n : Int)) (.int .i64 (n : Int))).run Tryd.prog w = .ok (.slice (some ⟨w.heap.size, 0, none⟩) n n) (w.alloc (.cells (rowOf n fun _ => 0) 3)) := by
  rw [← rowOf_made]
  exact run_make_row' 35 3 (.int .i64 0) 8 Tryd.underlying35 info_ints2 rfl .i64 .i64 n (by omega) (by omega) w
theorem info_node2 : (Tryd.prog.info? 37).map (fun i => (i.zero, i.size, i.bytes)) = some (some (.agg #[.int .i64 0, .string ⟨#[]⟩, .slice none 0 0, .int .i64 0]), 4, 56) := by kernel_rfl
theorem make_nodes (n : Nat) (hn : n ≤ 1000000) (w : World) : ∃ cur : Array Value, cur.size = n * 4 ∧
    (Instr.makeSlice 22 (.int .i64 (n : Int)) (.int .i64 (n : Int))).run Tryd.prog w = .ok (.slice (some ⟨w.heap.size, 0, none⟩) n n) (w.alloc (.cells cur 37)) := by
  obtain ⟨i0, hi, hz0, hz1, hz2⟩ := info_parts info_node2
  have h := run_make (P := Tryd.prog) w 22 37 i0 _ Tryd.underlying22 hi hz0 .i64 .i64 (n : Int) (n : Int) (by omega) (Int.le_refl _) (by rw [hz2]; omega) (by omega)
  rw [Int.toNat_natCast, hz1] at h
  exact ⟨_, size_madeCells _ _, h⟩
/-- What the row of new places holds, when the first t are told. -/
def nowF (ns : List Nd) (i t : Nat) (j : Nat) : Nat := if j ∈ (srt ns i).take t then rank ns i j else 0
theorem nowF_next {ns : List Nd} (tp : TreeP ns) {i : Nat} (hi : i < ns.length) {t : Nat} (h : t < (srt ns i).length) : (fun j => if j = (srt ns i)[t] then t else nowF ns i t j) = nowF ns i (t + 1) := by
  funext j
  unfold nowF
  rw [List.take_succ_eq_append_getElem h]
  by_cases e : j = (srt ns i)[t]
  · rw [if_pos e, if_pos (List.mem_append.2 (.inr (List.mem_singleton.2 e))), e, rank_at tp hi h]
  · rw [if_neg e]
    by_cases h2 : j ∈ (srt ns i).take t
    · rw [if_pos h2, if_pos (List.mem_append.2 (.inl h2))]
    · rw [if_neg h2, if_neg (fun h3 => (List.mem_append.1 h3).elim h2 (fun h4 => e (List.mem_singleton.1 h4)))]
theorem srt_lt {ns : List Nd} {i s t : Nat} (hs : s < (srt ns i).length) (ht : t < (srt ns i).length) (h : (srt ns i)[s] < (srt ns i)[t]) : s < t := by
  rcases Nat.lt_trichotomy s t with h1 | h1 | h1
  · exact h1
  · subst h1; omega
  · have := List.pairwise_iff_getElem.1 (srt_up ns i) t s ht hs h1
    omega
/-- A kid's place is told ahead of its node's. -/
theorem now_kid {ns : List Nd} (tp : TreeP ns) {i : Nat} {t : Nat} (h : t < (srt ns i).length) {x : Int} (hx : x ∈ kidsAt ns (srt ns i)[t]) : nowF ns i (t + 1) x.toNat = rank ns i x.toNat := by
  have h1 := kids_in tp _ x hx
  have hm := (mem_srt.1 (List.getElem_mem h)).2
  have hk := kid_in tp hm hx
  have hxs : x.toNat ∈ srt ns i := mem_srt.2 ⟨part_le tp hk, hk⟩
  obtain ⟨s, hs, e⟩ := List.getElem_of_mem hxs
  have hst := srt_lt hs h (by rw [e]; omega)
  unfold nowF
  rw [if_pos]
  rw [List.mem_iff_getElem]
  exact ⟨s, by rw [List.length_take]; omega, by rw [List.getElem_take]; exact e⟩
/-- A node of the cut, in memory: its row of kids lies in a block of its own. -/
def NdC (w : World) (nb cb : Nat) (cur : Array Value) (s : Nat) (nd : Nd) : Prop :=
  cur[s * 4]? = some (.int .i64 nd.kind) ∧ cur[s * 4 + 1]? = some (.string nd.text) ∧
  (∃ kb cs, cur[s * 4 + 2]? = some (.slice (some ⟨kb, 0, none⟩) nd.kids.length nd.kids.length) ∧ kb ≠ nb ∧ kb ≠ cb ∧ BlockAt w kb cs 3 ∧ ∀ j, j < nd.kids.length → cs[j]? = some (.int .i64 (nd.kids.getD j 0))) ∧
  cur[s * 4 + 3]? = some (.int .i64 nd.place)
/-- All but two blocks are as they were. -/
def Kp (nb cb : Nat) (w w' : World) : Prop := w.heap.size ≤ w'.heap.size ∧ ∀ b, b < w.heap.size → b ≠ nb → b ≠ cb → w'.heap[b]? = w.heap[b]?
theorem Kp.refl (nb cb : Nat) (w : World) : Kp nb cb w w := ⟨Nat.le_refl _, fun _ _ _ _ => rfl⟩
theorem Kp.alloc {nb cb : Nat} {w w' : World} (h : Kp nb cb w w') (o : Obj) : Kp nb cb w (w'.alloc o) :=
  ⟨by have := h.1; simp; omega, fun b hb h1 h2 => by rw [Below.heap_alloc _ _ _ (by have := h.1; omega)]; exact h.2 b hb h1 h2⟩
theorem Kp.two {nb cb : Nat} {w w' : World} (h : Kp nb cb w w') {b : Nat} (hb : b = nb ∨ b = cb ∨ w.heap.size ≤ b) (k : Nat) (v : Value) : Kp nb cb w (w'.setCell ⟨b, k, none⟩ v) :=
  ⟨by have := h.1; simpa using this, fun c hc h1 h2 => by rw [Below.heap_setCell _ _ _ _ (show c ≠ b by rcases hb with e | e | e <;> omega)]; exact h.2 c hc h1 h2⟩
theorem NdC.kept {w w' : World} {nb cb : Nat} {cur cur' : Array Value} {s : Nat} {nd : Nd} (h : NdC w nb cb cur s nd) (hk : Kp nb cb w w') (hc : ∀ d, d < 4 → cur'[s * 4 + d]? = cur[s * 4 + d]?) : NdC w' nb cb cur' s nd := by
  obtain ⟨h0, h1, ⟨kb, cs, h2, n1, n2, hb, hr⟩, h3⟩ := h
  exact ⟨by rw [← h0]; exact hc 0 (by omega), by rw [← h1]; exact hc 1 (by omega), ⟨kb, cs, by rw [← h2]; exact hc 2 (by omega), n1, n2, (by show w'.heap[kb]? = _; rw [hk.2 kb hb.lt n1 n2]; exact hb), hr⟩, by rw [← h3]; exact hc 3 (by omega)⟩
/-- The first t nodes of the cut are there. -/
def CutTo (w : World) (nb cb n : Nat) (ms : List Nd) (t : Nat) (cur : Array Value) : Prop := cur.size = n * 4 ∧ ∀ s (h : s < ms.length), s < t → NdC w nb cb cur s ms[s]
theorem set4_other (cur : Array Value) (t s : Nat) (h : s ≠ t) (x0 x1 x2 x3 : Value) (d : Nat) (hd : d < 4) :
    ((((cur.setIfInBounds (t * 4) x0).setIfInBounds (t * 4 + 1) x1).setIfInBounds (t * 4 + 2) x2).setIfInBounds (t * 4 + 3) x3)[s * 4 + d]? = cur[s * 4 + d]? := by
  rw [Array.getElem?_setIfInBounds_ne (by omega), Array.getElem?_setIfInBounds_ne (by omega), Array.getElem?_setIfInBounds_ne (by omega), Array.getElem?_setIfInBounds_ne (by omega)]
theorem set4_same (cur : Array Value) (t : Nat) (h : t * 4 + 3 < cur.size) (x0 x1 x2 x3 : Value) :
    ((((cur.setIfInBounds (t * 4) x0).setIfInBounds (t * 4 + 1) x1).setIfInBounds (t * 4 + 2) x2).setIfInBounds (t * 4 + 3) x3)[t * 4]? = some x0 ∧
    ((((cur.setIfInBounds (t * 4) x0).setIfInBounds (t * 4 + 1) x1).setIfInBounds (t * 4 + 2) x2).setIfInBounds (t * 4 + 3) x3)[t * 4 + 1]? = some x1 ∧
    ((((cur.setIfInBounds (t * 4) x0).setIfInBounds (t * 4 + 1) x1).setIfInBounds (t * 4 + 2) x2).setIfInBounds (t * 4 + 3) x3)[t * 4 + 2]? = some x2 ∧
    ((((cur.setIfInBounds (t * 4) x0).setIfInBounds (t * 4 + 1) x1).setIfInBounds (t * 4 + 2) x2).setIfInBounds (t * 4 + 3) x3)[t * 4 + 3]? = some x3 := by
  refine ⟨?_, ?_, ?_, ?_⟩
  · rw [Array.getElem?_setIfInBounds_ne (by omega), Array.getElem?_setIfInBounds_ne (by omega), Array.getElem?_setIfInBounds_ne (by omega), Array.getElem?_setIfInBounds_self_of_lt (by omega)]
  · rw [Array.getElem?_setIfInBounds_ne (by omega), Array.getElem?_setIfInBounds_ne (by omega), Array.getElem?_setIfInBounds_self_of_lt (by simp; omega)]
  · rw [Array.getElem?_setIfInBounds_ne (by omega), Array.getElem?_setIfInBounds_self_of_lt (by simp; omega)]
  · rw [Array.getElem?_setIfInBounds_self_of_lt (by simp; omega)]
theorem CutTo.push {w w' : World} {nb cb n t : Nat} {ms : List Nd} {cur : Array Value} (h : CutTo w nb cb n ms t cur) (hk : Kp nb cb w w') (ht : t < n) {nd : Nd} (hm : ms[t]? = some nd) {kb : Nat} {cs : Array Value} (n1 : kb ≠ nb) (n2 : kb ≠ cb) (hb : BlockAt w' kb cs 3)
    (hr : ∀ j, j < nd.kids.length → cs[j]? = some (.int .i64 (nd.kids.getD j 0))) :
    CutTo w' nb cb n ms (t + 1) ((((cur.setIfInBounds (t * 4) (.int .i64 nd.kind)).setIfInBounds (t * 4 + 1) (.string nd.text)).setIfInBounds (t * 4 + 2) (.slice (some ⟨kb, 0, none⟩) nd.kids.length nd.kids.length)).setIfInBounds (t * 4 + 3) (.int .i64 nd.place)) := by
  obtain ⟨hs, hn⟩ := h
  refine ⟨by simpa using hs, fun s hsm hst => ?_⟩
  rcases Nat.lt_or_eq_of_le (Nat.le_of_lt_succ hst) with h1 | h1
  · exact (hn s hsm h1).kept hk fun d hd => set4_other cur t s (by omega) _ _ _ _ d hd
  · subst h1
    obtain ⟨_, rfl⟩ := List.getElem?_eq_some_iff.1 hm
    obtain ⟨e0, e1, e2, e3⟩ := set4_same cur s (by omega) (.int .i64 ms[s].kind) (.string ms[s].text) (.slice (some ⟨kb, 0, none⟩) ms[s].kids.length ms[s].kids.length) (.int .i64 ms[s].place)
    exact ⟨e0, e1, ⟨kb, cs, e2, n1, n2, hb, hr⟩, e3⟩
theorem CutTo.nds {w : World} {nb cb n t : Nat} {ms : List Nd} {cur : Array Value} (h : CutTo w nb cb n ms t cur) (hb : BlockAt w cb cur 37) (hn : ms.length = n) (ht : n ≤ t) : Nds w (.slice (some ⟨cb, 0, none⟩) n n) ms := by
  refine ⟨some ⟨cb, 0, none⟩, n, by rw [hn], by omega, .inr ⟨cb, 0, rfl, hb.lt, fun s hs => ?_⟩⟩
  obtain ⟨h0, h1, ⟨kb, cs, h2, n1, n2, hbk, hr⟩, h3⟩ := h.2 s hs (by omega)
  refine ⟨by rw [Nat.zero_add, hb.cell]; exact h0, by rw [Nat.zero_add, hb.cell]; exact h1, ⟨_, _, by rw [Nat.zero_add, hb.cell]; exact h2, Nat.le_refl _, .inr ⟨kb, 0, rfl, hbk.lt, fun j hj => by rw [Nat.zero_add, hbk.cell]; exact hr j hj⟩⟩, by rw [Nat.zero_add, hb.cell]; exact h3⟩
end Go.Proofs.YtfcoelnibpinmaaDoor
