import Derived.Test.YtkmnfkhchcoamaaGreatDoorRows
import Derived.Lib.AppendStr
import Derived.Lib.ConvBytes
import Derived.Lib.UnsafeStr
import Derived.ArgAppend
import Derived.Deep.Upon
import Derived.Deep.MidRow
import Derived.Laws.IdiomStrings
import Derived.Below
import Derived.Laws.BytesArg
/- Rows of bytes of the call's own, told by their cells (a converted string's row bears a mark behind its end): append. -/
namespace Go.Proofs.YtkmnfkhchcoamaaGreatDoor
open Go Go.RowKit

/-- The slice v holds the bytes xs, in a block of the call's own (from base on). -/
def RowC (w : World) (base : Nat) (v : Value) (n : Nat) (xs : List Value) : Prop :=
  ∃ g cap, v = .slice (some ⟨g, 0, none⟩) n cap ∧ base ≤ g ∧ g < w.heap.size ∧ n ≤ cap ∧ cap ≤ maxLen ∧ xs.length = n ∧
    (∀ j u, xs[j]? = some u → w.cell? ⟨g, j, none⟩ = some u) ∧ ∀ j, j < cap → (w.cell? ⟨g, j, none⟩).isSome = true ∧ w.frozen? ⟨g, j, none⟩ = false
theorem addr_plus (g j : Nat) : (⟨g, 0, none⟩ : Addr).add j = ⟨g, j, none⟩ := by unfold Addr.add; split <;> simp_all
theorem RowC.carry {w w' : World} {base : Nat} {v : Value} {n : Nat} {xs : List Value} (h : RowC w base v n xs) (hs : w.heap.size ≤ w'.heap.size) (hb : ∀ g, v.ownBlock = some g → w'.heap[g]? = w.heap[g]?) : RowC w' base v n xs := by
  obtain ⟨g, cap, rfl, h1, h2, h3, h4, h5, h6, h7⟩ := h
  have e := hb g rfl
  refine ⟨g, cap, rfl, h1, Nat.lt_of_lt_of_le h2 hs, h3, h4, h5, fun j u hu => ?_, fun j hj => ?_⟩
  · exact (World.cell?_of_block (a := ⟨g, j, none⟩) e).trans (h6 j u hu)
  · exact ⟨by rw [World.cell?_of_block (a := ⟨g, j, none⟩) e]; exact (h7 j hj).1, (World.frozen?_of_block (a := ⟨g, j, none⟩) e).trans (h7 j hj).2⟩
theorem RowC.lt {w : World} {base : Nat} {v : Value} {n : Nat} {xs : List Value} (h : RowC w base v n xs) : ∀ k, v.ownBlock = some k → base ≤ k ∧ k < w.heap.size := by
  obtain ⟨g, cap, rfl, h1, h2, -⟩ := h
  intro k hk
  simp [Value.ownBlock] at hk
  subst hk
  exact ⟨h1, h2⟩
theorem RowC.below {w w' : World} {base : Nat} {v : Value} {n : Nat} {xs : List Value} (h : RowC w base v n xs) (hb : Below w.heap.size w w') : RowC w' base v n xs :=
  h.carry hb.size (fun g hg => hb.block g (h.lt g hg).2)
theorem RowC.alloc {w : World} {base : Nat} {v : Value} {n : Nat} {xs : List Value} (h : RowC w base v n xs) (o : Obj) : RowC (w.alloc o) base v n xs :=
  h.below ((Below.refl _ _).alloc (Nat.le_refl _) _)
theorem RowC.mono {w : World} {base base' : Nat} {v : Value} {n : Nat} {xs : List Value} (h : RowC w base v n xs) (hb : base' ≤ base) : RowC w base' v n xs := by
  obtain ⟨g, cap, h0, h1, h2⟩ := h
  exact ⟨g, cap, h0, Nat.le_trans hb h1, h2⟩
theorem RowC.slice {w : World} {base : Nat} {v : Value} {n : Nat} {xs : List Value} (h : RowC w base v n xs) : ∃ ao cap, v = .slice ao n cap := by
  obtain ⟨g, cap, rfl, -⟩ := h
  exact ⟨_, _, rfl⟩
theorem rowC_of_own {w : World} {base : Nat} {e : TypeId} {v : Value} {n : Nat} {xs : List Value} (h : w.ownsRow base e 1 v n xs) (hv : v ≠ .slice none 0 0) : RowC w base v n xs := by
  have hc := fun g hg => h.cells (g := g) hg
  obtain ⟨h1, h2⟩ := h
  rcases h2 with ⟨rfl, -⟩ | ⟨g, cap, cur, rfl, hb, hcur, hcap1, hcap2, hcs, htk⟩
  · exact absurd rfl hv
  · refine ⟨g, cap, rfl, hb, (Array.getElem?_eq_some_iff.1 hcur).1, hcap1, hcap2, by rw [h1, Nat.mul_one], fun j u hu => by have := hc g rfl j u hu; rwa [addr_plus] at this, fun j hj => ⟨?_, ?_⟩⟩
    · simp only [World.cell?, hcur, Option.isSome_none, Bool.false_eq_true, if_false]
      rw [Array.getElem?_eq_getElem (by omega)]
      rfl
    · simp [World.frozen?, hcur]
/-- A converted string's row. -/
theorem rowC_conv (w : World) (e : TypeId) (s : ByteArray) (base : Nat) (hb : base ≤ w.heap.size) (hs : s.size ≤ 140737488355328) :
    RowC (Lib.bytesWorld w e s) base (.slice (some ⟨w.heap.size, 0, none⟩) s.size (grownCap w s.size 0 e)) s.size (Lib.byteCells s.data.toList) := by
  have hnew := Lib.bytesWorld_at_new w e s
  have hge := grownCap_ge w s.size 0 e
  have hcs : (Lib.bytesCells w e s).size = grownCap w s.size 0 e := by simp [Lib.bytesCells]; omega
  refine ⟨w.heap.size, _, rfl, hb, by rw [Lib.bytesWorld_size]; omega, hge, grownCap_le_maxLen w s.size 0 e (by unfold maxLen; omega), by rw [Lib.byteCells_length]; simp, fun j u hu => ?_, fun j hj => ⟨?_, ?_⟩⟩
  · have hj : j < s.size := by
      have := (List.getElem?_eq_some_iff.1 hu).1
      rw [Lib.byteCells_length] at this
      simpa using this
    rw [Lib.bytesWorld_cell w e s j hj]
    have hj2 : j < s.data.toList.length := by simpa using hj
    simp only [Lib.byteCells, List.getElem?_map, List.getElem?_eq_getElem hj2, Option.map_some] at hu
    rw [← hu, List.getD_eq_getElem?_getD, List.getElem?_eq_getElem hj2]
    rfl
  · simp only [World.cell?, hnew, Option.isSome_none, Bool.false_eq_true, if_false]
    rw [Array.getElem?_eq_getElem (by omega)]
    rfl
  · simp [World.frozen?, hnew]
    omega
section
variable {P : Program} (w : World)
theorem heap_setCells_size : ∀ (vs : List Value) (g o : Nat) (w : World), (w.setCells g o vs).heap.size = w.heap.size
  | [], _, _, _ => rfl
  | v :: r, g, o, w => by
    show ((w.setCell ⟨g, o, none⟩ v).setCells g (o + 1) r).heap.size = _
    rw [heap_setCells_size r]
    simp [World.setCell]
theorem tape_setCells : ∀ (vs : List Value) (g o : Nat) (w : World), (w.setCells g o vs).tape = w.tape
  | [], _, _, _ => rfl
  | v :: r, g, o, w => by
    show ((w.setCell ⟨g, o, none⟩ v).setCells g (o + 1) r).tape = _
    rw [tape_setCells r]
    rfl
/-- What a row becomes, in place. -/
theorem rowC_room {base g n cap m : Nat} {xs news : List Value} (h : RowC w base (.slice (some ⟨g, 0, none⟩) n cap) n xs) (hm : news.length = m) (hroom : n + m ≤ cap) :
    RowC (w.setCells g n news) base (.slice (some ⟨g, 0, none⟩) (n + m) cap) (n + m) (xs ++ news) ∧ w.grownBy (w.setCells g n news) (some g) := by
  obtain ⟨g', cap', hv, h1, h2, h3, h4, h5, h6, h7⟩ := h
  have hv' := hv
  simp only [Value.slice.injEq, Option.some.injEq, Addr.mk.injEq] at hv
  obtain ⟨⟨rfl, -⟩, -, rfl⟩ := hv
  refine ⟨⟨g, cap, rfl, h1, by rw [heap_setCells_size]; exact h2, hroom, h4, by rw [List.length_append, h5, hm], fun j u hu => ?_, fun j hj => ⟨World.isSome_setCells g _ _ _ _ (h7 j hj).1, (World.frozen?_setCells g _ _ _ _).trans (h7 j hj).2⟩⟩,
    ⟨World.os_setCells w g n news, tape_setCells _ _ _ _, World.output_setCells w g n news, by rw [heap_setCells_size]; exact Nat.le_refl _, fun k hk hne => World.heap_setCells_other w g n news hk (fun e => hne (by rw [e]))⟩⟩
  by_cases hj : j < n
  · rw [List.getElem?_append_left (by omega)] at hu
    rw [World.cell?_setCells_out g _ _ _ _ (fun _ _ => Or.inl hj)]
    exact h6 j u hu
  · rw [List.getElem?_append_right (by omega), h5] at hu
    have hlt := (List.getElem?_eq_some_iff.1 hu).1
    have := World.cell?_setCells_in g news n w (fun i hi => (h7 (n + i) (by omega)).1) (j - n) hlt
    rw [show n + (j - n) = j by omega] at this
    rw [this]
    rw [List.getElem?_eq_getElem hlt] at hu
    exact hu
variable {i : TypeInfo} {t e : TypeId}
/-- Cells, appended. -/
theorem run_append_C (ty : TypeId) (base : Nat) (ht : P.underlying t = some (.slice e)) (hi : P.info? e = some i) (hz : i.zero = some (.int .u8 0)) (hsize : i.size = 1) (hby : i.bytes = 1)
    (v : Value) (n : Nat) (xs : List Value) (h : RowC w base v n xs) (a : Addr) (m c : Nat) (news : List Value) (hl : news.length = m) (hnews : ∀ j u, news[j]? = some u → w.cell? (a.add j) = some u) (h1 : ∀ u ∈ news, u.oneCell' = true)
    (hbytes : n + m ≤ 140737488355328) (hbase : base ≤ w.heap.size) :
    ∃ v' w', (Builtin.append_ #[t, t] ty #[v, .slice (some a) m c]).run P w = .ok v' w' ∧ RowC w' base v' (n + m) (xs ++ news) ∧ w.grownBy w' v.ownBlock := by
  have h0 := h
  obtain ⟨g, cap, rfl, g1, g2, g3, g4, g5, g6, g7⟩ := h
  by_cases hroom : n + m ≤ cap
  · have hr := run_append_room_cells (P := P) w t ty e i ht hi g 0 n cap a m c news (by rw [hsize, hl, Nat.mul_one]) hnews h1 hroom
      (fun j hj => by rw [hsize, Nat.mul_one, Nat.zero_add]; exact (g7 (n + j) (by omega)).1) (fun j hj => by rw [hsize, Nat.mul_one, Nat.zero_add]; exact (g7 (n + j) (by omega)).2)
    rw [hsize, Nat.mul_one, Nat.zero_add] at hr
    have k := rowC_room w h0 hl hroom
    exact ⟨_, _, hr, k.1, k.2⟩
  · have hr := run_append_grow (P := P) w t ty e i (.int .u8 0) ht hi hz ⟨g, 0, none⟩ n cap xs (by rw [hsize, g5, Nat.mul_one]) (fun j u hu => by rw [addr_plus]; exact g6 j u hu) a m c news (by rw [hsize, hl, Nat.mul_one]) hnews (by omega) (by omega)
      (by rw [hby]; exact growslice_fits (by omega) (by omega))
    refine ⟨_, _, hr, rowC_of_own (e := e) ⟨by rw [List.length_append, g5, hl, Nat.mul_one], .inr ⟨w.heap.size, _, _, rfl, hbase, heap_alloc_new w.drew _, grownCap_ge _ _ _ _, grownCap_le_maxLen _ _ _ _ (by unfold maxLen; omega), ?_, ?_⟩⟩ (by simp),
      ⟨rfl, rfl, rfl, by simp, fun k hk _ => heap_alloc_old w.drew _ k hk⟩⟩
    · have hge := grownCap_ge w (n + m) cap e
      have hz1 : (Value.int IntKind.u8 0).cells.size = 1 := rfl
      simp only [Array.size_append, List.size_toArray, size_zeroCells, hz1, g5, hl]
      omega
    · simp only [Array.toList_append, List.append_assoc]
      rw [← List.append_assoc, Nat.mul_one, show n + m = (xs ++ news).length by rw [List.length_append, g5, hl]]
      exact List.take_left
/-- A string's bytes, appended. -/
theorem run_append_CS (ty : TypeId) {u : TypeId} (base : Nat) (ht : P.underlying t = some (.slice e)) (hu : P.underlying u = some .string) (hi : P.info? e = some i) (hz : i.zero = some (.int .u8 0)) (hsize : i.size = 1) (hby : i.bytes = 1)
    (v : Value) (n : Nat) (xs : List Value) (h : RowC w base v n xs) (s : ByteArray) (hbytes : n + s.size ≤ 140737488355328) (hbase : base ≤ w.heap.size) :
    ∃ v' w', (Builtin.append_ #[t, u] ty #[v, .string s]).run P w = .ok v' w' ∧ RowC w' base v' (n + s.size) (xs ++ Lib.strCells s) ∧ w.grownBy w' v.ownBlock := by
  have h0 := h
  obtain ⟨g, cap, rfl, g1, g2, g3, g4, g5, g6, g7⟩ := h
  have hl := Lib.strCells_length s
  by_cases hroom : n + s.size ≤ cap
  · have hf := Lib.run_firstCells_string (P := P) w 1 s
    have hst := run_storeCells_cells (P := P) g n (Lib.strCells s) 0 w (fun j hj => by rw [Nat.add_zero]; exact (g7 (n + j) (by omega)).1) (fun j hj => by rw [Nat.add_zero]; exact (g7 (n + j) (by omega)).2) (Lib.strCells_oneCell s)
    have k := rowC_room w h0 hl hroom
    refine ⟨_, _, ?_, k.1, k.2⟩
    simp [Builtin.append_, run_underlying ht, run_underlying hu, sizeOf, typeInfo, hi, hsize, Builtin.lenOf, hroom, hf, Addr.add_lit, hst]
  · have hr := Lib.run_append_grow_string (P := P) w t u ty e i (.int .u8 0) ht hu hi hz ⟨g, 0, none⟩ n cap xs (by rw [hsize, g5, Nat.mul_one]) (fun j u hu => by rw [addr_plus]; exact g6 j u hu) s (by omega) (by omega) (by rw [hby]; exact growslice_fits (by omega) (by omega))
    refine ⟨_, _, hr, rowC_of_own (e := e) ⟨by rw [List.length_append, g5, hl, Nat.mul_one], .inr ⟨w.heap.size, _, _, rfl, hbase, heap_alloc_new w.drew _, grownCap_ge _ _ _ _, grownCap_le_maxLen _ _ _ _ (by unfold maxLen; omega), ?_, ?_⟩⟩ (by simp),
      ⟨rfl, rfl, rfl, by simp, fun k hk _ => heap_alloc_old w.drew _ k hk⟩⟩
    · have hge := grownCap_ge w (n + s.size) cap e
      have hz1 : (Value.int IntKind.u8 0).cells.size = 1 := rfl
      simp only [Array.size_append, List.size_toArray, size_zeroCells, hz1, g5, hl]
      omega
    · simp only [Array.toList_append, List.append_assoc]
      rw [← List.append_assoc, Nat.mul_one, show n + s.size = (xs ++ Lib.strCells s).length by rw [List.length_append, g5, hl]]
      exact List.take_left
theorem wpList_append_C {ops : Array Oper} {rest : List Oper} {o : Oper} {a : Act} {Q : Exit → Act → World → Prop} (hgd : o.guard = none) (s x : Operand)
    (ho : o.op = .call { callee := .builtin .append, args := #[s, x], argTypes := #[t, t] }) (base : Nat) (ht : P.underlying t = some (.slice e)) (hi : P.info? e = some i) (hz : i.zero = some (.int .u8 0)) (hsize : i.size = 1) (hby : i.bytes = 1)
    (v : Value) (n : Nat) (xs : List Value) (hs : a.eval s = v) (h : RowC w base v n xs) (ad : Addr) (m c : Nat) (news : List Value) (hx : a.eval x = .slice (some ad) m c) (hl : news.length = m)
    (hnews : ∀ j u, news[j]? = some u → w.cell? (ad.add j) = some u) (h1 : ∀ u ∈ news, u.oneCell' = true) (hbytes : n + m ≤ 140737488355328) (hbase : base ≤ w.heap.size)
    (hK : ∀ v' w', RowC w' base v' (n + m) (xs ++ news) → w.grownBy w' v.ownBlock → wpList P ops Q rest (a.put o.dst v') w') : wpList P ops Q (o :: rest) a w := by
  refine wpList_plain hgd fun K hK' => ?_
  obtain ⟨v', w', hr, h2, h3⟩ := run_append_C (P := P) w o.type base ht hi hz hsize hby v n xs h ad m c news hl hnews h1 hbytes hbase
  unfold Oper.wp execOp
  simp only [ho, resolve, invoke, builtin, Sem.run_bind, Sem.run_pure, Result.andThen_ok, List.map_toArray, List.map_cons, List.map_nil, hs, hx, hr]
  exact hK' _ _ (hK v' w' h2 h3)
theorem wpList_append_CS {ops : Array Oper} {rest : List Oper} {o : Oper} {a : Act} {Q : Exit → Act → World → Prop} (hgd : o.guard = none) (sl x : Operand) {u : TypeId}
    (ho : o.op = .call { callee := .builtin .append, args := #[sl, x], argTypes := #[t, u] }) (base : Nat) (ht : P.underlying t = some (.slice e)) (hu : P.underlying u = some .string) (hi : P.info? e = some i) (hz : i.zero = some (.int .u8 0)) (hsize : i.size = 1) (hby : i.bytes = 1)
    (v : Value) (n : Nat) (xs : List Value) (hs : a.eval sl = v) (h : RowC w base v n xs) (s : ByteArray) (hx : a.eval x = .string s) (hbytes : n + s.size ≤ 140737488355328) (hbase : base ≤ w.heap.size)
    (hK : ∀ v' w', RowC w' base v' (n + s.size) (xs ++ Lib.strCells s) → w.grownBy w' v.ownBlock → wpList P ops Q rest (a.put o.dst v') w') : wpList P ops Q (o :: rest) a w := by
  refine wpList_plain hgd fun K hK' => ?_
  obtain ⟨v', w', hr, h2, h3⟩ := run_append_CS (P := P) w o.type base ht hu hi hz hsize hby v n xs h s hbytes hbase
  unfold Oper.wp execOp
  simp only [ho, resolve, invoke, builtin, Sem.run_bind, Sem.run_pure, Result.andThen_ok, List.map_toArray, List.map_cons, List.map_nil, hs, hx, hr]
  exact hK' _ _ (hK v' w' h2 h3)
end
/-- Read as a text. -/
theorem RowC.text {w : World} {base : Nat} {v : Value} {l : List UInt8} (h : RowC w base v l.length (Lib.byteCells l)) : (convert 113 9 v).run Tryz.prog w = .ok (.string ⟨l.toArray⟩) w := by
  obtain ⟨g, cap, rfl, g1, g2, g3, g4, g5, g6, g7⟩ := h
  refine run_convert_bytes_back w 113 9 5 ⟨g, 0, none⟩ cap l Tryz.underlying113 Tryz.underlying5 Tryz.underlying9 (fun j hj => ?_)
  rw [addr_plus]
  exact g6 j _ (by simp [Lib.byteCells, hj])
end Go.Proofs.YtkmnfkhchcoamaaGreatDoor

