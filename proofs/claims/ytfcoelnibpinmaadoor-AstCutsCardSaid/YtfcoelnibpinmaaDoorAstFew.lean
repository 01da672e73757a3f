/- The law's own few. -/
import Derived.Test.YtfcoelnibpinmaaDoorAstLike2
import Derived.Test.YtfcoelnibpinmaaDoorRegG
import Derived.Maps.AppendAt
import Derived.Laws.AppendOwn
import Derived.Deep.DeepCutAuto
namespace Go.Proofs.YtfcoelnibpinmaaDoor
open Go.RowKit
set_option linter.unusedSimpArgs false

theorem info_node : (Tryd.prog.info? 37).map (fun i => (i.zero, i.size, i.bytes)) = some (some (.agg #[.int .i64 0, .string ⟨#[]⟩, .slice none 0 0, .int .i64 0]), 4, 56) := by kernel_rfl
/-- A node's cells, as a list. -/
def ndCells (n : Nd) (ka : Option Addr) (kc : Nat) : List Value := [.int .i64 n.kind, .string n.text, .slice ka n.kids.length kc, .int .i64 n.place]
/-- What is told of the nodes that were appended: their cells, and their kids. -/
def FewP (w : World) (k : Nat) (xs : List Value) : Prop := ∃ f : Nat → Nd × Option Addr × Nat, ∀ j, j < k → (xs.drop (j * 4)).take 4 = ndCells (f j).1 (f j).2.1 (f j).2.2 ∧ (f j).1.kids.length ≤ 60 ∧ (f j).1.kids.length ≤ (f j).2.2 ∧ IRow w (f j).2.1 (f j).1.kids
theorem few_below {w wr w1 : World} {v : Value} {k : Nat} {xs cs ds : List Value} (h : wr.ownsRow w.heap.size 37 4 v k xs) (B : Below w.heap.size w wr)
    (hg : ((wr.alloc (.cells cs.toArray 37)).drew.alloc (.cells ds.toArray 37)).grownBy w1 v.ownBlock) : Below w.heap.size w w1 := by
  have b1 : Below w.heap.size w (wr.alloc (.cells cs.toArray 37)).drew := (B.alloc B.size _).drew
  have b2 := b1.alloc b1.size (.cells ds.toArray 37)
  exact b2.grown hg (by have := b2.size; simpa using this) (fun g hgk => (h.lt g hgk).1)
theorem few_step {w : World} {k : Nat} {xs : List Value} (hl : xs.length = k * 4) (h : FewP w k xs) (nd : Nd) (ka : Option Addr) (kc p : Nat) (hp : nd.kids.length = p) (h60 : nd.kids.length ≤ 60) (hk : nd.kids.length ≤ kc) (hr : IRow w ka nd.kids) :
    FewP w (k + 1) (xs ++ [.int .i64 nd.kind, .string nd.text, .slice ka p kc, .int .i64 nd.place]) := by
  subst hp
  obtain ⟨f, hf⟩ := h
  refine ⟨fun j => if j < k then f j else (nd, ka, kc), fun j hj => ?_⟩
  by_cases hjk : j < k
  · simp only [if_pos hjk]
    obtain ⟨h1, h2⟩ := hf j hjk
    refine ⟨?_, h2⟩
    rw [List.drop_append_of_le_length (by omega), List.take_append_of_le_length (by simp; omega)]
    exact h1
  · obtain rfl : j = k := by omega
    simp only [if_neg hjk]
    refine ⟨?_, h60, hk, hr⟩
    rw [← hl, List.drop_left]
    rfl
theorem nds_own {w' : World} {base : Nat} {v : Value} {k : Nat} {xs : List Value} (h : w'.ownsRow base 37 4 v k xs) (f : Nat → Nd × Option Addr × Nat)
    (hf : ∀ j, j < k → (xs.drop (j * 4)).take 4 = ndCells (f j).1 (f j).2.1 (f j).2.2 ∧ (f j).1.kids.length ≤ (f j).2.2 ∧ IRow w' (f j).2.1 (f j).1.kids) : Nds w' v ((List.range k).map fun j => (f j).1) := by
  have e1 : ((List.range k).map fun j => (f j).1).length = k := by simp
  obtain ⟨hx, h | ⟨g, cap, cur, rfl, hg, hcur, hc1, hc2, hcs, htk⟩⟩ := h
  · obtain ⟨rfl, rfl⟩ := h
    exact ⟨none, 0, rfl, Nat.le_refl _, .inl rfl⟩
  · refine ⟨some ⟨g, 0, none⟩, cap, by rw [e1], by rw [e1]; exact hc1, .inr ⟨g, 0, rfl, (Array.getElem?_eq_some_iff.1 hcur).1, fun i hi => ?_⟩⟩
    rw [e1] at hi
    obtain ⟨h1, h2, h3⟩ := hf i hi
    have hcell : ∀ d, d < 4 → w'.cell? ⟨g, 0 + i * 4 + d, none⟩ = (ndCells (f i).1 (f i).2.1 (f i).2.2)[d]? := fun d hd => by
      rw [← h1, List.getElem?_take_of_lt hd, List.getElem?_drop, ← htk, List.getElem?_take_of_lt (by omega)]
      simp [World.cell?, hcur]
    simp only [List.getElem_map, List.getElem_range]
    exact ⟨hcell 0 (by omega), hcell 1 (by omega), ⟨_, _, hcell 2 (by omega), h2, h3⟩, hcell 3 (by omega)⟩
theorem few_end {w wr : World} {v : Value} {k : Nat} {xs : List Value} (h : wr.ownsRow w.heap.size 37 4 v k xs) (hf : FewP w k xs) (B : Below w.heap.size w wr) (hk : k ≤ 120) :
    ∃ v' ms, Ending.returned v = .returned v' ∧ Nds wr v' ms ∧ ms.length ≤ 120 ∧ ∀ n ∈ ms, n.kids.length ≤ 60 := by
  obtain ⟨f, hf⟩ := hf
  refine ⟨v, (List.range k).map fun j => (f j).1, rfl, nds_own h f (fun j hj => ⟨(hf j hj).1, (hf j hj).2.2.1, (hf j hj).2.2.2.below B⟩), by simpa using hk, fun n hn => ?_⟩
  obtain ⟨j, hj, rfl⟩ := List.mem_map.1 hn
  exact (hf j (List.mem_range.1 hj)).2.1
theorem cell_new4 (w : World) (x0 x1 x2 x3 : Value) (t : TypeId) : ∀ (j : Nat) (u : Value), [x0, x1, x2, x3][j]? = some u → (w.alloc (.cells #[x0, x1, x2, x3] t)).cell? ((⟨w.heap.size, 0, none⟩ : Addr).add j) = some u := by
  intro j u hu
  have hadd : (⟨w.heap.size, 0, none⟩ : Addr).add j = ⟨w.heap.size, j, none⟩ := by unfold Addr.add; split <;> simp_all
  rw [hadd, World.cell?_alloc_at _ _ _ _ rfl]
  simpa using hu
set_option maxHeartbeats 16000000 in
set_option maxRecDepth 100000 in
theorem few_any (a : Option Addr) (cap : Nat) (ns : List Nd) (w : World) (hr : NRow w a ns) (hl : ns.length ≤ cap) (hc : cap ≤ 9223372036854775807) (ht : ∀ n ∈ ns, n.text.size ≤ 9223372036854775807) (hk : ∀ n ∈ ns, n.kids.length ≤ 9223372036854775807) :
    Calls Tryd.prog 6 #[.slice a ns.length cap] w fun e w' => (∃ v ms, e = .returned v ∧ Nds w' v ms ∧ ms.length ≤ 120 ∧ ∀ n ∈ ms, n.kids.length ≤ 60) ∧ Below w.heap.size w w' := by
  obtain ⟨i0, hi, hz0, hz1, hz2⟩ := info_parts info_node
  by_cases h0 : ns.length = 0
  · have hn : ns = [] := List.eq_nil_of_length_eq_zero h0
    have Hres := Lib.hid (show ∃ v ms, Ending.returned (.slice none 0 0) = .returned v ∧ Nds w v ms ∧ ms.length ≤ 120 ∧ ∀ n ∈ ms, n.kids.length ≤ 60 from ⟨_, [], rfl, ⟨none, 0, rfl, Nat.le_refl _, .inl rfl⟩, by simp, by simp⟩)
    rw [h0]
    clear hr hl ht hk hn
    go_enter Tryd.func6, Tryd.ntmps6
    go_wp2_with fail
    go_loopw [3, 12] (fun vo i wr => vo = .slice none 0 0 ∧ i = .int .i64 0 ∧ wr = w) (fun _ _ _ => 0)
    case atStart => exact ⟨rfl, rfl, rfl⟩
    case round =>
      obtain ⟨rfl, rfl, rfl⟩ := hrel
      go_wp2_with fail
      go_ret
      exact ⟨Hres.out, Below.refl _ _⟩
  · obtain ⟨b, o, rfl, q1, c1⟩ := hr.nodes (by omega)
    have Hc := Lib.hid c1
    have Ht := Lib.hid ht
    have Hk := Lib.hid hk
    obtain ⟨L, hL⟩ : ∃ L, ns.length = L := ⟨_, rfl⟩
    have HL := Lib.hid hL
    rw [hL] at hl h0 ⊢
    obtain ⟨m, hm⟩ : ∃ m : Nat, min L 120 = m := ⟨_, rfl⟩
    have m1 : m ≤ L := by omega
    have m2 : m ≤ 120 := by omega
    have m3 : m ≤ cap := by omega
    have Hm : ∀ (ts : Array TypeId) (t : TypeId) (W : World), (Builtin.min_ ts t #[.int .i64 (L : Int), .int .i64 120]).run Tryd.prog W = .ok (.int .i64 (m : Int)) W := fun ts t W => by rw [run_min_int2, show (if (120 : Int) < (L : Int) then (120 : Int) else (L : Int)) = (m : Int) by split <;> omega]
    clear hm
    clear hr c1 ht hk hL
    go_enter Tryd.func6, Tryd.ntmps6
    go_wp2_with fail
    go_loopw [3, 12] (fun vo i wr => ∃ (k : Nat) (xs : List Value), k ≤ m ∧ i = .int .i64 k ∧ Hid (wr.ownsRow w.heap.size 37 4 vo k xs) ∧ Hid (FewP w k xs) ∧ Hid (Below w.heap.size w wr)) (fun _ i _ => m - (intOf i).toNat)
    case atStart => exact ⟨0, [], Nat.zero_le _, rfl, Lib.hid ⟨rfl, .inl ⟨rfl, rfl⟩⟩, Lib.hid ⟨fun _ => ⟨⟨0, ⟨#[]⟩, [], 0⟩, none, 0⟩, fun j hj => absurd hj (Nat.not_lt_zero _)⟩, Lib.hid (Below.refl _ _)⟩
    case round =>
      obtain ⟨k, xs, hk, rfl, Hown, Hf, HB⟩ := hrel
      have B := HB.out
      by_cases hkm : k < m
      · obtain ⟨nd, hnd⟩ : ∃ nd, ns[k]'(by rw [HL.out]; omega) = nd := ⟨_, rfl⟩
        have hda := Hc.out k (by rw [HL.out]; omega)
        have hmem := List.getElem_mem (show k < ns.length by rw [HL.out]; omega)
        have hkk := Hk.out _ hmem
        have htt := Ht.out _ hmem
        rw [hnd] at hda hkk htt
        clear hmem hnd
        obtain ⟨kd, tx, ks, pl⟩ := nd
        have hdb := hda.below q1 B
        obtain ⟨d0, d1, ⟨ka, kc, d2, d3, -⟩, d5⟩ := hdb
        obtain ⟨-, -, ⟨ka2, kc2, e2, -, hrow⟩, -⟩ := hda
        have d2' := d2
        rw [B.cell (p := ⟨b, o + k * 4 + 2, none⟩) q1, e2] at d2'
        obtain ⟨rfl, rfl⟩ : ka2 = ka ∧ kc2 = kc := by simpa using d2'
        have Hrow := Lib.hid hrow
        clear d2' e2 hrow
        simp only at d0 d1 d2 d3 d5 hkk htt
        obtain ⟨p, hp⟩ : ∃ p : Nat, min ks.length 60 = p := ⟨_, rfl⟩
        obtain ⟨q, hq⟩ : ∃ q : Nat, min tx.size 40 = q := ⟨_, rfl⟩
        have p1 : p ≤ ks.length := by omega
        have p2 : p ≤ kc2 := by omega
        have p3 : p ≤ 60 := by omega
        have q2 : q ≤ tx.size := by omega
        have Hp : ∀ (ts : Array TypeId) (t : TypeId) (W : World), (Builtin.min_ ts t #[.int .i64 (ks.length : Int), .int .i64 60]).run Tryd.prog W = .ok (.int .i64 (p : Int)) W := fun ts t W => by rw [run_min_int2, show (if (60 : Int) < (ks.length : Int) then (60 : Int) else (ks.length : Int)) = (p : Int) by split <;> omega]
        have Hq : ∀ (ts : Array TypeId) (t : TypeId) (W : World), (Builtin.min_ ts t #[.int .i64 (tx.size : Int), .int .i64 40]).run Tryd.prog W = .ok (.int .i64 (q : Int)) W := fun ts t W => by rw [run_min_int2, show (if (40 : Int) < (tx.size : Int) then (40 : Int) else (tx.size : Int)) = (q : Int) by split <;> omega]
        clear hp hq
        go_upto_region 5 with fail
        refine GoG.start [(15, ⟨wr.heap.size, 1, none⟩, .string tx), (17, ⟨wr.heap.size, 2, none⟩, .slice ka2 ks.length kc2)] (by kernel_rfl) ?_ ?_
        · exact Keeps.cons (by first | assumption | simp [*]) (Keeps.cons (by first | assumption | simp [*]) (Keeps.nil))
        refine GoG.take (i := 0) (v := ?_) [] rfl (by kernel_rfl) (by kernel_rfl) (by kernel_rfl) (by kernel_rfl) (by kernel_rfl) (by kernel_rfl) (fun _ _ _ h => h) (yields_free (by rfl) (fun w => ?_)) ?_
        rotate_left
        · go_simp; try (with_reducible rfl)
        try simp only [Act.put, List.setIfInBounds_toArray, List.set_cons_zero, List.set_cons_succ]
        refine GoG.take (i := 1) (v := ?_) [6, 15] rfl (by kernel_rfl) (by kernel_rfl) (by kernel_rfl) (by kernel_rfl) (by kernel_rfl) (by kernel_rfl) (fun _ _ _ h => h) (yields_load 15 ⟨wr.heap.size, 1, none⟩ (.string tx) (by simp) (by decide) (by rfl) (fun w hw => ?_)) ?_
        rotate_left
        · go_simp; try (with_reducible rfl)
        try simp only [Act.put, List.setIfInBounds_toArray, List.set_cons_zero, List.set_cons_succ]
        refine GoG.take (i := 2) (v := ?_) [] rfl (by kernel_rfl) (by kernel_rfl) (by kernel_rfl) (by kernel_rfl) (by kernel_rfl) (by kernel_rfl) (fun _ _ _ h => h) (yields_free (by rfl) (fun w => ?_)) ?_
        rotate_left
        · go_simp; try (with_reducible rfl)
        try simp only [Act.put, List.setIfInBounds_toArray, List.set_cons_zero, List.set_cons_succ]
        refine GoG.take (i := 3) (v := ?_) [4, 5, 6, 15] rfl (by kernel_rfl) (by kernel_rfl) (by kernel_rfl) (by kernel_rfl) (by kernel_rfl) (by kernel_rfl) (fun _ _ _ h => h) (yields_load 15 ⟨wr.heap.size, 1, none⟩ (.string tx) (by simp) (by decide) (by rfl) (fun w hw => ?_)) ?_
        rotate_left
        · go_simp; try (with_reducible rfl)
        try simp only [Act.put, List.setIfInBounds_toArray, List.set_cons_zero, List.set_cons_succ]
        refine GoG.take (i := 4) (v := ?_) [] rfl (by kernel_rfl) (by kernel_rfl) (by kernel_rfl) (by kernel_rfl) (by kernel_rfl) (by kernel_rfl) (fun _ _ _ h => h) (yields_free (by rfl) (fun w => ?_)) ?_
        rotate_left
        · go_simp; try (with_reducible rfl)
        try simp only [Act.put, List.setIfInBounds_toArray, List.set_cons_zero, List.set_cons_succ]
        refine GoG.take (i := 5) (v := ?_) [] rfl (by kernel_rfl) (by kernel_rfl) (by kernel_rfl) (by kernel_rfl) (by kernel_rfl) (by kernel_rfl) (fun _ _ _ h => h) (yields_free (by rfl) (fun w => ?_)) ?_
        rotate_left
        · go_simp; try (with_reducible rfl)
        try simp only [Act.put, List.setIfInBounds_toArray, List.set_cons_zero, List.set_cons_succ]
        refine GoG.take (i := 6) (v := ?_) [] rfl (by kernel_rfl) (by kernel_rfl) (by kernel_rfl) (by kernel_rfl) (by kernel_rfl) (by kernel_rfl) (fun _ _ _ h => h) (yields_free (by rfl) (fun w => ?_)) ?_
        rotate_left
        · go_simp; try (with_reducible rfl)
        try simp only [Act.put, List.setIfInBounds_toArray, List.set_cons_zero, List.set_cons_succ]
        refine GoG.take (i := 7) (v := ?_) [] rfl (by kernel_rfl) (by kernel_rfl) (by kernel_rfl) (by kernel_rfl) (by kernel_rfl) (by kernel_rfl) (fun _ _ _ h => h) (yields_free (by rfl) (fun w => ?_)) ?_
        rotate_left
        · go_simp; try (with_reducible rfl)
        try simp only [Act.put, List.setIfInBounds_toArray, List.set_cons_zero, List.set_cons_succ]
        refine GoG.take (i := 8) (v := ?_) [13, 17] rfl (by kernel_rfl) (by kernel_rfl) (by kernel_rfl) (by kernel_rfl) (by kernel_rfl) (by kernel_rfl) (fun _ _ _ h => h) (yields_load 17 ⟨wr.heap.size, 2, none⟩ (.slice ka2 ks.length kc2) (by simp) (by decide) (by rfl) (fun w hw => ?_)) ?_
        rotate_left
        · go_simp; try (with_reducible rfl)
        try simp only [Act.put, List.setIfInBounds_toArray, List.set_cons_zero, List.set_cons_succ]
        refine GoG.take (i := 9) (v := ?_) [] rfl (by kernel_rfl) (by kernel_rfl) (by kernel_rfl) (by kernel_rfl) (by kernel_rfl) (by kernel_rfl) (fun _ _ _ h => h) (yields_free (by rfl) (fun w => ?_)) ?_
        rotate_left
        · go_simp; try (with_reducible rfl)
        try simp only [Act.put, List.setIfInBounds_toArray, List.set_cons_zero, List.set_cons_succ]
        refine GoG.take (i := 10) (v := ?_) [11, 12, 13, 17] rfl (by kernel_rfl) (by kernel_rfl) (by kernel_rfl) (by kernel_rfl) (by kernel_rfl) (by kernel_rfl) (fun _ _ _ h => h) (yields_load 17 ⟨wr.heap.size, 2, none⟩ (.slice ka2 ks.length kc2) (by simp) (by decide) (by rfl) (fun w hw => ?_)) ?_
        rotate_left
        · go_simp; try (with_reducible rfl)
        try simp only [Act.put, List.setIfInBounds_toArray, List.set_cons_zero, List.set_cons_succ]
        refine GoG.take (i := 11) (v := ?_) [] rfl (by kernel_rfl) (by kernel_rfl) (by kernel_rfl) (by kernel_rfl) (by kernel_rfl) (by kernel_rfl) (fun _ _ _ h => h) (yields_free (by rfl) (fun w => ?_)) ?_
        rotate_left
        · go_simp; try (with_reducible rfl)
        try simp only [Act.put, List.setIfInBounds_toArray, List.set_cons_zero, List.set_cons_succ]
        refine GoG.take (i := 12) (v := ?_) [] rfl (by kernel_rfl) (by kernel_rfl) (by kernel_rfl) (by kernel_rfl) (by kernel_rfl) (by kernel_rfl) (fun _ _ _ h => h) (yields_free (by rfl) (fun w => ?_)) ?_
        rotate_left
        · go_simp; try (with_reducible rfl)
        try simp only [Act.put, List.setIfInBounds_toArray, List.set_cons_zero, List.set_cons_succ]
        refine GoG.take (i := 13) (v := ?_) [] rfl (by kernel_rfl) (by kernel_rfl) (by kernel_rfl) (by kernel_rfl) (by kernel_rfl) (by kernel_rfl) (fun _ _ _ h => h) (yields_free (by rfl) (fun w => ?_)) ?_
        rotate_left
        · go_simp; try (with_reducible rfl)
        try simp only [Act.put, List.setIfInBounds_toArray, List.set_cons_zero, List.set_cons_succ]
        refine GoG.take (i := 14) (v := ?_) [] rfl (by kernel_rfl) (by kernel_rfl) (by kernel_rfl) (by kernel_rfl) (by kernel_rfl) (by kernel_rfl) (fun _ _ _ h => h) (yields_free (by rfl) (fun w => ?_)) ?_
        rotate_left
        · go_simp; try (with_reducible rfl)
        try simp only [Act.put, List.setIfInBounds_toArray, List.set_cons_zero, List.set_cons_succ]
        refine GoG.one (i := 15) rfl (by kernel_rfl) (fun K hK => ?_)
        go_simp
        refine hK.out _ _ (Keeps.up (by rfl) (Keeps.cons (by go_simp) (Keeps.nil))) ?_
        clear hK K
        refine GoG.take (i := 16) (v := ?_) [] rfl (by kernel_rfl) (by kernel_rfl) (by kernel_rfl) (by kernel_rfl) (by kernel_rfl) (by kernel_rfl) (fun _ _ _ h => h) (yields_free (by rfl) (fun w => ?_)) ?_
        rotate_left
        · go_simp; try (with_reducible rfl)
        try simp only [Act.put, List.setIfInBounds_toArray, List.set_cons_zero, List.set_cons_succ]
        refine GoG.one (i := 17) rfl (by kernel_rfl) (fun K hK => ?_)
        go_simp
        refine hK.out _ _ (Keeps.up (by rfl) (Keeps.up (by rfl) (Keeps.nil))) ?_
        clear hK K
        refine GoG.done (by kernel_rfl) ?_ _
        have Hown2 := Lib.hid (show World.ownsRow _ w.heap.size 37 4 u3 k xs from (show (wr.alloc (.cells #[.int .i64 kd, .string (tx.extract 0 q), .slice ka2 p kc2, .int .i64 pl] 37)).drew.ownsRow w.heap.size 37 4 u3 k xs from Hown.out.alloc _).alloc (.cells #[.int .i64 kd, .string (tx.extract 0 q), .slice ka2 p kc2, .int .i64 pl] 37))
        go_wp2_with (at_builtin; refine wpList_append_own_at _ rfl _ _ 22 rfl w.heap.size 37 i0 (.agg #[.int .i64 0, .string ⟨#[]⟩, .slice none 0 0, .int .i64 0]) 4 56 Tryd.underlying22 hi hz0 hz1 hz2 rfl (by decide) u3 k xs rfl Hown2.out ⟨wr.heap.size + 1, 0, none⟩ 1 1 [.int .i64 kd, .string (tx.extract 0 q), .slice ka2 p kc2, .int .i64 pl] rfl rfl ?c1 ?c2 ?c3 ?c4 ?c5 ?_)
        case c2 => exact ⟨rfl, rfl, rfl, rfl⟩
        case c3 => unfold maxLen; omega
        case c4 => omega
        case c5 => have := B.size; simp; omega
        intro v' w1 hown1 hgrow _ _
        have Hown3 := Lib.hid hown1
        have B3 := Lib.hid (few_below Hown.out B hgrow)
        have Hf3 := Lib.hid (show FewP w (k + 1) (xs ++ [.int .i64 kd, .string (tx.extract 0 q), .slice ka2 p kc2, .int .i64 pl]) from few_step Hown.out.1 Hf.out ⟨kd, tx.extract 0 q, ks.take p, pl⟩ ka2 kc2 p (by simp only [List.length_take]; omega) (by simp only [List.length_take]; omega) (by simp only [List.length_take]; omega) (Hrow.out.take p))
        clear hown1 hgrow Hown2
        go_wp2_with fail
        go_roundw
        case rel => exact ⟨k + 1, _, by omega, by go_num, Hown3, Hf3, B3⟩
        case measure => simp [intOf]; omega
      · obtain rfl : k = m := by omega
        have Hres := Lib.hid (few_end Hown.out Hf.out B m2)
        go_wp2_with fail
        go_ret
        exact ⟨Hres.out, B⟩
end Go.Proofs.YtfcoelnibpinmaaDoor
