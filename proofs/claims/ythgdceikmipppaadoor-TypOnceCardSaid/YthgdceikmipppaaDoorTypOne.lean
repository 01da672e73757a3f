/- The law's own one: a type that came in, cut. -/
import Derived.Test.YthgdceikmipppaaDoorTypRow
import Derived.Test.YthgdceikmipppaaDoorRegG
import Derived.Deep.DeepCutAuto
import Derived.Laws.Small
namespace Go.Proofs.YthgdceikmipppaaDoor
open Go.RowKit
set_option linter.unusedSimpArgs false
set_option linter.unusedVariables false

theorem info_str : (Tryd.prog.info? 9).map (fun i => (i.zero, i.size, i.bytes)) = some (some (.string ⟨#[]⟩), 1, 16) := by kernel_rfl
/-- A type that came in. -/
structure TyIn (w : World) (wo ko : Option Addr) (wc kc : Nat) (t : Ty) : Prop where
  words : SRow w wo t.words
  kids : IRow w ko t.kids
  wc1 : t.words.length ≤ wc
  wc2 : wc ≤ 9223372036854775807
  kc1 : t.kids.length ≤ kc
  kc2 : kc ≤ 9223372036854775807
  nl : t.name.size ≤ 9223372036854775807
  ws : ∀ s ∈ t.words, s.size ≤ 9223372036854775807
  nums : (-9223372036854775808 ≤ t.kind ∧ t.kind ≤ 9223372036854775807) ∧ -9223372036854775808 ≤ t.n ∧ t.n ≤ 9223372036854775807
  ks : ∀ k ∈ t.kids, -9223372036854775808 ≤ k ∧ k ≤ 9223372036854775807
theorem TyIn.below {w w' : World} {wo ko : Option Addr} {wc kc : Nat} {t : Ty} (h : TyIn w wo ko wc kc t) (hb : Below w.heap.size w w') : TyIn w' wo ko wc kc t :=
  { h with words := h.words.below hb, kids := h.kids.below hb }
def S9 (ss : List ByteArray) : List Value := ss.map Value.string
/-- A row of texts in a block from base on. -/
def SRowN (base : Nat) (w : World) (ao : Option Addr) (ss : List ByteArray) : Prop :=
  ss = [] ∨ ∃ b off, ao = some ⟨b, off, none⟩ ∧ base ≤ b ∧ b < w.heap.size ∧ ∀ i, i < ss.length → w.cell? ⟨b, off + i, none⟩ = some (.string (ss.getD i ⟨#[]⟩))
theorem SRowN.row {base : Nat} {w : World} {ao : Option Addr} {ss : List ByteArray} (h : SRowN base w ao ss) : SRow w ao ss := by
  rcases h with h | ⟨b, off, h1, _, h2, h3⟩
  · exact .inl h
  · exact .inr ⟨b, off, h1, h2, h3⟩
theorem SRowN.set {base : Nat} {w : World} {ao : Option Addr} {ss : List ByteArray} (h : SRowN base w ao ss) {c k : Nat} (hc : c < base) (v : Value) : SRowN base (w.setCell ⟨c, k, none⟩ v) ao ss := by
  rcases h with h | ⟨b, off, h1, h0, h2, h3⟩
  · exact .inl h
  · refine .inr ⟨b, off, h1, h0, by simpa using h2, fun i hi => ?_⟩
    rw [← h3 i hi]
    unfold World.cell?
    rw [Below.heap_setCell _ _ _ _ (show b ≠ c by omega)]
theorem srow_own {w : World} {base n : Nat} {v : Value} {ss : List ByteArray} (h : w.ownsRow base 9 1 v n (S9 ss)) :
    ∃ ao cap, v = .slice ao ss.length cap ∧ SRowN base w ao ss ∧ ss.length ≤ cap := by
  obtain ⟨h1, h2⟩ := h
  have hl : ss.length = n := by simpa [S9] using h1
  subst hl
  rcases h2 with ⟨rfl, h0⟩ | ⟨g, cap, cur, rfl, hg, hcur, hcap1, hcap2, hcs, htk⟩
  · rw [h0]
    exact ⟨none, 0, rfl, .inl (List.eq_nil_of_length_eq_zero h0), Nat.le_refl _⟩
  · refine ⟨_, _, rfl, .inr ⟨g, 0, rfl, hg, (Array.getElem?_eq_some_iff.1 hcur).1, fun i hi => ?_⟩, hcap1⟩
    rw [Nat.zero_add]
    simp only [World.cell?, hcur, Option.isSome_none, Bool.false_eq_true, if_false]
    have e : cur[i]? = (cur.toList.take (ss.length * 1))[i]? := by
      rw [List.getElem?_take_of_lt (by omega)]
      simp
    rw [e, htk, getD_of hi]
    simp [S9, hi]
theorem cell_newS (w : World) (x : Value) (t : TypeId) : ∀ (j : Nat) (u : Value), [x][j]? = some u → (w.alloc (.cells #[x] t)).cell? ((⟨w.heap.size, 0, none⟩ : Addr).add j) = some u := by
  intro j u hu
  have hadd : (⟨w.heap.size, 0, none⟩ : Addr).add j = ⟨w.heap.size, j, none⟩ := by unfold Addr.add; split <;> simp_all
  rw [hadd, World.cell?_alloc_at _ _ _ _ rfl]
  simpa using hu
theorem push_gen {W wr w1 : World} {base n sz : Nat} {v : Value} {xs : List Value} {T : TypeId} {o : Obj} (hW : W.heap.size ≤ base) (ho : wr.ownsRow base T sz v n xs) (hB : Below W.heap.size W wr)
    (hg : (wr.alloc o).grownBy w1 v.ownBlock) : Below W.heap.size W w1 ∧ ∀ b cs U, b < base → BlockAt wr b cs U → BlockAt w1 b cs U := by
  have ba : Below wr.heap.size wr (wr.alloc o) := (Below.refl _ _).alloc (Nat.le_refl _) _
  have hb2 := hB.trans (ba.mono hB.size)
  refine ⟨hb2.grown hg (by have := hb2.size; omega) (fun k hk => ?_), fun b cs U hb hbl => ?_⟩
  · have := World.ownsRow.lt ho k hk
    omega
  · refine block_grown hg (hbl.below ba) (fun e => ?_)
    have := World.ownsRow.lt ho b e
    omega
theorem BlockAt.lt5 {w : World} {b : Nat} {xs : Array Value} {t : TypeId} (h : BlockAt w b xs t) : b < w.heap.size := h.lt
/-- What one gives: a type, cut, whose words lie in a new row. -/
def OneP (w : World) (ko : Option Addr) (t : Ty) (e : Ending) (w' : World) : Prop := ∃ wo wc kc U, e = .returned (tyV U wo wc ko kc) ∧ SRowN w.heap.size w' wo U.words ∧ (∃ j, U.kids = t.kids.take j) ∧ U.words.length ≤ wc ∧ U.kids.length ≤ kc ∧ TyOk U ∧ Below w.heap.size w w'
theorem IRow.take {w : World} {ao : Option Addr} {zs : List Int} (h : IRow w ao zs) (k : Nat) : IRow w ao (zs.take k) := by
  rcases h with h | ⟨b, off, h1, h2, h3⟩
  · exact .inl (by rw [h]; simp)
  · refine .inr ⟨b, off, h1, h2, fun i hi => ?_⟩
    rw [List.length_take] at hi
    rw [h3 i (by omega), List.getD_eq_getElem?_getD, List.getD_eq_getElem?_getD, List.getElem?_take_of_lt (by omega)]
set_option maxHeartbeats 16000000 in
set_option maxRecDepth 100000 in
theorem one_any (t : Ty) (wo ko : Option Addr) (wc kc : Nat) (w : World) (ht : TyIn w wo ko wc kc t) :
    Calls Tryd.prog 13 #[tyV t wo wc ko kc] w (OneP w ko t) := by
  unfold tyV
  have HT := Lib.hid ht
  clear ht
  obtain ⟨i0, hi, hz0, hz1, hz2⟩ := info_parts info_str
  obtain ⟨wa, ha⟩ : ∃ wa, w.alloc (.cells #[.int .i64 t.kind, .string t.name, .int .i64 t.n, .slice wo t.words.length wc, .slice ko t.kids.length kc] 31) = wa := ⟨_, rfl⟩
  obtain ⟨wb, hb⟩ : ∃ wb, wa.alloc (.cells #[.int .i64 0, .string ⟨#[]⟩, .int .i64 0, .slice none 0 0, .slice none 0 0] 31) = wb := ⟨_, rfl⟩
  obtain ⟨k1, q1', z1⟩ := box_new ha
  obtain ⟨k2, q2', z2⟩ := box_new hb
  have BW := Lib.hid (q1'.trans (q2'.mono q1'.size))
  have J0 := Lib.hid (show BlockAt wb w.heap.size #[.int .i64 t.kind, .string t.name, .int .i64 t.n, .slice wo t.words.length wc, .slice ko t.kids.length kc] 31 from k1.below q2')
  have M0 := Lib.hid (show BlockAt wb wa.heap.size #[.int .i64 0, .string ⟨#[]⟩, .int .i64 0, .slice none 0 0, .slice none 0 0] 31 from k2)
  have HZ := Lib.hid (And.intro z1 z2)
  obtain ⟨-, c1, -, c3, c4⟩ := cell5 (k1.below q2')
  obtain ⟨q0, hq0⟩ : ∃ q : Nat, min t.name.size 50 = q := ⟨_, rfl⟩
  obtain ⟨q1, hq1⟩ : ∃ q : Nat, min t.words.length 18 = q := ⟨_, rfl⟩
  obtain ⟨q2, hq2⟩ : ∃ q : Nat, min t.kids.length 18 = q := ⟨_, rfl⟩
  have p01 : q0 ≤ t.name.size := by omega
  have p02 : q0 ≤ 50 := by omega
  have p11 : q1 ≤ t.words.length := by omega
  have p12 : q1 ≤ 18 := by omega
  have p13 : q1 ≤ wc := Nat.le_trans p11 HT.out.wc1
  have p21 : q2 ≤ t.kids.length := by omega
  have p22 : q2 ≤ 18 := by omega
  have p23 : q2 ≤ kc := Nat.le_trans p21 HT.out.kc1
  have n1 := HT.out.nl
  have n2 := Nat.le_trans HT.out.wc1 HT.out.wc2
  have n3 := Nat.le_trans HT.out.kc1 HT.out.kc2
  have n4 := HT.out.wc2
  have n5 := HT.out.kc2
  have G0 : ∀ (ts : Array TypeId) (ty : TypeId) (W : World), (Builtin.min_ ts ty #[.int .i64 (t.name.size : Int), .int .i64 50]).run Tryd.prog W = .ok (.int .i64 (q0 : Int)) W := fun ts ty W => by rw [run_min_int2, show (if (50 : Int) < (t.name.size : Int) then (50 : Int) else (t.name.size : Int)) = (q0 : Int) by split <;> omega]
  have G1 : ∀ (ts : Array TypeId) (ty : TypeId) (W : World), (Builtin.min_ ts ty #[.int .i64 (t.words.length : Int), .int .i64 18]).run Tryd.prog W = .ok (.int .i64 (q1 : Int)) W := fun ts ty W => by rw [run_min_int2, show (if (18 : Int) < (t.words.length : Int) then (18 : Int) else (t.words.length : Int)) = (q1 : Int) by split <;> omega]
  have G2 : ∀ (ts : Array TypeId) (ty : TypeId) (W : World), (Builtin.min_ ts ty #[.int .i64 (t.kids.length : Int), .int .i64 18]).run Tryd.prog W = .ok (.int .i64 (q2 : Int)) W := fun ts ty W => by rw [run_min_int2, show (if (18 : Int) < (t.kids.length : Int) then (18 : Int) else (t.kids.length : Int)) = (q2 : Int) by split <;> omega]
  have P21 := Lib.hid p21
  clear hq0 hq1 hq2 k1 k2 q1' q2' z1 z2
  go_enter Tryd.func13, Tryd.ntmps13
  go_wp2_with fail
  clear ha hb
  refine GoG.start [(22, ⟨w.heap.size, 1, none⟩, .string t.name), (24, ⟨w.heap.size, 3, none⟩, .slice wo t.words.length wc), (26, ⟨w.heap.size, 4, none⟩, .slice ko t.kids.length kc)] (by kernel_rfl) ?_ ?_
  · exact Keeps.cons (by first | exact c1 | assumption) (Keeps.cons (by first | exact c3 | assumption) (Keeps.cons (by first | exact c4 | assumption) Keeps.nil))
  refine GoG.take (i := 0) (v := ?_) [] rfl (by kernel_rfl) (by kernel_rfl) (by kernel_rfl) (by kernel_rfl) (by kernel_rfl) (by kernel_rfl) (fun _ _ _ h => h) (yields_free (by rfl) (fun w => ?_)) ?_
  rotate_left
  · go_simp; try (with_reducible rfl)
  try simp only [Act.put, List.getElem_toArray, List.getElem_cons_succ, List.getElem_cons_zero, List.setIfInBounds_toArray, List.set_cons_zero, List.set_cons_succ]
  refine GoG.take (i := 1) (v := ?_) [22] rfl (by kernel_rfl) (by kernel_rfl) (by kernel_rfl) (by kernel_rfl) (by kernel_rfl) (by kernel_rfl) (fun _ _ _ h => h) (yields_load 22 ⟨w.heap.size, 1, none⟩ (.string t.name) (by simp) (by decide) (by rfl) (fun w hw => ?_)) ?_
  rotate_left
  · go_simp; try (with_reducible rfl)
  try simp only [Act.put, List.getElem_toArray, List.getElem_cons_succ, List.getElem_cons_zero, List.setIfInBounds_toArray, List.set_cons_zero, List.set_cons_succ]
  refine GoG.take (i := 2) (v := ?_) [] rfl (by kernel_rfl) (by kernel_rfl) (by kernel_rfl) (by kernel_rfl) (by kernel_rfl) (by kernel_rfl) (fun _ _ _ h => h) (yields_free (by rfl) (fun w => ?_)) ?_
  rotate_left
  · go_simp; try (with_reducible rfl)
  try simp only [Act.put, List.getElem_toArray, List.getElem_cons_succ, List.getElem_cons_zero, List.setIfInBounds_toArray, List.set_cons_zero, List.set_cons_succ]
  refine GoG.take (i := 3) (v := ?_) [22] rfl (by kernel_rfl) (by kernel_rfl) (by kernel_rfl) (by kernel_rfl) (by kernel_rfl) (by kernel_rfl) (fun _ _ _ h => h) (yields_load 22 ⟨w.heap.size, 1, none⟩ (.string t.name) (by simp) (by decide) (by rfl) (fun w hw => ?_)) ?_
  rotate_left
  · go_simp; try (with_reducible rfl)
  try simp only [Act.put, List.getElem_toArray, List.getElem_cons_succ, List.getElem_cons_zero, List.setIfInBounds_toArray, List.set_cons_zero, List.set_cons_succ]
  refine GoG.take (i := 4) (v := ?_) [] rfl (by kernel_rfl) (by kernel_rfl) (by kernel_rfl) (by kernel_rfl) (by kernel_rfl) (by kernel_rfl) (fun _ _ _ h => h) (yields_free (by rfl) (fun w => ?_)) ?_
  rotate_left
  · go_simp; try (with_reducible rfl)
  try simp only [Act.put, List.getElem_toArray, List.getElem_cons_succ, List.getElem_cons_zero, List.setIfInBounds_toArray, List.set_cons_zero, List.set_cons_succ]
  refine GoG.take (i := 5) (v := ?_) [] rfl (by kernel_rfl) (by kernel_rfl) (by kernel_rfl) (by kernel_rfl) (by kernel_rfl) (by kernel_rfl) (fun _ _ _ h => h) (yields_free (by rfl) (fun w => ?_)) ?_
  rotate_left
  · go_simp; try (with_reducible rfl)
  try simp only [Act.put, List.getElem_toArray, List.getElem_cons_succ, List.getElem_cons_zero, List.setIfInBounds_toArray, List.set_cons_zero, List.set_cons_succ]
  refine GoG.take (i := 6) (v := ?_) [] rfl (by kernel_rfl) (by kernel_rfl) (by kernel_rfl) (by kernel_rfl) (by kernel_rfl) (by kernel_rfl) (fun _ _ _ h => h) (yields_free (by rfl) (fun w => ?_)) ?_
  rotate_left
  · go_simp; try (with_reducible rfl)
  try simp only [Act.put, List.getElem_toArray, List.getElem_cons_succ, List.getElem_cons_zero, List.setIfInBounds_toArray, List.set_cons_zero, List.set_cons_succ]
  refine GoG.take (i := 7) (v := ?_) [] rfl (by kernel_rfl) (by kernel_rfl) (by kernel_rfl) (by kernel_rfl) (by kernel_rfl) (by kernel_rfl) (fun _ _ _ h => h) (yields_free (by rfl) (fun w => ?_)) ?_
  rotate_left
  · go_simp; try (with_reducible rfl)
  try simp only [Act.put, List.getElem_toArray, List.getElem_cons_succ, List.getElem_cons_zero, List.setIfInBounds_toArray, List.set_cons_zero, List.set_cons_succ]
  refine GoG.take (i := 8) (v := ?_) [24] rfl (by kernel_rfl) (by kernel_rfl) (by kernel_rfl) (by kernel_rfl) (by kernel_rfl) (by kernel_rfl) (fun _ _ _ h => h) (yields_load 24 ⟨w.heap.size, 3, none⟩ (.slice wo t.words.length wc) (by simp) (by decide) (by rfl) (fun w hw => ?_)) ?_
  rotate_left
  · go_simp; try (with_reducible rfl)
  try simp only [Act.put, List.getElem_toArray, List.getElem_cons_succ, List.getElem_cons_zero, List.setIfInBounds_toArray, List.set_cons_zero, List.set_cons_succ]
  refine GoG.take (i := 9) (v := ?_) [] rfl (by kernel_rfl) (by kernel_rfl) (by kernel_rfl) (by kernel_rfl) (by kernel_rfl) (by kernel_rfl) (fun _ _ _ h => h) (yields_free (by rfl) (fun w => ?_)) ?_
  rotate_left
  · go_simp; try (with_reducible rfl)
  try simp only [Act.put, List.getElem_toArray, List.getElem_cons_succ, List.getElem_cons_zero, List.setIfInBounds_toArray, List.set_cons_zero, List.set_cons_succ]
  refine GoG.take (i := 10) (v := ?_) [24] rfl (by kernel_rfl) (by kernel_rfl) (by kernel_rfl) (by kernel_rfl) (by kernel_rfl) (by kernel_rfl) (fun _ _ _ h => h) (yields_load 24 ⟨w.heap.size, 3, none⟩ (.slice wo t.words.length wc) (by simp) (by decide) (by rfl) (fun w hw => ?_)) ?_
  rotate_left
  · go_simp; try (with_reducible rfl)
  try simp only [Act.put, List.getElem_toArray, List.getElem_cons_succ, List.getElem_cons_zero, List.setIfInBounds_toArray, List.set_cons_zero, List.set_cons_succ]
  refine GoG.take (i := 11) (v := ?_) [] rfl (by kernel_rfl) (by kernel_rfl) (by kernel_rfl) (by kernel_rfl) (by kernel_rfl) (by kernel_rfl) (fun _ _ _ h => h) (yields_free (by rfl) (fun w => ?_)) ?_
  rotate_left
  · go_simp; try (with_reducible rfl)
  try simp only [Act.put, List.getElem_toArray, List.getElem_cons_succ, List.getElem_cons_zero, List.setIfInBounds_toArray, List.set_cons_zero, List.set_cons_succ]
  refine GoG.take (i := 12) (v := ?_) [] rfl (by kernel_rfl) (by kernel_rfl) (by kernel_rfl) (by kernel_rfl) (by kernel_rfl) (by kernel_rfl) (fun _ _ _ h => h) (yields_free (by rfl) (fun w => ?_)) ?_
  rotate_left
  · go_simp; try (with_reducible rfl)
  try simp only [Act.put, List.getElem_toArray, List.getElem_cons_succ, List.getElem_cons_zero, List.setIfInBounds_toArray, List.set_cons_zero, List.set_cons_succ]
  refine GoG.take (i := 13) (v := ?_) [] rfl (by kernel_rfl) (by kernel_rfl) (by kernel_rfl) (by kernel_rfl) (by kernel_rfl) (by kernel_rfl) (fun _ _ _ h => h) (yields_free (by rfl) (fun w => ?_)) ?_
  rotate_left
  · go_simp; try (with_reducible rfl)
  try simp only [Act.put, List.getElem_toArray, List.getElem_cons_succ, List.getElem_cons_zero, List.setIfInBounds_toArray, List.set_cons_zero, List.set_cons_succ]
  refine GoG.take (i := 14) (v := ?_) [] rfl (by kernel_rfl) (by kernel_rfl) (by kernel_rfl) (by kernel_rfl) (by kernel_rfl) (by kernel_rfl) (fun _ _ _ h => h) (yields_free (by rfl) (fun w => ?_)) ?_
  rotate_left
  · go_simp; try (with_reducible rfl)
  try simp only [Act.put, List.getElem_toArray, List.getElem_cons_succ, List.getElem_cons_zero, List.setIfInBounds_toArray, List.set_cons_zero, List.set_cons_succ]
  refine GoG.take (i := 15) (v := ?_) [26] rfl (by kernel_rfl) (by kernel_rfl) (by kernel_rfl) (by kernel_rfl) (by kernel_rfl) (by kernel_rfl) (fun _ _ _ h => h) (yields_load 26 ⟨w.heap.size, 4, none⟩ (.slice ko t.kids.length kc) (by simp) (by decide) (by rfl) (fun w hw => ?_)) ?_
  rotate_left
  · go_simp; try (with_reducible rfl)
  try simp only [Act.put, List.getElem_toArray, List.getElem_cons_succ, List.getElem_cons_zero, List.setIfInBounds_toArray, List.set_cons_zero, List.set_cons_succ]
  refine GoG.take (i := 16) (v := ?_) [] rfl (by kernel_rfl) (by kernel_rfl) (by kernel_rfl) (by kernel_rfl) (by kernel_rfl) (by kernel_rfl) (fun _ _ _ h => h) (yields_free (by rfl) (fun w => ?_)) ?_
  rotate_left
  · go_simp; try (with_reducible rfl)
  try simp only [Act.put, List.getElem_toArray, List.getElem_cons_succ, List.getElem_cons_zero, List.setIfInBounds_toArray, List.set_cons_zero, List.set_cons_succ]
  refine GoG.take (i := 17) (v := ?_) [26] rfl (by kernel_rfl) (by kernel_rfl) (by kernel_rfl) (by kernel_rfl) (by kernel_rfl) (by kernel_rfl) (fun _ _ _ h => h) (yields_load 26 ⟨w.heap.size, 4, none⟩ (.slice ko t.kids.length kc) (by simp) (by decide) (by rfl) (fun w hw => ?_)) ?_
  rotate_left
  · go_simp; try (with_reducible rfl)
  try simp only [Act.put, List.getElem_toArray, List.getElem_cons_succ, List.getElem_cons_zero, List.setIfInBounds_toArray, List.set_cons_zero, List.set_cons_succ]
  refine GoG.take (i := 18) (v := ?_) [] rfl (by kernel_rfl) (by kernel_rfl) (by kernel_rfl) (by kernel_rfl) (by kernel_rfl) (by kernel_rfl) (fun _ _ _ h => h) (yields_free (by rfl) (fun w => ?_)) ?_
  rotate_left
  · go_simp; try (with_reducible rfl)
  try simp only [Act.put, List.getElem_toArray, List.getElem_cons_succ, List.getElem_cons_zero, List.setIfInBounds_toArray, List.set_cons_zero, List.set_cons_succ]
  refine GoG.take (i := 19) (v := ?_) [] rfl (by kernel_rfl) (by kernel_rfl) (by kernel_rfl) (by kernel_rfl) (by kernel_rfl) (by kernel_rfl) (fun _ _ _ h => h) (yields_free (by rfl) (fun w => ?_)) ?_
  rotate_left
  · go_simp; try (with_reducible rfl)
  try simp only [Act.put, List.getElem_toArray, List.getElem_cons_succ, List.getElem_cons_zero, List.setIfInBounds_toArray, List.set_cons_zero, List.set_cons_succ]
  refine GoG.take (i := 20) (v := ?_) [] rfl (by kernel_rfl) (by kernel_rfl) (by kernel_rfl) (by kernel_rfl) (by kernel_rfl) (by kernel_rfl) (fun _ _ _ h => h) (yields_free (by rfl) (fun w => ?_)) ?_
  rotate_left
  · go_simp; try (with_reducible rfl)
  try simp only [Act.put, List.getElem_toArray, List.getElem_cons_succ, List.getElem_cons_zero, List.setIfInBounds_toArray, List.set_cons_zero, List.set_cons_succ]
  refine GoG.take (i := 21) (v := ?_) [] rfl (by kernel_rfl) (by kernel_rfl) (by kernel_rfl) (by kernel_rfl) (by kernel_rfl) (by kernel_rfl) (fun _ _ _ h => h) (yields_free (by rfl) (fun w => ?_)) ?_
  rotate_left
  · go_simp; try (with_reducible rfl)
  try simp only [Act.put, List.getElem_toArray, List.getElem_cons_succ, List.getElem_cons_zero, List.setIfInBounds_toArray, List.set_cons_zero, List.set_cons_succ]
  have fr := J0.out.free 1
  have cc := J0.out.cell 1
  refine GoG.one (i := 22) rfl (by kernel_rfl) (fun K hK => ?_)
  go_simp
  refine hK.out _ _ (Keeps.up (by rfl) (Keeps.cons ?_ (Keeps.cons ?_ Keeps.nil))) ?_
  · exact ((J0.out.set 1 _).cell 3)
  · exact ((J0.out.set 1 _).cell 4)
  clear hK K fr cc
  have J1 := Lib.hid (J0.out.set 1 (.string (t.name.extract 0 q0)))
  have M1 := Lib.hid (M0.out.other (c := w.heap.size) (by have := HZ.out; omega) 1 (.string (t.name.extract 0 q0)))
  try simp only [Act.put, List.getElem_toArray, List.getElem_cons_succ, List.getElem_cons_zero, List.setIfInBounds_toArray, List.set_cons_zero, List.set_cons_succ]
  refine GoG.take (i := 23) (v := ?_) [] rfl (by kernel_rfl) (by kernel_rfl) (by kernel_rfl) (by kernel_rfl) (by kernel_rfl) (by kernel_rfl) (fun _ _ _ h => h) (yields_free (by rfl) (fun w => ?_)) ?_
  rotate_left
  · go_simp; try (with_reducible rfl)
  try simp only [Act.put, List.getElem_toArray, List.getElem_cons_succ, List.getElem_cons_zero, List.setIfInBounds_toArray, List.set_cons_zero, List.set_cons_succ]
  have fr := J0.out.free 3
  have cc := J1.out.cell 3
  refine GoG.one (i := 24) rfl (by kernel_rfl) (fun K hK => ?_)
  go_simp
  refine hK.out _ _ (Keeps.up (by rfl) (Keeps.up (by rfl) (Keeps.cons ?_ Keeps.nil))) ?_
  · exact ((J1.out.set 3 _).cell 4)
  clear hK K fr cc
  have J2 := Lib.hid (J1.out.set 3 (.slice wo q1 wc))
  have M2 := Lib.hid (M1.out.other (c := w.heap.size) (by have := HZ.out; omega) 3 (.slice wo q1 wc))
  try simp only [Act.put, List.getElem_toArray, List.getElem_cons_succ, List.getElem_cons_zero, List.setIfInBounds_toArray, List.set_cons_zero, List.set_cons_succ]
  refine GoG.take (i := 25) (v := ?_) [] rfl (by kernel_rfl) (by kernel_rfl) (by kernel_rfl) (by kernel_rfl) (by kernel_rfl) (by kernel_rfl) (fun _ _ _ h => h) (yields_free (by rfl) (fun w => ?_)) ?_
  rotate_left
  · go_simp; try (with_reducible rfl)
  try simp only [Act.put, List.getElem_toArray, List.getElem_cons_succ, List.getElem_cons_zero, List.setIfInBounds_toArray, List.set_cons_zero, List.set_cons_succ]
  have fr := J0.out.free 4
  have cc := J2.out.cell 4
  refine GoG.one (i := 26) rfl (by kernel_rfl) (fun K hK => ?_)
  go_simp
  refine hK.out _ _ (Keeps.up (by rfl) (Keeps.up (by rfl) (Keeps.up (by rfl) Keeps.nil))) ?_
  clear hK K fr cc
  have J3 := Lib.hid (J2.out.set 4 (.slice ko q2 kc))
  have M3 := Lib.hid (M2.out.other (c := w.heap.size) (by have := HZ.out; omega) 4 (.slice ko q2 kc))
  try simp only [Act.put, List.getElem_toArray, List.getElem_cons_succ, List.getElem_cons_zero, List.setIfInBounds_toArray, List.set_cons_zero, List.set_cons_succ]
  refine GoG.done (by kernel_rfl) ?_ _
  have BD := Lib.hid (show Below w.heap.size w ((((wb.setCell ⟨w.heap.size, 1, none⟩ (.string (t.name.extract 0 q0))).setCell ⟨w.heap.size, 3, none⟩ (.slice wo q1 wc)).setCell ⟨w.heap.size, 4, none⟩ (.slice ko q2 kc)).drew) from (((BW.out.setCell (by simp) _).setCell (by simp) _).setCell (by simp) _).drew)
  have J3' := Lib.hid (show BlockAt ((((wb.setCell ⟨w.heap.size, 1, none⟩ (.string (t.name.extract 0 q0))).setCell ⟨w.heap.size, 3, none⟩ (.slice wo q1 wc)).setCell ⟨w.heap.size, 4, none⟩ (.slice ko q2 kc)).drew) _ _ _ from J3.out)
  have M3' := Lib.hid (show BlockAt ((((wb.setCell ⟨w.heap.size, 1, none⟩ (.string (t.name.extract 0 q0))).setCell ⟨w.heap.size, 3, none⟩ (.slice wo q1 wc)).setCell ⟨w.heap.size, 4, none⟩ (.slice ko q2 kc)).drew) _ _ _ from M3.out)
  generalize (((wb.setCell ⟨w.heap.size, 1, none⟩ (.string (t.name.extract 0 q0))).setCell ⟨w.heap.size, 3, none⟩ (.slice wo q1 wc)).setCell ⟨w.heap.size, 4, none⟩ (.slice ko q2 kc)).drew = w3 at *
  have J := J3'.out
  simp only [List.setIfInBounds_toArray, List.set_cons_zero, List.set_cons_succ] at J
  have JH := Lib.hid J
  have HZ2 := Lib.hid (show wa.heap.size = w.heap.size + 1 from HZ.out.1)
  have HS3 := Lib.hid (show w.heap.size + 2 ≤ w3.heap.size by have := M3'.out.lt; have := HZ.out.1; omega)
  obtain ⟨-, -, -, j3, -⟩ := cell5 J
  clear J J0 J1 J2 J3 J3' M0 M1 M2 M3 G0 G1 G2 BW HZ c1 c3 c4 n1 n3 n5 p01 p21
  go_wp2_with fail
  clear j3
  go_loopw [3, 33] (fun vo i wr => ∃ (k : Nat) (xs : List ByteArray), k ≤ q1 ∧ i = .int .i64 k ∧ Hid (wr.ownsRow (w.heap.size + 2) 9 1 vo k (S9 xs)) ∧ Hid (∀ s ∈ xs, s.size ≤ 30) ∧ Hid (Below w.heap.size w wr) ∧ Hid (BlockAt wr w.heap.size #[.int .i64 t.kind, .string (t.name.extract 0 q0), .int .i64 t.n, .slice wo q1 wc, .slice ko q2 kc] 31) ∧ Hid (BlockAt wr wa.heap.size #[.int .i64 0, .string ⟨#[]⟩, .int .i64 0, .slice none 0 0, .slice none 0 0] 31)) (fun _ i _ => q1 - (intOf i).toNat)
  case atStart => exact ⟨0, [], Nat.zero_le _, rfl, Lib.hid ⟨rfl, .inl ⟨rfl, rfl⟩⟩, Lib.hid (by simp), BD, JH, M3'⟩
  case round =>
    obtain ⟨k, xs, hk, rfl, Hown, Hf, HB, HJ, HM⟩ := hrel
    by_cases hkm : k < q1
    · have hks : k < t.words.length := by omega
      have htt := HT.out.ws _ (getD_memS hks)
      obtain ⟨b, o, rfl, q1x, c1x⟩ := (HT.out.words.below HB.out).cells (by omega)
      have hck := c1x k hks
      clear c1x
      obtain ⟨s, hs⟩ : ∃ s, t.words.getD k ⟨#[]⟩ = s := ⟨_, rfl⟩
      rw [hs] at hck htt
      clear hs
      obtain ⟨q, hq⟩ : ∃ q : Nat, min s.size 30 = q := ⟨_, rfl⟩
      have p1 : q ≤ s.size := by omega
      have p2 : q ≤ 30 := by omega
      have Hq : ∀ (ts : Array TypeId) (ty : TypeId) (W : World), (Builtin.min_ ts ty #[.int .i64 (s.size : Int), .int .i64 30]).run Tryd.prog W = .ok (.int .i64 (q : Int)) W := fun ts ty W => by rw [run_min_int2, show (if (30 : Int) < (s.size : Int) then (30 : Int) else (s.size : Int)) = (q : Int) by split <;> omega]
      clear hq
      have BZ := Lib.hid HM.out.lt
      go_wp2_with (at_builtin; refine wpList_append_own_at _ rfl _ _ 28 rfl (w.heap.size + 2) 9 i0 (.string ⟨#[]⟩) 1 16 Tryd.underlying28 hi hz0 hz1 hz2 rfl (by decide) _ k (S9 xs) rfl (Hown.out.alloc _) ⟨wr.heap.size, 0, none⟩ 1 1 [.string (s.extract 0 q)] rfl ?c1 ?c2 ?c3 ?c4 ?c5 ?c6 ?_)
      case c1 => rfl
      case c2 => exact cell_newS _ _ _
      case c3 =>
        intro u hu
        simp at hu
        subst hu
        rfl
      case c4 => unfold maxLen; omega
      case c5 => omega
      case c6 => have := BZ.out; have := HZ2.out; simp; omega
      intro v' w2 hown3 hgrow _ hblk
      have hp := push_gen (by omega) Hown.out HB.out hgrow
      have hb2 := Lib.hid hp.1
      have hj2 := Lib.hid (hp.2 _ _ _ (by omega) HJ.out)
      have hm2 := Lib.hid (hp.2 _ _ _ (by have := HZ2.out; omega) HM.out)
      have ho2 := Lib.hid (show w2.ownsRow (w.heap.size + 2) 9 1 v' (k + 1) (S9 (xs ++ [s.extract 0 q])) by
        rw [S9, List.map_append]
        exact hown3)
      have hf2 := Lib.hid (show ∀ t ∈ xs ++ [s.extract 0 q], t.size ≤ 30 from fun t ht => by
        rcases List.mem_append.1 ht with h1 | h1
        · exact Hf.out t h1
        · rw [List.mem_singleton.1 h1, ByteArray.size_extract]; omega)
      clear hown3 hgrow hblk hp
      go_wp2_with fail
      go_roundw
      case rel => exact ⟨k + 1, _, by omega, by go_num, ho2, hf2, hb2, hj2, hm2⟩
      case measure => first | (simp [intOf]; done) | (simp [intOf]; omega)
    · obtain rfl : k = q1 := by omega
      obtain ⟨ao2, cap2, rfl, r1, r2⟩ := srow_own Hown.out
      have hlen : xs.length = k := by have := Hown.out.1; simpa [S9] using this
      rw [hlen] at r2 ⊢
      have R1 := Lib.hid r1
      have HLEN := Lib.hid hlen
      have fr := HJ.out.free 3
      have jc := HJ.out.cell 3
      go_upto_region 9 with fail
      have J4 := HJ.out.set 3 (.slice ao2 k cap2)
      simp only [List.setIfInBounds_toArray, List.set_cons_zero, List.set_cons_succ] at J4
      have M4 := HM.out.other (c := w.heap.size) (by have := HZ2.out; omega) 3 (.slice ao2 k cap2)
      have R2 := Lib.hid (R1.out.set (c := w.heap.size) (k := 3) (by omega) (.slice ao2 k cap2))
      have B2 := Lib.hid (HB.out.setCell (p := ⟨w.heap.size, 3, none⟩) (by simp) (.slice ao2 k cap2))
      clear fr jc R1
      generalize wr.setCell ⟨w.heap.size, 3, none⟩ (.slice ao2 k cap2) = w4 at *
      obtain ⟨g0, g1, g2, g3, g4⟩ := cell5 J4
      obtain ⟨e0, e1, e2, e3, e4⟩ := cell5 M4
      have f0 := M4.free 0
      have f1 := M4.free 1
      have f2 := M4.free 2
      have f3 := M4.free 3
      have f4 := M4.free 4
      have HM4 := Lib.hid M4
      clear J4 M4 hlen r1
      go_wp2_with fail
      refine bodyPost_ret (v := .agg #[.int .i64 t.kind, .string (t.name.extract 0 q0), .int .i64 t.n, .slice ao2 k cap2, .slice ko q2 kc]) (by simp [results, Tryd.results13, go_sem, e0, e1, e2, e3, e4]) rfl ?_
      have HZ3 := HZ2.out
      refine ⟨ao2, cap2, kc, ⟨t.kind, t.name.extract 0 q0, t.n, xs, t.kids.take q2⟩, ?_, ?_, ?_, by show xs.length ≤ _; rw [HLEN.out]; exact r2, ?_, ?_, ?_⟩
      · unfold tyV
        show _ = Ending.returned (.agg #[.int .i64 t.kind, .string (t.name.extract 0 q0), .int .i64 t.n, .slice ao2 xs.length cap2, .slice ko (t.kids.take q2).length kc])
        rw [HLEN.out, List.length_take, Nat.min_eq_left P21.out]
      · have R3 := (((((R2.out.set (c := wa.heap.size) (k := 0) (by omega) (.int .i64 t.kind)).set (c := wa.heap.size) (k := 1) (by omega) (.string (t.name.extract 0 q0))).set (c := wa.heap.size) (k := 2) (by omega) (.int .i64 t.n)).set (c := wa.heap.size) (k := 3) (by omega) (.slice ao2 k cap2)).set (c := wa.heap.size) (k := 4) (by omega) (.slice ko q2 kc))
        rcases R3 with h | ⟨b, off, h1, h0, h2, h3⟩
        · exact .inl h
        · exact .inr ⟨b, off, h1, by omega, h2, h3⟩
      · exact ⟨q2, rfl⟩
      · show (t.kids.take q2).length ≤ kc
        rw [List.length_take]; omega
      · exact ⟨by show (t.name.extract 0 q0).size ≤ 50; rw [ByteArray.size_extract]; omega, by show xs.length ≤ 18; rw [HLEN.out]; exact p12, by show (t.kids.take q2).length ≤ 18; rw [List.length_take]; omega, Hf.out, HT.out.nums, fun k hk => HT.out.ks k (List.mem_of_mem_take hk)⟩
      · exact ((((B2.out.setCell (by show w.heap.size ≤ wa.heap.size; omega) _).setCell (by show w.heap.size ≤ wa.heap.size; omega) _).setCell (by show w.heap.size ≤ wa.heap.size; omega) _).setCell (by show w.heap.size ≤ wa.heap.size; omega) _).setCell (by show w.heap.size ≤ wa.heap.size; omega) _
end Go.Proofs.YthgdceikmipppaaDoor
