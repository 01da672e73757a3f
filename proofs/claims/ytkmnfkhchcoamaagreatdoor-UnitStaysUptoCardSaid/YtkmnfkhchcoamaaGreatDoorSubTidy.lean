import Derived.Test.YtkmnfkhchcoamaaGreatDoorSubA
import Derived.Test.YtkmnfkhchcoamaaGreatDoorTypPC
import Derived.Test.YtkmnfkhchcoamaaGreatDoorRegA
import Derived.Test.YtkmnfkhchcoamaaGreatDoorRegT
import Derived.BigQuiet
import Derived.Deep.QuietTactic
import Derived.IntWalk
/- The program's tidy. -/
namespace Go.Proofs.YtkmnfkhchcoamaaGreatDoor
open Go.RowKit
set_option linter.unusedSimpArgs false
set_option linter.unusedVariables false

theorem info_tm : (Tryz.prog.info? 135).map (fun i => (i.zero, i.size, i.bytes)) = some (some (.agg #[.string ⟨#[]⟩, .int .i64 0]), 2, 24) := by kernel_rfl
theorem info_str1 : (Tryz.prog.info? 9).map (fun i => (i.zero, i.size, i.bytes)) = some (some (.string ⟨#[]⟩), 1, 16) := by kernel_rfl
theorem info_int1 : (Tryz.prog.info? 3).map (fun i => (i.zero, i.size, i.bytes)) = some (some (.int .i64 0), 1, 8) := by kernel_rfl
theorem cell_at1 {w : World} {b : Nat} {x : Value} {T : TypeId} (h : BlockAt w b #[x] T) : ∀ j u, [x][j]? = some u → w.cell? ((⟨b, 0, none⟩ : Addr).add j) = some u := by
  intro j u hu
  have hadd : (⟨b, 0, none⟩ : Addr).add j = ⟨b, j, none⟩ := by unfold Addr.add; split <;> simp_all
  rw [hadd, h.cell j]
  simpa using hu
theorem fresh_grown {w w' : World} {v : Value} {b : Nat} {cs : Array Value} {T : TypeId} (h : BlockAt w b cs T) (hn : v.ownBlock ≠ some b) (hg : w.grownBy w' v.ownBlock) : BlockAt w' b cs T := by
  have : w'.heap[b]? = w.heap[b]? := hg.block b h.lt (fun e => hn e.symm)
  unfold BlockAt
  rw [this]
  exact h
def msQ (ps : List (ByteArray × Int)) (q : Nat) : List Tm := marksB (ps.take q)
def wsQ (ps : List (ByteArray × Int)) (q : Nat) : List ByteArray := ((ps.take q).filter fun p => !markB p.1).map (·.1)
def ksQ (ps : List (ByteArray × Int)) (q : Nat) : List Int := ((ps.take q).filter fun p => !markB p.1).map (·.2)
theorem q_len (ps : List (ByteArray × Int)) (q : Nat) : (msQ ps q).length ≤ q ∧ (wsQ ps q).length ≤ q ∧ (ksQ ps q).length ≤ q := by
  unfold msQ wsQ ksQ marksB
  rw [List.length_map, List.length_map, List.length_map]
  have h1 := List.length_filter_le (fun p : ByteArray × Int => markB p.1) (ps.take q)
  have h2 := List.length_filter_le (fun p : ByteArray × Int => !markB p.1) (ps.take q)
  rw [List.length_take] at h1 h2
  omega
theorem take_zip {ws : List ByteArray} {ks : List Int} {m q : Nat} (h1 : ws.length = m) (h2 : ks.length = m) (hq : q < m) : (ws.zip ks).take (q + 1) = (ws.zip ks).take q ++ [(ws.getD q ⟨#[]⟩, ks.getD q 0)] := by
  rw [List.take_succ_eq_append_getElem (by rw [List.length_zip]; omega), List.getElem_zip, getD_of (by omega), getD_of (by omega)]
theorem q_mark {ws : List ByteArray} {ks : List Int} {m q : Nat} (h1 : ws.length = m) (h2 : ks.length = m) (hq : q < m) (hm : markB (ws.getD q ⟨#[]⟩) = true) :
    msQ (ws.zip ks) (q + 1) = msQ (ws.zip ks) q ++ [(decide (ws.getD q ⟨#[]⟩ = tiW), ks.getD q 0)] ∧ wsQ (ws.zip ks) (q + 1) = wsQ (ws.zip ks) q ∧ ksQ (ws.zip ks) (q + 1) = ksQ (ws.zip ks) q := by
  unfold msQ wsQ ksQ marksB
  rw [take_zip h1 h2 hq, List.filter_append, List.filter_append, List.map_append, List.map_append, List.map_append]
  simp only [List.filter_cons, List.filter_nil, hm]
  simp
theorem q_plain {ws : List ByteArray} {ks : List Int} {m q : Nat} (h1 : ws.length = m) (h2 : ks.length = m) (hq : q < m) (hm : markB (ws.getD q ⟨#[]⟩) = false) :
    msQ (ws.zip ks) (q + 1) = msQ (ws.zip ks) q ∧ wsQ (ws.zip ks) (q + 1) = wsQ (ws.zip ks) q ++ [ws.getD q ⟨#[]⟩] ∧ ksQ (ws.zip ks) (q + 1) = ksQ (ws.zip ks) q ++ [ks.getD q 0] := by
  unfold msQ wsQ ksQ marksB
  rw [take_zip h1 h2 hq, List.filter_append, List.filter_append, List.map_append, List.map_append, List.map_append]
  simp only [List.filter_cons, List.filter_nil, hm]
  simp
theorem sort_TS {W w : World} {mb : Nat} {t : Ty} {bw bk wv kv : Value} {vo : Option Addr} {vc : Nat} {ms : List Tm} {ws : List ByteArray} {ks : List Int} (h : TS W w mb t bw bk (.slice vo ms.length vc) wv kv ms ws ks) (hl : ms.length ≤ 1000) :
    Calls Tryz.prog 109 #[.slice vo ms.length vc, .func (.func 110) #[] #[]] w fun e w' => e = .returned (.tuple #[]) ∧ TS W w' mb t bw bk (.slice vo ms.length vc) wv kv (sortT ms) ws ks := by
  have ht : w.ownsRow W.heap.size 135 2 (.slice vo ms.length vc) ms.length (tmC ms) := h.tm
  rcases ht.2 with ⟨h1, h2⟩ | ⟨g, cap, cur, hv, rest⟩
  · have e : ms = [] := List.eq_nil_of_length_eq_zero h2
    subst e
    injection h1 with e1 e2 e3
    subst e1
    subst e3
    refine (sort_none w).mono ?_
    rintro e w' ⟨rfl, rfl⟩
    exact ⟨rfl, by rw [show sortT [] = [] from by unfold sortT; simp]; exact h⟩
  · injection hv with e1 e2 e3
    subst e1
    subst e3
    refine (sort_some ms g vc W.heap.size w h.tm hl).mono ?_
    rintro e w' ⟨rfl, hg, ho⟩
    exact ⟨rfl, h.sort rfl hg ho⟩
/-- Something of the kind is held. -/
def AnyTS (W : World) (mb : Nat) (t : Ty) (w : World) : Prop := ∃ bw bk vt wv kv ms ws ks, TS W w mb t bw bk vt wv kv ms ws ks
theorem TS.any {W w : World} {mb : Nat} {t : Ty} {bw bk vt wv kv : Value} {ms : List Tm} {ws : List ByteArray} {ks : List Int} (h : TS W w mb t bw bk vt wv kv ms ws ks) : AnyTS W mb t w := ⟨_, _, _, _, _, _, _, _, h⟩
theorem AnyTS.old {W w : World} {mb : Nat} {t : Ty} (h : AnyTS W mb t w) {b : Nat} {cs : Array Value} {T : TypeId} (hb : BlockAt W b cs T) (hne : b ≠ mb) : BlockAt w b cs T := by
  obtain ⟨_, _, _, _, _, _, _, _, h⟩ := h
  exact h.old hb hne
theorem AnyTS.be {W w : World} {mb : Nat} {t : Ty} (h : AnyTS W mb t w) {w0 : World} (hb : Below w0.heap.size w0 W) (hm : w0.heap.size ≤ mb) : Below w0.heap.size w0 w := by
  obtain ⟨_, _, _, _, _, _, _, _, h⟩ := h
  exact h.be hb hm
theorem ownTm_form {w : World} {base : Nat} {v : Value} {S : List Tm} (h : OwnTm w base v S) : ∃ vo vc, v = .slice vo S.length vc := by
  obtain ⟨h1, h2⟩ := h
  rcases h2 with ⟨rfl, h0⟩ | ⟨g, cap, cur, rfl, rest⟩
  · exact ⟨none, 0, by rw [h0]⟩
  · exact ⟨_, _, rfl⟩
theorem ownTm_cells {w : World} {base : Nat} {vo : Option Addr} {N vc : Nat} {S : List Tm} (hN : S.length = N) (h : OwnTm w base (.slice vo N vc) S) (h0 : 0 < N) : ∃ g, vo = some ⟨g, 0, none⟩ ∧ g < w.heap.size ∧ ∀ k (hk : k < S.length), w.cell? ⟨g, k * 2, none⟩ = some (.string (wordOf S[k].1)) ∧ w.cell? ⟨g, k * 2 + 1, none⟩ = some (.int .i64 S[k].2) := by
  subst hN
  have h' : w.ownsRow base 135 2 (.slice vo S.length vc) S.length (tmC S) := h
  obtain ⟨h1, h2⟩ := h
  rcases h2 with ⟨h2, h3⟩ | ⟨g, cap, cur, hv, hg, hcur, rest⟩
  · omega
  · injection hv with e1 e2 e3
    subst e1
    refine ⟨g, rfl, (Array.getElem?_eq_some_iff.1 hcur).1, fun k hk => ?_⟩
    obtain ⟨t0, t1⟩ := tmC_at S k hk
    exact ⟨(h'.cellAt (k * 2) (by omega)).trans t0, (h'.cellAt (k * 2 + 1) (by omega)).trans t1⟩
theorem enc_mark {u : ByteArray} {z : Int} (h : markB u = true) : encT (decide (u = tiW), z) = [.string u, .int .i64 z] := by
  unfold encT
  show [Value.string (wordOf (decide (u = tiW))), _] = _
  rw [← mark_word h]
theorem marks_kids {ws : List ByteArray} {ks : List Int} {L : Nat} (h : ∀ k ∈ ks, 0 ≤ k ∧ k < (L : Int)) : ∀ x ∈ marksB (ws.zip ks), 0 ≤ x.2 ∧ x.2 < (L : Int) := fun x hx => by
  obtain ⟨b, k⟩ := x
  exact h k (List.of_mem_zip (mem_marks.1 hx)).2
theorem lasts_step {S : List Tm} {k : Nat} (h : k < S.length) : lasts (S.drop k) = if h2 : k + 1 < S.length then (if S[k + 1].2 = S[k].2 then lasts (S.drop (k + 1)) else S[k] :: lasts (S.drop (k + 1))) else S[k] :: lasts (S.drop (k + 1)) := by
  rw [List.drop_eq_getElem_cons h]
  by_cases h2 : k + 1 < S.length
  · rw [dif_pos h2, List.drop_eq_getElem_cons h2]
    rfl
  · rw [dif_neg h2, List.drop_eq_nil_of_le (by omega)]
    rfl
theorem mark_wordOf (b : Bool) : markB (wordOf b) = true := by
  cases b
  · unfold markB
    rw [ByteArray.toList_eq]
    decide
  · unfold markB
    rw [ByteArray.toList_eq]
    decide
theorem odd_of {l : List Ty} {t : Ty} {ms : List Tm} {x : Tm} (hm : ms = marksB (t.words.zip t.kids)) (hx : x ∈ sortT ms) (hb : badT l x.2 = true) : oddT l t = true := by
  unfold sortT at hx
  rw [List.mem_mergeSort, hm] at hx
  obtain ⟨b, k⟩ := x
  unfold oddT
  rw [List.any_eq_true]
  exact ⟨(wordOf b, k), mem_marks.1 hx, by rw [mark_wordOf, Bool.true_and]; exact hb⟩
theorem odd_not {l : List Ty} {t : Ty} {ms : List Tm} (hm : ms = marksB (t.words.zip t.kids)) (hb : ∀ j (h : j < (sortT ms).length), badT l (sortT ms)[j].2 = false) : oddT l t = false := by
  unfold oddT
  rw [Bool.eq_false_iff]
  intro h
  rw [List.any_eq_true] at h
  obtain ⟨⟨w, k⟩, h1, h2⟩ := h
  rw [Bool.and_eq_true] at h2
  have h3 : (decide (w = tiW), k) ∈ sortT ms := by
    unfold sortT
    rw [List.mem_mergeSort, hm, mem_marks, ← mark_word h2.1]
    exact h1
  obtain ⟨j, hj, e⟩ := List.getElem_of_mem h3
  have := hb j hj
  rw [e] at this
  rw [this] at h2
  cases h2.2
theorem tidy_rows {t : Ty} {L : Nat} {ms S pre : List Tm} {ws0 : List ByteArray} {ks0 : List Int} (hm : ms = marksB (t.words.zip t.kids)) (hw : ws0 = ((t.words.zip t.kids).filter fun p => !markB p.1).map (·.1)) (hk : ks0 = ((t.words.zip t.kids).filter fun p => !markB p.1).map (·.2)) (hS : sortT ms = S)
    (hkid : ∀ k ∈ t.kids, 0 ≤ k ∧ k < (L : Int)) (hp : pre = lasts S) : ws0 ++ pre.map (fun x => wordOf x.1) = (tidyT L t).words ∧ ks0 ++ pre.map (·.2) = (tidyT L t).kids := by
  have e : pre = termQ L (marksB (t.words.zip t.kids)) := by
    rw [hp, ← hS, hm]
    exact lasts_terms (marks_kids hkid)
  unfold tidyT plainP
  rw [termP_marks, hw, hk, e]
  constructor
  · show _ = List.map _ _
    rw [List.map_append, List.map_map]
    rfl
  · show _ = List.map _ _
    rw [List.map_append, List.map_map]
    rfl
theorem below_set5 {W w : World} {b : Nat} (h : Below W.heap.size W w) (hb : W.heap.size ≤ b) (v0 v1 v2 v3 v4 : Value) :
    Below W.heap.size W (((((w.setCell ⟨b, 0, none⟩ v0).setCell ⟨b, 1, none⟩ v1).setCell ⟨b, 2, none⟩ v2).setCell ⟨b, 3, none⟩ v3).setCell ⟨b, 4, none⟩ v4) :=
  ((((h.setCell hb _).setCell hb _).setCell hb _).setCell hb _).setCell hb _
theorem rowW_set5 {w : World} {base b : Nat} {v : Value} {ss : List ByteArray} (h : OwnW w base v ss) (hb : b < base) (v0 v1 v2 v3 v4 : Value) : OwnW (((((w.setCell ⟨b, 0, none⟩ v0).setCell ⟨b, 1, none⟩ v1).setCell ⟨b, 2, none⟩ v2).setCell ⟨b, 3, none⟩ v3).setCell ⟨b, 4, none⟩ v4) base v ss :=
  row_set (row_set (row_set (row_set (row_set h hb) hb) hb) hb) hb
theorem rowK_set5 {w : World} {base b : Nat} {v : Value} {zs : List Int} (h : OwnK w base v zs) (hb : b < base) (v0 v1 v2 v3 v4 : Value) : OwnK (((((w.setCell ⟨b, 0, none⟩ v0).setCell ⟨b, 1, none⟩ v1).setCell ⟨b, 2, none⟩ v2).setCell ⟨b, 3, none⟩ v3).setCell ⟨b, 4, none⟩ v4) base v zs :=
  row_set (row_set (row_set (row_set (row_set h hb) hb) hb) hb) hb
def unB (z : Int) : Bool := decide (14 ≤ z ∧ z ≤ 19)
/-- What tidy gives. -/
def TidyR (w : World) (t : Ty) (odd : Bool) (tt : Ty) (e : Ending) (w' : World) : Prop :=
  (odd = true ∧ ∃ (co dO : Option Addr) (cl cc dl dc : Nat), e = .returned (.tuple #[.agg #[.int .i64 t.kind, .string t.name, .int .i64 t.n, .slice co cl cc, .slice dO dl dc], .bool false]) ∧ Below w.heap.size w w') ∨
  (odd = false ∧ ∃ ao bo ac bc, e = .returned (.tuple #[tyV tt ao ac bo bc, .bool true]) ∧ tt.words.length ≤ ac ∧ tt.kids.length ≤ bc ∧ SRow w' ao tt.words ∧ IRow w' bo tt.kids ∧ (∀ a, ao = some a → w.heap.size ≤ a.block) ∧ (∀ a, bo = some a → w.heap.size ≤ a.block) ∧ Below w.heap.size w w')
set_option maxHeartbeats 16000000 in
set_option maxRecDepth 100000 in
theorem tidy_any (l : List Ty) (lo : Option Addr) (lc : Nat) (t : Ty) (wo ko : Option Addr) (wc kc : Nat) (w : World) (hl : ARow w lo l) (ht : TyC w wo ko t) (hlen : t.words.length = t.kids.length) (hkb : ∀ k ∈ t.kids, 0 ≤ k ∧ k < (l.length : Int)) (ll : l.length ≤ 1000) :
    Calls Tryz.prog 102 #[.slice lo l.length lc, tyV t wo wc ko kc] w (TidyR w t (oddT l t) (tidyT l.length t)) := by
  obtain ⟨s0, hsi, hs0, hs1, hs2⟩ := info_parts info_str1
  obtain ⟨k0, hki, hk0, hk1, hk2⟩ := info_parts info_int1
  obtain ⟨t0, hti, ht0, ht1, ht2⟩ := info_parts info_tm
  unfold tyV
  have HT := Lib.hid ht
  have HA := Lib.hid hl
  have HKB := Lib.hid hkb
  have hml := ht.ok.kl
  obtain ⟨m, hm⟩ : ∃ m, t.kids.length = m := ⟨_, rfl⟩
  have HM := Lib.hid hm
  have HMW := Lib.hid (hlen.trans hm)
  obtain ⟨n, hn⟩ : ∃ n, l.length = n := ⟨_, rfl⟩
  have HN := Lib.hid hn
  rw [hlen, hm, hn]
  rw [hm] at hml
  rw [hn] at ll
  obtain ⟨w1, h1⟩ : ∃ w1, w.alloc (.cells #[.int .i64 t.kind, .string t.name, .int .i64 t.n, .slice wo m wc, .slice ko m kc] 38) = w1 := ⟨_, rfl⟩
  obtain ⟨w2, h2⟩ : ∃ w2, w1.alloc (.cells #[.int .i64 0, .string ⟨#[]⟩, .int .i64 0, .slice none 0 0, .slice none 0 0] 38) = w2 := ⟨_, rfl⟩
  obtain ⟨W3, h3⟩ : ∃ w3, w2.alloc (.cells #[.int .i64 t.kind, .string t.name, .int .i64 t.n, .slice none 0 0, .slice none 0 0] 38) = w3 := ⟨_, rfl⟩
  obtain ⟨k1, q1, z1⟩ := box_new h1
  obtain ⟨k2, q2, z2⟩ := box_new h2
  obtain ⟨k3, q3, z3⟩ := box_new h3
  have K1 := Lib.hid ((k1.below q2).below q3)
  have K2 := Lib.hid (k2.below q3)
  have BW := Lib.hid (q1.trans ((q2.trans (q3.mono q2.size)).mono q1.size))
  have ZZ := Lib.hid (And.intro z1 (And.intro z2 z3))
  obtain ⟨mb, hmb⟩ : ∃ mb, w2.heap.size = mb := ⟨_, rfl⟩
  have HMB := Lib.hid hmb
  have TS0 := Lib.hid (show TS W3 W3 mb t (.slice none 0 0) (.slice none 0 0) (.slice none 0 0) (.slice none 0 0) (.slice none 0 0) [] [] [] from
    ⟨ownTm_nil _ _, ownW_nil _ _, ownK_nil _ _, .inl rfl, .inl rfl, .inl rfl, by rw [← hmb]; exact k3, by rw [z3, ← hmb]; exact Nat.lt_succ_self _, ⟨rfl, rfl, rfl, Nat.le_refl _, fun _ _ _ => rfl⟩⟩)
  have H3 := Lib.hid h3
  obtain ⟨c0, c1, c2, c3, c4⟩ := cell5 k1
  obtain ⟨d0, d1, d2, d3, d4⟩ := cell5 (k1.below q2)
  have hlw : mb < W3.heap.size := by rw [z3, ← hmb]; exact Nat.lt_succ_self _
  have hle : w.heap.size ≤ mb ∧ w.heap.size ≠ mb := by rw [← hmb, z2, z1]; omega
  have HLE := Lib.hid hle
  have HNB := Lib.hid (show w1.heap.size ≠ mb by rw [← hmb, z2]; omega)
  have HNB2 := Lib.hid (show w.heap.size ≤ w1.heap.size by omega)
  have HNB3 := Lib.hid (show w1.heap.size < W3.heap.size by omega)
  have hlt2 : w.heap.size < w2.heap.size := by omega
  have HC2 := Lib.hid (show ∀ w', AnyTS W3 mb t w' → w'.cell? ⟨w.heap.size, 4, none⟩ = some (.slice ko m kc) from fun w' h => (h.old K1.out HLE.out.2).cell 4)
  have HC1 := Lib.hid (show ∀ w', AnyTS W3 mb t w' → Below w.heap.size w w' from fun w' h => h.be BW.out HLE.out.1)
  clear hl ht hlen hkb hm hn h3 k1 k2 k3 q1 q2 q3 z1 z2 z3 hle hmb
  go_enter Tryz.func102, Tryz.ntmps102
  go_wp2_with fail
  rw [H3.out]
  rw [HMB.out]
  clear h1 h2 H3 hlt2 c0 c1 c2 c3 c4 d0 d1 d2 d3 d4
  go_loopw [6, 20] (fun v6 v20 wr => ∃ (q : Nat) (vt wv kv : Value), q ≤ m ∧ v6 = vt ∧ v20 = .int .i64 q ∧ Hid (TS W3 wr mb t wv kv vt wv kv (msQ (t.words.zip t.kids) q) (wsQ (t.words.zip t.kids) q) (ksQ (t.words.zip t.kids) q))) (fun _ v _ => m - (intOf v).toNat)
  case atStart => exact ⟨0, _, _, _, Nat.zero_le _, rfl, rfl, TS0⟩
  case round =>
    obtain ⟨q, vt, wv, kv, hq, rfl, rfl, TQ⟩ := hrel
    have ql := q_len (t.words.zip t.kids) q
    by_cases hql : q < m
    · have hqw : q < t.words.length := by rw [HMW.out]; exact hql
      have hqk : q < t.kids.length := by rw [HM.out]; exact hql
      obtain ⟨wb, wof, rfl, hwb, hwcell⟩ := HT.out.words.cells (by omega)
      obtain ⟨kb, kof, rfl, hkb, hkcell⟩ := HT.out.kids.cells (by omega)
      have cu := (HC1.out _ TQ.out.any).cell (p := ⟨wb, wof + q, none⟩) hwb
      rw [hwcell q hqw] at cu
      have cz := (HC1.out _ TQ.out.any).cell (p := ⟨kb, kof + q, none⟩) hkb
      rw [hkcell q hqk] at cz
      have QM := Lib.hid (fun h => q_mark (q := q) HMW.out HM.out hql h)
      have QP := Lib.hid (fun h => q_plain (q := q) HMW.out HM.out hql h)
      have hzr := HKB.out _ (getD_mem hqk)
      have hkc3 := hkcell q hqk
      obtain ⟨u, hu⟩ : ∃ u, t.words.getD q ⟨#[]⟩ = u := ⟨_, rfl⟩
      obtain ⟨z, hz⟩ : ∃ z, t.kids.getD q 0 = z := ⟨_, rfl⟩
      rw [hu] at cu QM QP
      rw [hz] at cz QM QP hzr hkc3
      have HC3 := Lib.hid (show ∀ w', AnyTS W3 mb t w' → w'.cell? ⟨kb, kof + q, none⟩ = some (.int .i64 z) from fun w' h => ((HC1.out _ h).cell (p := ⟨kb, kof + q, none⟩) hkb).trans hkc3)
      obtain ⟨ms0, hms⟩ : ∃ x, msQ (t.words.zip t.kids) q = x := ⟨_, rfl⟩
      obtain ⟨ws0, hws⟩ : ∃ x, wsQ (t.words.zip t.kids) q = x := ⟨_, rfl⟩
      obtain ⟨ks0, hks⟩ : ∃ x, ksQ (t.words.zip t.kids) q = x := ⟨_, rfl⟩
      rw [hms, hws, hks] at TQ ql
      rw [hms, hws, hks] at QM QP
      have cm4 := HC2.out _ TQ.out.any
      have cw3 := TQ.out.box.cell 3
      have cw4 := TQ.out.box.cell 4
      simp only [List.getElem?_toArray, List.getElem?_cons_zero, List.getElem?_cons_succ] at cw3 cw4
      clear hu hz hwcell hkcell hkc3 hwb hkb hms hws hks
      cases hm1 : (u.toList == [61])
      · cases hm2 : (u.toList == [126])
        · have HQ1 := Lib.hid (QP.out (show markB u = false by unfold markB; rw [hm1, hm2]; rfl))
          clear QM QP
          go_upto_region 9 with fail
          obtain ⟨wz, hwz⟩ : ∃ wz, wz = wr := ⟨_, rfl⟩
          subst hwz
          have TZ := TQ
          have HNW := Lib.hid (show ∀ b, wz.heap.size ≤ b → wv.ownBlock ≠ some b from fun b hb e => by have := row_lt TZ.out.wr b e; omega)
          have HWS := Lib.hid (rfl : (1 : Nat) = 1)
          have HKS := Lib.hid (rfl : (1 : Nat) = 1)
          refine GoG.start [(15, ⟨mb, 3, none⟩, wv), (17, ⟨mb, 4, none⟩, kv), (17, ⟨w.heap.size, 4, none⟩, .slice (some ⟨kb, kof, none⟩) m kc), (17, ⟨kb, kof + q, none⟩, .int .i64 z)] (by kernel_rfl) ?_ ?_
          · exact (Keeps.cons (by first | assumption | simp [*]) (Keeps.cons (by first | assumption | simp [*]) (Keeps.cons (by first | assumption | simp [*]) (Keeps.cons (by first | assumption | simp [*]) Keeps.nil))))
          refine GoG.take (i := 0) (v := ?_) [] rfl (by kernel_rfl) (by kernel_rfl) (by kernel_rfl) (by kernel_rfl) (by kernel_rfl) (by kernel_rfl) (fun _ _ _ h => h) (yields_free (by rfl) (fun w => ?_)) ?_
          rotate_left
          · go_simp; try (with_reducible rfl)
          try simp only [Act.put, List.getElem_toArray, List.getElem_cons_succ, List.getElem_cons_zero, List.setIfInBounds_toArray, List.set_cons_zero, List.set_cons_succ]
          refine GoG.take (i := 1) (v := ?_) [15] rfl (by kernel_rfl) (by kernel_rfl) (by kernel_rfl) (by kernel_rfl) (by kernel_rfl) (by kernel_rfl) (fun _ _ _ h => h) (yields_load 15 ⟨mb, 3, none⟩ (wv) (by simp) (by decide) (by rfl) (fun w hw => ?_)) ?_
          rotate_left
          · go_simp; try (with_reducible rfl)
          try simp only [Act.put, List.getElem_toArray, List.getElem_cons_succ, List.getElem_cons_zero, List.setIfInBounds_toArray, List.set_cons_zero, List.set_cons_succ]
          refine GoG.take (i := 2) (v := ?_) [] rfl (by kernel_rfl) (by kernel_rfl) (by kernel_rfl) (by kernel_rfl) (by kernel_rfl) (by kernel_rfl) (fun _ _ _ h => h) (yields_free (by rfl) (fun w => ?_)) ?_
          rotate_left
          · go_simp; try (with_reducible rfl)
          try simp only [Act.put, List.getElem_toArray, List.getElem_cons_succ, List.getElem_cons_zero, List.setIfInBounds_toArray, List.set_cons_zero, List.set_cons_succ]
          refine GoG.take (i := 5) (v := ?_) [] rfl (by kernel_rfl) (by kernel_rfl) (by kernel_rfl) (by kernel_rfl) (by kernel_rfl) (by kernel_rfl) (fun _ _ _ h => h) (yields_free (by rfl) (fun w => ?_)) ?_
          rotate_left
          · go_simp; try (with_reducible rfl)
          try simp only [Act.put, List.getElem_toArray, List.getElem_cons_succ, List.getElem_cons_zero, List.setIfInBounds_toArray, List.set_cons_zero, List.set_cons_succ]
          refine GoG.take (i := 6) (v := ?_) [17] rfl (by kernel_rfl) (by kernel_rfl) (by kernel_rfl) (by kernel_rfl) (by kernel_rfl) (by kernel_rfl) (fun _ _ _ h => h) (yields_load 17 ⟨mb, 4, none⟩ (kv) (by simp) (by decide) (by rfl) (fun w hw => ?_)) ?_
          rotate_left
          · go_simp; try (with_reducible rfl)
          try simp only [Act.put, List.getElem_toArray, List.getElem_cons_succ, List.getElem_cons_zero, List.setIfInBounds_toArray, List.set_cons_zero, List.set_cons_succ]
          refine GoG.take (i := 7) (v := ?_) [] rfl (by kernel_rfl) (by kernel_rfl) (by kernel_rfl) (by kernel_rfl) (by kernel_rfl) (by kernel_rfl) (fun _ _ _ h => h) (yields_free (by rfl) (fun w => ?_)) ?_
          rotate_left
          · go_simp; try (with_reducible rfl)
          try simp only [Act.put, List.getElem_toArray, List.getElem_cons_succ, List.getElem_cons_zero, List.setIfInBounds_toArray, List.set_cons_zero, List.set_cons_succ]
          refine GoG.take (i := 8) (v := ?_) [17] rfl (by kernel_rfl) (by kernel_rfl) (by kernel_rfl) (by kernel_rfl) (by kernel_rfl) (by kernel_rfl) (fun _ _ _ h => h) (yields_load 17 ⟨w.heap.size, 4, none⟩ (.slice (some ⟨kb, kof, none⟩) m kc) (by simp) (by decide) (by rfl) (fun w hw => ?_)) ?_
          rotate_left
          · go_simp; try (with_reducible rfl)
          try simp only [Act.put, List.getElem_toArray, List.getElem_cons_succ, List.getElem_cons_zero, List.setIfInBounds_toArray, List.set_cons_zero, List.set_cons_succ]
          refine GoG.take (i := 9) (v := ?_) [] rfl (by kernel_rfl) (by kernel_rfl) (by kernel_rfl) (by kernel_rfl) (by kernel_rfl) (by kernel_rfl) (fun _ _ _ h => h) (yields_free (by rfl) (fun w => ?_)) ?_
          rotate_left
          · go_simp; try (with_reducible rfl)
          try simp only [Act.put, List.getElem_toArray, List.getElem_cons_succ, List.getElem_cons_zero, List.setIfInBounds_toArray, List.set_cons_zero, List.set_cons_succ]
          refine GoG.take (i := 10) (v := ?_) [] rfl (by kernel_rfl) (by kernel_rfl) (by kernel_rfl) (by kernel_rfl) (by kernel_rfl) (by kernel_rfl) (fun _ _ _ h => h) (yields_free (by rfl) (fun w => ?_)) ?_
          rotate_left
          · go_simp; try (with_reducible rfl)
          try simp only [Act.put, List.getElem_toArray, List.getElem_cons_succ, List.getElem_cons_zero, List.setIfInBounds_toArray, List.set_cons_zero, List.set_cons_succ]
          refine GoG.take (i := 11) (v := ?_) [17] rfl (by kernel_rfl) (by kernel_rfl) (by kernel_rfl) (by kernel_rfl) (by kernel_rfl) (by kernel_rfl) (fun _ _ _ h => h) (yields_load 17 ⟨kb, kof + q, none⟩ (.int .i64 z) (by simp) (by decide) (by rfl) (fun w hw => ?_)) ?_
          rotate_left
          · go_simp; try (with_reducible rfl)
          try simp only [Act.put, List.getElem_toArray, List.getElem_cons_succ, List.getElem_cons_zero, List.setIfInBounds_toArray, List.set_cons_zero, List.set_cons_succ]
          refine GoG.two (i := 3) (j := 12) rfl rfl (by kernel_rfl) (fun K hK => ?_) (fun K hK => ?_)
          · have T1 := Lib.hid (TZ.out.kept (show Below wz.heap.size wz (wz.alloc (.cells #[.string u] 9)).drew from ((Below.refl _ _).alloc (Nat.le_refl _) _).drew))
            have K1 := Lib.hid (show BlockAt (wz.alloc (.cells #[.string u] 9)).drew (wz.heap.size) #[.string u] 9 from BlockAt.new _ _ _)
            go_simp
            refine hK.out _ _ (Keeps.cons (T1.out.box.cell 3) (Keeps.cons (T1.out.box.cell 4) (Keeps.cons (HC2.out _ T1.out.any) (Keeps.cons (HC3.out _ T1.out.any) Keeps.nil)))) ?_
            clear hK K
            try simp only [Act.put, List.getElem_toArray, List.getElem_cons_succ, List.getElem_cons_zero, List.setIfInBounds_toArray, List.set_cons_zero, List.set_cons_succ]
            refine GoG.two (i := 4) (j := 12) rfl rfl (by kernel_rfl) (fun K hK => ?_) (fun K hK => ?_)
            · obtain ⟨v5, w5, hap, hown, hgrow, -, hblk⟩ := run_append_own_at (P := Tryz.prog) (wz.alloc (.cells #[.string u] 9)).drew W3.heap.size 35 35 9 s0 (.string ⟨#[]⟩) 1 16 Tryz.underlying35 hsi hs0 hs1 hs2 rfl (by decide) wv ws0.length (strC ws0) T1.out.wr ⟨wz.heap.size, 0, none⟩ 1 1 [.string u] rfl (cell_at1 K1.out) (fun u hu => by rw [List.mem_singleton.1 hu]; rfl) (by unfold maxLen; omega) (by omega) T1.out.gr.size
              have T5 := Lib.hid (T1.out.pushW hgrow hown hblk)
              obtain ⟨aov5, acv5, ev5, -, -⟩ := ownW_row T5.out.wr
              rw [List.length_append, List.length_singleton] at ev5
              subst ev5
              rw [if_pos (by rfl)]
              refine wp_run_append _ _ _ rfl _ _ _ rfl rfl hap ?_
              refine hK.out _ _ (Keeps.cons (T5.out.box.cell 3) (Keeps.cons (T5.out.box.cell 4) (Keeps.cons (HC2.out _ T5.out.any) (Keeps.cons (HC3.out _ T5.out.any) Keeps.nil)))) ?_
              clear hK K hap hown hgrow hblk
              try simp only [Act.put, List.getElem_toArray, List.getElem_cons_succ, List.getElem_cons_zero, List.setIfInBounds_toArray, List.set_cons_zero, List.set_cons_succ]
              refine GoG.take (i := 14) (v := ?_) [] rfl (by kernel_rfl) (by kernel_rfl) (by kernel_rfl) (by kernel_rfl) (by kernel_rfl) (by kernel_rfl) (fun _ _ _ h => h) (yields_free (by rfl) (fun w => ?_)) ?_
              rotate_left
              · go_simp; try (with_reducible rfl)
              try simp only [Act.put, List.getElem_toArray, List.getElem_cons_succ, List.getElem_cons_zero, List.setIfInBounds_toArray, List.set_cons_zero, List.set_cons_succ]
              have T7 := Lib.hid (T5.out.kept (show Below w5.heap.size w5 (w5.alloc (.cells #[.int .i64 z] 3)) from (Below.refl _ _).alloc (Nat.le_refl _) _))
              have K7 := Lib.hid (show BlockAt (w5.alloc (.cells #[.int .i64 z] 3)) (w5.heap.size) #[.int .i64 z] 3 from BlockAt.new _ _ _)
              refine GoG.one (i := 12) rfl (by kernel_rfl) (fun K hK => ?_)
              go_simp
              refine hK.out _ _ (Keeps.cons (T7.out.box.cell 3) (Keeps.cons (T7.out.box.cell 4) (Keeps.cons (HC2.out _ T7.out.any) (Keeps.cons (HC3.out _ T7.out.any) Keeps.nil)))) ?_
              clear hK K
              try simp only [Act.put, List.getElem_toArray, List.getElem_cons_succ, List.getElem_cons_zero, List.setIfInBounds_toArray, List.set_cons_zero, List.set_cons_succ]
              obtain ⟨v6, w6, hap, hown, hgrow, -, hblk⟩ := run_append_own_at (P := Tryz.prog) (w5.alloc (.cells #[.int .i64 z] 3)) W3.heap.size 36 36 3 k0 (.int .i64 0) 1 8 Tryz.underlying36 hki hk0 hk1 hk2 rfl (by decide) kv ks0.length (intC ks0) T7.out.kr ⟨w5.heap.size, 0, none⟩ 1 1 [.int .i64 z] rfl (cell_at1 K7.out) (fun u hu => by rw [List.mem_singleton.1 hu]; rfl) (by unfold maxLen; omega) (by omega) T7.out.gr.size
              have T6 := Lib.hid (T7.out.pushK hgrow hown hblk)
              obtain ⟨aov6, acv6, ev6, -, -⟩ := ownK_row T6.out.kr
              rw [List.length_append, List.length_singleton] at ev6
              subst ev6
              refine GoG.one (i := 13) rfl (by kernel_rfl) (fun K hK => ?_)
              rw [if_pos (by rfl)]
              refine wp_run_append _ _ _ rfl _ _ _ rfl rfl hap ?_
              refine hK.out _ _ (Keeps.cons (T6.out.box.cell 3) (Keeps.cons (T6.out.box.cell 4) (Keeps.cons (HC2.out _ T6.out.any) (Keeps.cons (HC3.out _ T6.out.any) Keeps.nil)))) ?_
              clear hK K hap hown hgrow hblk
              try simp only [Act.put, List.getElem_toArray, List.getElem_cons_succ, List.getElem_cons_zero, List.setIfInBounds_toArray, List.set_cons_zero, List.set_cons_succ]
              have fz3 := T6.out.box.free 3
              have cz3 := T6.out.box.cell 3
              simp only [List.getElem?_toArray, List.getElem?_cons_zero, List.getElem?_cons_succ] at cz3
              have TA := Lib.hid (T6.out.store3 (.slice aov5 (ws0.length + 1) acv5))
              refine GoG.one (i := 15) rfl (by kernel_rfl) (fun K hK => ?_)
              go_simp
              clear fz3 cz3
              refine hK.out _ _ (Keeps.up (by rfl) (Keeps.cons (TA.out.box.cell 4) (Keeps.cons (HC2.out _ TA.out.any) (Keeps.cons (HC3.out _ TA.out.any) Keeps.nil)))) ?_
              clear hK K
              try simp only [Act.put, List.getElem_toArray, List.getElem_cons_succ, List.getElem_cons_zero, List.setIfInBounds_toArray, List.set_cons_zero, List.set_cons_succ]
              refine GoG.take (i := 16) (v := ?_) [] rfl (by kernel_rfl) (by kernel_rfl) (by kernel_rfl) (by kernel_rfl) (by kernel_rfl) (by kernel_rfl) (fun _ _ _ h => h) (yields_free (by rfl) (fun w => ?_)) ?_
              rotate_left
              · go_simp; try (with_reducible rfl)
              try simp only [Act.put, List.getElem_toArray, List.getElem_cons_succ, List.getElem_cons_zero, List.setIfInBounds_toArray, List.set_cons_zero, List.set_cons_succ]
              have fz4 := TA.out.box.free 4
              have cz4 := TA.out.box.cell 4
              simp only [List.getElem?_toArray, List.getElem?_cons_zero, List.getElem?_cons_succ] at cz4
              have TB := Lib.hid (TA.out.store4 (.slice aov6 (ks0.length + 1) acv6))
              refine GoG.one (i := 17) rfl (by kernel_rfl) (fun K hK => ?_)
              go_simp
              clear fz4 cz4
              refine hK.out _ _ (Keeps.up (by rfl) (Keeps.up (by rfl) (Keeps.up (by rfl) (Keeps.up (by rfl) Keeps.nil)))) ?_
              clear hK K
              try simp only [Act.put, List.getElem_toArray, List.getElem_cons_succ, List.getElem_cons_zero, List.setIfInBounds_toArray, List.set_cons_zero, List.set_cons_succ]
              refine GoG.done (by kernel_rfl) ?_ _
              clear HC2 HC3 HNW
              go_wp2_with fail
              go_roundw
              case rel => exact ⟨q + 1, _, _, _, by omega, rfl, by go_num, Lib.hid (by rw [HQ1.out.1, HQ1.out.2.1, HQ1.out.2.2, HWS.out, HKS.out]; exact TB.out)⟩
              case measure => first | (simp [intOf]; done) | (simp [intOf]; omega)
            · have T2 := Lib.hid (TZ.out.kept (show Below wz.heap.size wz ((wz.alloc (.cells #[.string u] 9)).alloc (.cells #[.int .i64 z] 3)).drew from (((Below.refl _ _).alloc (Nat.le_refl _) _).alloc (by simp) _).drew))
              have K2 := Lib.hid (show BlockAt ((wz.alloc (.cells #[.string u] 9)).alloc (.cells #[.int .i64 z] 3)).drew (wz.heap.size + 1) #[.int .i64 z] 3 from (show BlockAt ((wz.alloc (.cells #[.string u] 9)).alloc (.cells #[.int .i64 z] 3)) (wz.heap.size + 1) #[.int .i64 z] 3 from by simpa using BlockAt.new (wz.alloc (.cells #[.string u] 9)) #[.int .i64 z] 3))
              have K3 := Lib.hid (show BlockAt ((wz.alloc (.cells #[.string u] 9)).alloc (.cells #[.int .i64 z] 3)).drew wz.heap.size #[.string u] 9 from (BlockAt.new wz #[.string u] 9).below ((Below.refl _ _).alloc (Nat.le_refl _) _).drew)
              go_simp
              refine hK.out _ _ (Keeps.cons (T2.out.box.cell 3) (Keeps.cons (T2.out.box.cell 4) (Keeps.cons (HC2.out _ T2.out.any) (Keeps.cons (HC3.out _ T2.out.any) Keeps.nil)))) ?_
              clear hK K
              try simp only [Act.put, List.getElem_toArray, List.getElem_cons_succ, List.getElem_cons_zero, List.setIfInBounds_toArray, List.set_cons_zero, List.set_cons_succ]
              obtain ⟨v5, w5, hap, hown, hgrow, -, hblk⟩ := run_append_own_at (P := Tryz.prog) ((wz.alloc (.cells #[.string u] 9)).alloc (.cells #[.int .i64 z] 3)).drew W3.heap.size 35 35 9 s0 (.string ⟨#[]⟩) 1 16 Tryz.underlying35 hsi hs0 hs1 hs2 rfl (by decide) wv ws0.length (strC ws0) T2.out.wr ⟨wz.heap.size, 0, none⟩ 1 1 [.string u] rfl (cell_at1 K3.out) (fun u hu => by rw [List.mem_singleton.1 hu]; rfl) (by unfold maxLen; omega) (by omega) T2.out.gr.size
              have T5 := Lib.hid (T2.out.pushW hgrow hown hblk)
              obtain ⟨aov5, acv5, ev5, -, -⟩ := ownW_row T5.out.wr
              rw [List.length_append, List.length_singleton] at ev5
              subst ev5
              have K5 := Lib.hid (fresh_grown K2.out (HNW.out _ (by simp)) hgrow)
              refine GoG.one (i := 4) rfl (by kernel_rfl) (fun K hK => ?_)
              rw [if_pos (by rfl)]
              refine wp_run_append _ _ _ rfl _ _ _ rfl rfl hap ?_
              refine hK.out _ _ (Keeps.cons (T5.out.box.cell 3) (Keeps.cons (T5.out.box.cell 4) (Keeps.cons (HC2.out _ T5.out.any) (Keeps.cons (HC3.out _ T5.out.any) Keeps.nil)))) ?_
              clear hK K hap hown hgrow hblk
              try simp only [Act.put, List.getElem_toArray, List.getElem_cons_succ, List.getElem_cons_zero, List.setIfInBounds_toArray, List.set_cons_zero, List.set_cons_succ]
              refine GoG.take (i := 14) (v := ?_) [] rfl (by kernel_rfl) (by kernel_rfl) (by kernel_rfl) (by kernel_rfl) (by kernel_rfl) (by kernel_rfl) (fun _ _ _ h => h) (yields_free (by rfl) (fun w => ?_)) ?_
              rotate_left
              · go_simp; try (with_reducible rfl)
              try simp only [Act.put, List.getElem_toArray, List.getElem_cons_succ, List.getElem_cons_zero, List.setIfInBounds_toArray, List.set_cons_zero, List.set_cons_succ]
              obtain ⟨v6, w6, hap, hown, hgrow, -, hblk⟩ := run_append_own_at (P := Tryz.prog) w5 W3.heap.size 36 36 3 k0 (.int .i64 0) 1 8 Tryz.underlying36 hki hk0 hk1 hk2 rfl (by decide) kv ks0.length (intC ks0) T5.out.kr ⟨wz.heap.size + 1, 0, none⟩ 1 1 [.int .i64 z] rfl (cell_at1 K5.out) (fun u hu => by rw [List.mem_singleton.1 hu]; rfl) (by unfold maxLen; omega) (by omega) T5.out.gr.size
              have T6 := Lib.hid (T5.out.pushK hgrow hown hblk)
              obtain ⟨aov6, acv6, ev6, -, -⟩ := ownK_row T6.out.kr
              rw [List.length_append, List.length_singleton] at ev6
              subst ev6
              refine GoG.one (i := 13) rfl (by kernel_rfl) (fun K hK => ?_)
              rw [if_pos (by rfl)]
              refine wp_run_append _ _ _ rfl _ _ _ rfl rfl hap ?_
              refine hK.out _ _ (Keeps.cons (T6.out.box.cell 3) (Keeps.cons (T6.out.box.cell 4) (Keeps.cons (HC2.out _ T6.out.any) (Keeps.cons (HC3.out _ T6.out.any) Keeps.nil)))) ?_
              clear hK K hap hown hgrow hblk
              try simp only [Act.put, List.getElem_toArray, List.getElem_cons_succ, List.getElem_cons_zero, List.setIfInBounds_toArray, List.set_cons_zero, List.set_cons_succ]
              have fz3 := T6.out.box.free 3
              have cz3 := T6.out.box.cell 3
              simp only [List.getElem?_toArray, List.getElem?_cons_zero, List.getElem?_cons_succ] at cz3
              have TA := Lib.hid (T6.out.store3 (.slice aov5 (ws0.length + 1) acv5))
              refine GoG.one (i := 15) rfl (by kernel_rfl) (fun K hK => ?_)
              go_simp
              clear fz3 cz3
              refine hK.out _ _ (Keeps.up (by rfl) (Keeps.cons (TA.out.box.cell 4) (Keeps.cons (HC2.out _ TA.out.any) (Keeps.cons (HC3.out _ TA.out.any) Keeps.nil)))) ?_
              clear hK K
              try simp only [Act.put, List.getElem_toArray, List.getElem_cons_succ, List.getElem_cons_zero, List.setIfInBounds_toArray, List.set_cons_zero, List.set_cons_succ]
              refine GoG.take (i := 16) (v := ?_) [] rfl (by kernel_rfl) (by kernel_rfl) (by kernel_rfl) (by kernel_rfl) (by kernel_rfl) (by kernel_rfl) (fun _ _ _ h => h) (yields_free (by rfl) (fun w => ?_)) ?_
              rotate_left
              · go_simp; try (with_reducible rfl)
              try simp only [Act.put, List.getElem_toArray, List.getElem_cons_succ, List.getElem_cons_zero, List.setIfInBounds_toArray, List.set_cons_zero, List.set_cons_succ]
              have fz4 := TA.out.box.free 4
              have cz4 := TA.out.box.cell 4
              simp only [List.getElem?_toArray, List.getElem?_cons_zero, List.getElem?_cons_succ] at cz4
              have TB := Lib.hid (TA.out.store4 (.slice aov6 (ks0.length + 1) acv6))
              refine GoG.one (i := 17) rfl (by kernel_rfl) (fun K hK => ?_)
              go_simp
              clear fz4 cz4
              refine hK.out _ _ (Keeps.up (by rfl) (Keeps.up (by rfl) (Keeps.up (by rfl) (Keeps.up (by rfl) Keeps.nil)))) ?_
              clear hK K
              try simp only [Act.put, List.getElem_toArray, List.getElem_cons_succ, List.getElem_cons_zero, List.setIfInBounds_toArray, List.set_cons_zero, List.set_cons_succ]
              refine GoG.done (by kernel_rfl) ?_ _
              clear HC2 HC3 HNW
              go_wp2_with fail
              go_roundw
              case rel => exact ⟨q + 1, _, _, _, by omega, rfl, by go_num, Lib.hid (by rw [HQ1.out.1, HQ1.out.2.1, HQ1.out.2.2, HWS.out, HKS.out]; exact TB.out)⟩
              case measure => first | (simp [intOf]; done) | (simp [intOf]; omega)
          · have T1 := Lib.hid (TZ.out.kept (show Below wz.heap.size wz (wz.alloc (.cells #[.int .i64 z] 3)).drew from ((Below.refl _ _).alloc (Nat.le_refl _) _).drew))
            have K1 := Lib.hid (show BlockAt (wz.alloc (.cells #[.int .i64 z] 3)).drew (wz.heap.size) #[.int .i64 z] 3 from BlockAt.new _ _ _)
            go_simp
            refine hK.out _ _ (Keeps.cons (T1.out.box.cell 3) (Keeps.cons (T1.out.box.cell 4) (Keeps.cons (HC2.out _ T1.out.any) (Keeps.cons (HC3.out _ T1.out.any) Keeps.nil)))) ?_
            clear hK K
            try simp only [Act.put, List.getElem_toArray, List.getElem_cons_succ, List.getElem_cons_zero, List.setIfInBounds_toArray, List.set_cons_zero, List.set_cons_succ]
            have T2 := Lib.hid (TZ.out.kept (show Below wz.heap.size wz ((wz.alloc (.cells #[.int .i64 z] 3)).alloc (.cells #[.string u] 9)).drew from (((Below.refl _ _).alloc (Nat.le_refl _) _).alloc (by simp) _).drew))
            have K2 := Lib.hid (show BlockAt ((wz.alloc (.cells #[.int .i64 z] 3)).alloc (.cells #[.string u] 9)).drew (wz.heap.size + 1) #[.string u] 9 from (show BlockAt ((wz.alloc (.cells #[.int .i64 z] 3)).alloc (.cells #[.string u] 9)) (wz.heap.size + 1) #[.string u] 9 from by simpa using BlockAt.new (wz.alloc (.cells #[.int .i64 z] 3)) #[.string u] 9))
            have K3 := Lib.hid (show BlockAt ((wz.alloc (.cells #[.int .i64 z] 3)).alloc (.cells #[.string u] 9)).drew wz.heap.size #[.int .i64 z] 3 from (BlockAt.new wz #[.int .i64 z] 3).below ((Below.refl _ _).alloc (Nat.le_refl _) _).drew)
            refine GoG.one (i := 3) rfl (by kernel_rfl) (fun K hK => ?_)
            go_simp
            refine hK.out _ _ (Keeps.cons (T2.out.box.cell 3) (Keeps.cons (T2.out.box.cell 4) (Keeps.cons (HC2.out _ T2.out.any) (Keeps.cons (HC3.out _ T2.out.any) Keeps.nil)))) ?_
            clear hK K
            try simp only [Act.put, List.getElem_toArray, List.getElem_cons_succ, List.getElem_cons_zero, List.setIfInBounds_toArray, List.set_cons_zero, List.set_cons_succ]
            obtain ⟨v5, w5, hap, hown, hgrow, -, hblk⟩ := run_append_own_at (P := Tryz.prog) ((wz.alloc (.cells #[.int .i64 z] 3)).alloc (.cells #[.string u] 9)).drew W3.heap.size 35 35 9 s0 (.string ⟨#[]⟩) 1 16 Tryz.underlying35 hsi hs0 hs1 hs2 rfl (by decide) wv ws0.length (strC ws0) T2.out.wr ⟨wz.heap.size + 1, 0, none⟩ 1 1 [.string u] rfl (cell_at1 K2.out) (fun u hu => by rw [List.mem_singleton.1 hu]; rfl) (by unfold maxLen; omega) (by omega) T2.out.gr.size
            have T5 := Lib.hid (T2.out.pushW hgrow hown hblk)
            obtain ⟨aov5, acv5, ev5, -, -⟩ := ownW_row T5.out.wr
            rw [List.length_append, List.length_singleton] at ev5
            subst ev5
            have K5 := Lib.hid (fresh_grown K3.out (HNW.out _ (by simp)) hgrow)
            refine GoG.one (i := 4) rfl (by kernel_rfl) (fun K hK => ?_)
            rw [if_pos (by rfl)]
            refine wp_run_append _ _ _ rfl _ _ _ rfl rfl hap ?_
            refine hK.out _ _ (Keeps.cons (T5.out.box.cell 3) (Keeps.cons (T5.out.box.cell 4) (Keeps.cons (HC2.out _ T5.out.any) (Keeps.cons (HC3.out _ T5.out.any) Keeps.nil)))) ?_
            clear hK K hap hown hgrow hblk
            try simp only [Act.put, List.getElem_toArray, List.getElem_cons_succ, List.getElem_cons_zero, List.setIfInBounds_toArray, List.set_cons_zero, List.set_cons_succ]
            refine GoG.take (i := 14) (v := ?_) [] rfl (by kernel_rfl) (by kernel_rfl) (by kernel_rfl) (by kernel_rfl) (by kernel_rfl) (by kernel_rfl) (fun _ _ _ h => h) (yields_free (by rfl) (fun w => ?_)) ?_
            rotate_left
            · go_simp; try (with_reducible rfl)
            try simp only [Act.put, List.getElem_toArray, List.getElem_cons_succ, List.getElem_cons_zero, List.setIfInBounds_toArray, List.set_cons_zero, List.set_cons_succ]
            obtain ⟨v6, w6, hap, hown, hgrow, -, hblk⟩ := run_append_own_at (P := Tryz.prog) w5 W3.heap.size 36 36 3 k0 (.int .i64 0) 1 8 Tryz.underlying36 hki hk0 hk1 hk2 rfl (by decide) kv ks0.length (intC ks0) T5.out.kr ⟨wz.heap.size, 0, none⟩ 1 1 [.int .i64 z] rfl (cell_at1 K5.out) (fun u hu => by rw [List.mem_singleton.1 hu]; rfl) (by unfold maxLen; omega) (by omega) T5.out.gr.size
            have T6 := Lib.hid (T5.out.pushK hgrow hown hblk)
            obtain ⟨aov6, acv6, ev6, -, -⟩ := ownK_row T6.out.kr
            rw [List.length_append, List.length_singleton] at ev6
            subst ev6
            refine GoG.one (i := 13) rfl (by kernel_rfl) (fun K hK => ?_)
            rw [if_pos (by rfl)]
            refine wp_run_append _ _ _ rfl _ _ _ rfl rfl hap ?_
            refine hK.out _ _ (Keeps.cons (T6.out.box.cell 3) (Keeps.cons (T6.out.box.cell 4) (Keeps.cons (HC2.out _ T6.out.any) (Keeps.cons (HC3.out _ T6.out.any) Keeps.nil)))) ?_
            clear hK K hap hown hgrow hblk
            try simp only [Act.put, List.getElem_toArray, List.getElem_cons_succ, List.getElem_cons_zero, List.setIfInBounds_toArray, List.set_cons_zero, List.set_cons_succ]
            have fz3 := T6.out.box.free 3
            have cz3 := T6.out.box.cell 3
            simp only [List.getElem?_toArray, List.getElem?_cons_zero, List.getElem?_cons_succ] at cz3
            have TA := Lib.hid (T6.out.store3 (.slice aov5 (ws0.length + 1) acv5))
            refine GoG.one (i := 15) rfl (by kernel_rfl) (fun K hK => ?_)
            go_simp
            clear fz3 cz3
            refine hK.out _ _ (Keeps.up (by rfl) (Keeps.cons (TA.out.box.cell 4) (Keeps.cons (HC2.out _ TA.out.any) (Keeps.cons (HC3.out _ TA.out.any) Keeps.nil)))) ?_
            clear hK K
            try simp only [Act.put, List.getElem_toArray, List.getElem_cons_succ, List.getElem_cons_zero, List.setIfInBounds_toArray, List.set_cons_zero, List.set_cons_succ]
            refine GoG.take (i := 16) (v := ?_) [] rfl (by kernel_rfl) (by kernel_rfl) (by kernel_rfl) (by kernel_rfl) (by kernel_rfl) (by kernel_rfl) (fun _ _ _ h => h) (yields_free (by rfl) (fun w => ?_)) ?_
            rotate_left
            · go_simp; try (with_reducible rfl)
            try simp only [Act.put, List.getElem_toArray, List.getElem_cons_succ, List.getElem_cons_zero, List.setIfInBounds_toArray, List.set_cons_zero, List.set_cons_succ]
            have fz4 := TA.out.box.free 4
            have cz4 := TA.out.box.cell 4
            simp only [List.getElem?_toArray, List.getElem?_cons_zero, List.getElem?_cons_succ] at cz4
            have TB := Lib.hid (TA.out.store4 (.slice aov6 (ks0.length + 1) acv6))
            refine GoG.one (i := 17) rfl (by kernel_rfl) (fun K hK => ?_)
            go_simp
            clear fz4 cz4
            refine hK.out _ _ (Keeps.up (by rfl) (Keeps.up (by rfl) (Keeps.up (by rfl) (Keeps.up (by rfl) Keeps.nil)))) ?_
            clear hK K
            try simp only [Act.put, List.getElem_toArray, List.getElem_cons_succ, List.getElem_cons_zero, List.setIfInBounds_toArray, List.set_cons_zero, List.set_cons_succ]
            refine GoG.done (by kernel_rfl) ?_ _
            clear HC2 HC3 HNW
            go_wp2_with fail
            go_roundw
            case rel => exact ⟨q + 1, _, _, _, by omega, rfl, by go_num, Lib.hid (by rw [HQ1.out.1, HQ1.out.2.1, HQ1.out.2.2, HWS.out, HKS.out]; exact TB.out)⟩
            case measure => first | (simp [intOf]; done) | (simp [intOf]; omega)
        · have hmk : markB u = true := by unfold markB; rw [hm1, hm2]; first | rfl | simp
          have HQ1 := Lib.hid (QM.out hmk)
          have HEN := Lib.hid (enc_mark (z := z) hmk)
          have HTM := Lib.hid (show wr.ownsRow W3.heap.size 135 2 _ ms0.length (tmC ms0) from TQ.out.tm)
          have HSZ := Lib.hid (show W3.heap.size ≤ wr.heap.size from TQ.out.gr.size)
          clear QM QP hmk
          go_wp2_with (at_builtin; refine wpList_append_own_at _ rfl _ _ 133 rfl W3.heap.size 135 t0 (.agg #[.string ⟨#[]⟩, .int .i64 0]) 2 24 Tryz.underlying133 hti ht0 ht1 ht2 rfl (by decide) _ ms0.length (tmC ms0) rfl (HTM.out.alloc _) ⟨wr.heap.size, 0, none⟩ 1 1 [.string u, .int .i64 z] rfl ?c1 ?c2 ?c3 ?c4 ?c5 ?c6 ?_)
          case c1 => rfl
          case c2 => exact cell_news _ _ _
          case c3 => exact fun v hv => by simp at hv; rcases hv with rfl | rfl <;> rfl
          case c4 => unfold maxLen; omega
          case c5 => omega
          case c6 => have := HSZ.out; simp; omega
          intro v' w3 hown3 hgrow _ hblk
          have TA := Lib.hid ((TQ.out.kept (show Below wr.heap.size wr _ from (Below.refl _ _).alloc (Nat.le_refl _) (.cells #[.string u, .int .i64 z] 135))).pushT (x := (decide (u = tiW), z)) hgrow (by rw [HEN.out]; exact hown3) (by simpa using hblk))
          clear hown3 hgrow hblk HTM HSZ HC3 cu cz cm4 cw3 cw4
          go_wp2_with fail
          go_roundw
          case rel => exact ⟨q + 1, _, _, _, by omega, rfl, by go_num, Lib.hid (by rw [HQ1.out.1, HQ1.out.2.1, HQ1.out.2.2]; exact TA.out)⟩
          case measure => first | (simp [intOf]; done) | (simp [intOf]; omega)
      · have hmk : markB u = true := by unfold markB; rw [hm1]; first | rfl | simp
        have HQ1 := Lib.hid (QM.out hmk)
        have HEN := Lib.hid (enc_mark (z := z) hmk)
        have HTM := Lib.hid (show wr.ownsRow W3.heap.size 135 2 _ ms0.length (tmC ms0) from TQ.out.tm)
        have HSZ := Lib.hid (show W3.heap.size ≤ wr.heap.size from TQ.out.gr.size)
        clear QM QP hmk
        go_wp2_with (at_builtin; refine wpList_append_own_at _ rfl _ _ 133 rfl W3.heap.size 135 t0 (.agg #[.string ⟨#[]⟩, .int .i64 0]) 2 24 Tryz.underlying133 hti ht0 ht1 ht2 rfl (by decide) _ ms0.length (tmC ms0) rfl (HTM.out.alloc _) ⟨wr.heap.size, 0, none⟩ 1 1 [.string u, .int .i64 z] rfl ?c1 ?c2 ?c3 ?c4 ?c5 ?c6 ?_)
        case c1 => rfl
        case c2 => exact cell_news _ _ _
        case c3 => exact fun v hv => by simp at hv; rcases hv with rfl | rfl <;> rfl
        case c4 => unfold maxLen; omega
        case c5 => omega
        case c6 => have := HSZ.out; simp; omega
        intro v' w3 hown3 hgrow _ hblk
        have TA := Lib.hid ((TQ.out.kept (show Below wr.heap.size wr _ from (Below.refl _ _).alloc (Nat.le_refl _) (.cells #[.string u, .int .i64 z] 135))).pushT (x := (decide (u = tiW), z)) hgrow (by rw [HEN.out]; exact hown3) (by simpa using hblk))
        clear hown3 hgrow hblk HTM HSZ HC3 cu cz cm4 cw3 cw4
        go_wp2_with fail
        go_roundw
        case rel => exact ⟨q + 1, _, _, _, by omega, rfl, by go_num, Lib.hid (by rw [HQ1.out.1, HQ1.out.2.1, HQ1.out.2.2]; exact TA.out)⟩
        case measure => first | (simp [intOf]; done) | (simp [intOf]; omega)
    · obtain rfl : q = m := by omega
      have HPS := Lib.hid (show (t.words.zip t.kids).take q = t.words.zip t.kids from List.take_of_length_le (by rw [List.length_zip]; have := HMW.out; have := HM.out; omega))
      have HSR0 := marks_kids (ws := t.words) (ks := t.kids) (L := l.length) HKB.out
      have HMS0 : msQ (t.words.zip t.kids) q = marksB (t.words.zip t.kids) := by unfold msQ; rw [HPS.out]
      have HWS0 : wsQ (t.words.zip t.kids) q = ((t.words.zip t.kids).filter fun p => !markB p.1).map (·.1) := by unfold wsQ; rw [HPS.out]
      have HKS0 : ksQ (t.words.zip t.kids) q = ((t.words.zip t.kids).filter fun p => !markB p.1).map (·.2) := by unfold ksQ; rw [HPS.out]
      obtain ⟨ms0, hms⟩ : ∃ x, msQ (t.words.zip t.kids) q = x := ⟨_, rfl⟩
      obtain ⟨ws0, hws⟩ : ∃ x, wsQ (t.words.zip t.kids) q = x := ⟨_, rfl⟩
      obtain ⟨ks0, hks⟩ : ∃ x, ksQ (t.words.zip t.kids) q = x := ⟨_, rfl⟩
      rw [hms, hws, hks] at TQ ql
      rw [hms] at HMS0
      rw [hws] at HWS0
      rw [hks] at HKS0
      rw [← HMS0] at HSR0
      obtain ⟨vo, vc, rfl⟩ := ownTm_form TQ.out.tm
      have HSR := Lib.hid (show ∀ x ∈ sortT ms0, 0 ≤ x.2 ∧ x.2 < (l.length : Int) from fun x hx => HSR0 x (by unfold sortT at hx; rwa [List.mem_mergeSort] at hx))
      have HSO := Lib.hid (fun W (h : TS W3 W mb t wv kv (.slice vo ms0.length vc) wv kv ms0 ws0 ks0) => sort_TS h (by omega))
      have HSL := Lib.hid (sortT_len ms0)
      have HFIN := Lib.hid (And.intro HMS0 (And.intro HWS0 HKS0))
      obtain ⟨N, hN⟩ : ∃ N, ms0.length = N := ⟨_, rfl⟩
      obtain ⟨S, hS⟩ : ∃ S, sortT ms0 = S := ⟨_, rfl⟩
      have HSS := Lib.hid hS
      rw [hN] at ql HSL
      rw [hS] at HSL HSR
      have HNN := Lib.hid hN
      rw [hN] at TQ HSO ⊢
      rw [hS] at HSO
      clear hN hS hms hws hks HSR0 HMS0 HWS0 HKS0
      go_wp2_with fail
      refine (HSO.out _ TQ.out).mono ?_
      rintro e w5 ⟨rfl, T5⟩
      have TQ5 := Lib.hid T5
      clear T5
      go_wp2_with fail
      go_loopw [62] (fun v wr => ∃ (k : Nat) (wv kv : Value) (pre : List Tm), k ≤ N ∧ v = .int .i64 k ∧ Hid (pre ++ lasts (S.drop k) = lasts S) ∧ Hid (pre.length ≤ k) ∧ Hid (∀ j (h : j < S.length), j < k → badT l S[j].2 = false) ∧ Hid (TS W3 wr mb t wv kv (.slice vo N vc) wv kv S (ws0 ++ pre.map (fun x => wordOf x.1)) (ks0 ++ pre.map (·.2)))) (fun v _ => N - (intOf v).toNat)
      case atStart => exact ⟨0, wv, kv, [], Nat.zero_le _, rfl, Lib.hid (by simp), Lib.hid (Nat.le_refl _), Lib.hid (fun j h h2 => absurd h2 (Nat.not_lt_zero _)), Lib.hid (by simpa using TQ5.out)⟩
      case round =>
        obtain ⟨k, wv2, kv2, pre, hk, rfl, HPRE, HPL, HBAD, TR⟩ := hrel
        by_cases hkl : k < N
        · have hkS : k < S.length := by rw [HSL.out]; exact hkl
          obtain ⟨g, rfl, hgl, hcS⟩ := ownTm_cells HSL.out TR.out.tm (by omega)
          obtain ⟨cA, cB⟩ := hcS k hkS
          have hzr := HSR.out _ (List.getElem_mem hkS)
          obtain ⟨x, hx⟩ : ∃ x, S[k] = x := ⟨_, rfl⟩
          rw [hx] at cA cB hzr
          have HXS := Lib.hid hx
          obtain ⟨bx, z⟩ := x
          obtain ⟨wd, hwd⟩ : ∃ wd, wordOf bx = wd := ⟨_, rfl⟩
          have hzr : 0 ≤ z ∧ z < (l.length : Int) := hzr
          have cA : wr.cell? ⟨g, k * 2, none⟩ = some (.string wd) := by rw [← hwd]; exact cA
          have cB : wr.cell? ⟨g, k * 2 + 1, none⟩ = some (.int .i64 z) := cB
          have HWD := Lib.hid hwd
          obtain ⟨zn, rfl⟩ : ∃ zn : Nat, z = (zn : Int) := ⟨z.toNat, by omega⟩
          obtain ⟨lb, lof, rfl, hlb, hlcell⟩ := HA.out.cells (by omega)
          have hat := hlcell zn (by omega)
          have HKA0 : kindAt l (zn : Int) = (l[zn]'(by omega)).kind := by
            unfold kindAt
            rw [Int.toNat_natCast, List.getElem?_eq_getElem (by omega)]
            rfl
          obtain ⟨y, hy⟩ : ∃ y, l[zn]'(by omega) = y := ⟨_, rfl⟩
          rw [hy] at hat HKA0
          obtain ⟨_, _, _, _, cK0, -, -, -, -, -, -, -⟩ := hat
          have cK := ((HC1.out _ TR.out.any).cell (p := ⟨lb, lof + zn * 5, none⟩) hlb).trans cK0
          obtain ⟨kp, hkp⟩ : ∃ kp, y.kind = kp := ⟨_, rfl⟩
          rw [hkp] at cK HKA0
          have HKA := Lib.hid HKA0
          rw [HN.out] at hzr
          have hzl : (zn : Int) < (n : Int) := by omega
          obtain ⟨wn, hwn⟩ : ∃ wn, wr.alloc (.cells #[.string wd, .int .i64 (zn : Int)] 135) = wn := ⟨_, rfl⟩
          obtain ⟨kx, qx, zx⟩ := box_new hwn
          have QX := Lib.hid qx
          have TN := Lib.hid (TR.out.kept qx)
          obtain ⟨xb, hxb⟩ : ∃ xb, wr.heap.size = xb := ⟨_, rfl⟩
          have HXB0 := Lib.hid hxb
          rw [hxb] at kx
          have KX := Lib.hid kx
          have x0 := kx.cell 0
          have x1 := kx.cell 1
          simp only [List.getElem?_toArray, List.getElem?_cons_zero, List.getElem?_cons_succ] at x0 x1
          have cKn := (qx.cell (p := ⟨lb, lof + zn * 5, none⟩) (Nat.lt_of_lt_of_le hlb (HC1.out _ TR.out.any).size)).trans cK
          clear hx hwd hkp kx qx zx cK0 hlcell hcS hy HKA0
          go_upto_region 15 with fail
          go_cut [12] (fun a wx => a = .bool (unB (zn : Int)) ∧ wn = wx)
          case first =>
            by_cases hd14 : 14 ≤ (zn : Int)
            · have d1 : decide (14 ≤ (zn : Int)) = true := decide_eq_true hd14
              have HU := Lib.hid (show decide ((zn : Int) ≤ 19) = unB (zn : Int) by unfold unB; simp [hd14])
              clear hd14
              go_wp2_with fail
              go_meet
              case rel => exact ⟨by first | (rw [← HU.out]; done) | (rw [← HU.out]; rfl), by first | rfl | exact hwn.symm⟩
            · have d1 : decide (14 ≤ (zn : Int)) = false := decide_eq_false hd14
              have HU := Lib.hid (show false = unB (zn : Int) by unfold unB; simp [hd14])
              clear hd14
              go_wp2_with fail
              go_meet
              case rel => exact ⟨by first | (rw [← HU.out]; done) | (rw [← HU.out]; rfl), by first | rfl | exact hwn.symm⟩
          case rest =>
            obtain ⟨rfl, rfl⟩ := hcut
            have HUD := Lib.hid (show badT l (zn : Int) = (unB (zn : Int) || (decide (kp = 7) || decide (kp = 9))) by
              unfold badT unB
              rw [HKA.out]
              by_cases h1 : kp = 7 <;> by_cases h2 : kp = 9 <;> by_cases h3 : 14 ≤ (zn : Int) ∧ (zn : Int) ≤ 19 <;> simp [h1, h2, h3])
            obtain ⟨un, hun⟩ : ∃ un, unB (zn : Int) = un := ⟨_, rfl⟩
            rw [hun] at HUD ⊢
            clear hun
            cases un
            · by_cases h7 : kp = 7
              · have hq7 : (kp == 7) = true := by rw [beq_iff_eq]; exact h7
                have HBT := Lib.hid (show badT l (zn : Int) = true by rw [HUD.out, decide_eq_true h7]; rfl)
                clear h7 HUD
                have HOD := Lib.hid (show oddT l t = true from odd_of (x := S[k]) HFIN.out.1 (by rw [HSS.out]; exact List.getElem_mem hkS) (by rw [HXS.out]; exact HBT.out))
                obtain ⟨e0, e1, e2, e3, e4⟩ := cell5 (TN.out.old K1.out HLE.out.2)
                have M2 := TN.out.old K2.out HNB.out
                obtain ⟨f0, f1, f2, f3, f4⟩ := cell5 M2
                have g0 := M2.free 0
                have g1 := M2.free 1
                have g2 := M2.free 2
                have g3 := M2.free 3
                have g4 := M2.free 4
                clear M2
                go_wp2_with fail
                refine bodyPost_ret (v := .tuple #[.agg #[.int .i64 t.kind, .string t.name, .int .i64 t.n, .slice wo q wc, .slice ko q kc], .bool false]) (by simp [results, Tryz.results102, go_sem, f0, f1, f2, f3, f4]) rfl ?_
                exact .inl ⟨HOD.out, _, _, _, _, _, _, rfl, below_set5 (HC1.out _ TN.out.any) HNB2.out _ _ _ _ _⟩
              · have hq7 : (kp == 7) = false := by rw [beq_eq_false_iff_ne]; exact h7
                by_cases h9 : kp = 9
                · have hq9 : (kp == 9) = true := by rw [beq_iff_eq]; exact h9
                  have HBT := Lib.hid (show badT l (zn : Int) = true by rw [HUD.out, decide_eq_true h9]; simp)
                  clear h7 h9 HUD
                  have HOD := Lib.hid (show oddT l t = true from odd_of (x := S[k]) HFIN.out.1 (by rw [HSS.out]; exact List.getElem_mem hkS) (by rw [HXS.out]; exact HBT.out))
                  obtain ⟨e0, e1, e2, e3, e4⟩ := cell5 (TN.out.old K1.out HLE.out.2)
                  have M2 := TN.out.old K2.out HNB.out
                  obtain ⟨f0, f1, f2, f3, f4⟩ := cell5 M2
                  have g0 := M2.free 0
                  have g1 := M2.free 1
                  have g2 := M2.free 2
                  have g3 := M2.free 3
                  have g4 := M2.free 4
                  clear M2
                  go_wp2_with fail
                  refine bodyPost_ret (v := .tuple #[.agg #[.int .i64 t.kind, .string t.name, .int .i64 t.n, .slice wo q wc, .slice ko q kc], .bool false]) (by simp [results, Tryz.results102, go_sem, f0, f1, f2, f3, f4]) rfl ?_
                  exact .inl ⟨HOD.out, _, _, _, _, _, _, rfl, below_set5 (HC1.out _ TN.out.any) HNB2.out _ _ _ _ _⟩
                · have hq9 : (kp == 9) = false := by rw [beq_eq_false_iff_ne]; exact h9
                  have HBT := Lib.hid (show badT l (zn : Int) = false by rw [HUD.out, decide_eq_false h7, decide_eq_false h9]; rfl)
                  clear h7 h9 HUD
                  have HBD := Lib.hid (show ∀ j (h : j < S.length), j < k + 1 → badT l S[j].2 = false from fun j h h2 => by
                    rcases Nat.lt_or_eq_of_le (Nat.le_of_lt_succ h2) with h3 | h3
                    · exact HBAD.out j h h3
                    · subst h3; rw [HXS.out]; exact HBT.out)
                  obtain ⟨nx, hnx⟩ : ∃ nx : Bool, (if h2 : k + 1 < S.length then decide (S[k + 1].2 = (zn : Int)) else false) = nx := ⟨_, rfl⟩
                  have HNX := Lib.hid hnx
                  have hw1 : IntKind.i64.wrap ((k : Int) + 1) = (k : Int) + 1 := by rw [IntWalk.i64_in _ (by omega)]
                  have hw2 : (0 : Int) ≤ (k : Int) + 1 := by omega
                  have hw3 : ((k : Int) + 1).toNat = k + 1 := by omega
                  by_cases hkN : k + 1 < N
                  · have hk2S : k + 1 < S.length := by rw [HSL.out]; exact hkN
                    obtain ⟨g', eg, -, hcS'⟩ := ownTm_cells HSL.out TN.out.tm (by omega)
                    injection eg with eg
                    injection eg with eg
                    subst eg
                    have cN := (hcS' (k + 1) hk2S).2
                    obtain ⟨zy, hzy⟩ : ∃ zy, S[k + 1].2 = zy := ⟨_, rfl⟩
                    rw [dif_pos hk2S, hzy] at hnx
                    rw [hzy] at cN
                    have hdN : decide ((k : Int) + 1 < (N : Int)) = true := decide_eq_true (by omega)
                    have hdI : ((k : Int) + 1 < (N : Int)) := by omega
                    have HZY := Lib.hid hzy
                    clear hcS' hzy
                    cases nx
                    · have hqe : (zy == (zn : Int)) = false := by rw [beq_eq_false_iff_ne]; exact of_decide_eq_false hnx
                      clear hnx
                      go_wp2_with fail
                      go_quiet (fail)
                      rename_i nq
                      have HP2 := Lib.hid (show (pre ++ [(bx, (zn : Int))]) ++ lasts (S.drop (k + 1)) = lasts S from by
                        rw [← HPRE.out, lasts_step hkS, dif_pos hk2S, if_neg (by rw [HZY.out, HXS.out]; exact fun e => by have := HNX.out; rw [dif_pos hk2S, HZY.out, decide_eq_true e] at this; cases this), HXS.out]
                        simp)
                      clear cN hdN hdI hw1 hw2 hw3 hq7 hq9
                      obtain ⟨wz, hwz⟩ : ∃ wz, wn.drewN nq = wz := ⟨_, rfl⟩
                      have TZ0 := TN.out.kept (below_drewN (Below.refl wn.heap.size wn) nq)
                      have KX0 := KX.out.below (below_drewN (Below.refl wn.heap.size wn) nq)
                      rw [hwz] at TZ0 KX0 ⊢
                      obtain ⟨ws1, hws1⟩ : ∃ x, ws0 ++ pre.map (fun x => wordOf x.1) = x := ⟨_, rfl⟩
                      obtain ⟨ks1, hks1⟩ : ∃ x, ks0 ++ pre.map (·.2) = x := ⟨_, rfl⟩
                      have hl1 : ws1.length ≤ 40 := by rw [← hws1, List.length_append, List.length_map]; have := HPL.out; omega
                      have hl2 : ks1.length ≤ 40 := by rw [← hks1, List.length_append, List.length_map]; have := HPL.out; omega
                      have HAP := Lib.hid (show ws0 ++ (pre ++ [(bx, (zn : Int))]).map (fun x => wordOf x.1) = ws1 ++ [wd] ∧ ks0 ++ (pre ++ [(bx, (zn : Int))]).map (·.2) = ks1 ++ [(zn : Int)] from by
                        rw [← hws1, ← hks1, ← HWD.out]
                        simp)
                      rw [hws1, hks1] at TZ0
                      have HXB := Lib.hid (show wv2.ownBlock ≠ some xb from fun e => by have := row_lt TR.out.wr xb e; have := HXB0.out; omega)
                      have TZ := Lib.hid TZ0
                      have KX1 := Lib.hid KX0
                      have HNW := Lib.hid (show ∀ b, wz.heap.size ≤ b → wv2.ownBlock ≠ some b from fun b hb e => by have := row_lt TZ.out.wr b e; omega)
                      have cw3 := TZ0.box.cell 3
                      have cw4 := TZ0.box.cell 4
                      have cx0 := KX0.cell 0
                      have cx1 := KX0.cell 1
                      simp only [List.getElem?_toArray, List.getElem?_cons_zero, List.getElem?_cons_succ] at cw3 cw4 cx0 cx1
                      have HL2 := Lib.hid (show (pre ++ [(bx, (zn : Int))]).length ≤ k + 1 from by rw [List.length_append]; have := HPL.out; simp; omega)
                      clear TZ0 KX0 hwz hws1 hks1 hwn hxb x0 x1 cK cKn cA cB
                      go_wp2_with fail
                      refine GoG.start [(13, ⟨mb, 3, none⟩, wv2), (15, ⟨mb, 4, none⟩, kv2), (4, ⟨xb, 0, none⟩, .string wd), (10, ⟨xb, 1, none⟩, .int .i64 (zn : Int))] (by kernel_rfl) ?_ ?_
                      · exact (Keeps.cons (by first | assumption | simp [*]) (Keeps.cons (by first | assumption | simp [*]) (Keeps.cons (by first | assumption | simp [*]) (Keeps.cons (by first | assumption | simp [*]) Keeps.nil))))
                      refine GoG.take (i := 0) (v := ?_) [] rfl (by kernel_rfl) (by kernel_rfl) (by kernel_rfl) (by kernel_rfl) (by kernel_rfl) (by kernel_rfl) (fun _ _ _ h => h) (yields_free (by rfl) (fun w => ?_)) ?_
                      rotate_left
                      · go_simp; try (with_reducible rfl)
                      try simp only [Act.put, List.getElem_toArray, List.getElem_cons_succ, List.getElem_cons_zero, List.setIfInBounds_toArray, List.set_cons_zero, List.set_cons_succ]
                      refine GoG.take (i := 1) (v := ?_) [13] rfl (by kernel_rfl) (by kernel_rfl) (by kernel_rfl) (by kernel_rfl) (by kernel_rfl) (by kernel_rfl) (fun _ _ _ h => h) (yields_load 13 ⟨mb, 3, none⟩ (wv2) (by simp) (by decide) (by rfl) (fun w hw => ?_)) ?_
                      rotate_left
                      · go_simp; try (with_reducible rfl)
                      try simp only [Act.put, List.getElem_toArray, List.getElem_cons_succ, List.getElem_cons_zero, List.setIfInBounds_toArray, List.set_cons_zero, List.set_cons_succ]
                      refine GoG.take (i := 2) (v := ?_) [] rfl (by kernel_rfl) (by kernel_rfl) (by kernel_rfl) (by kernel_rfl) (by kernel_rfl) (by kernel_rfl) (fun _ _ _ h => h) (yields_free (by rfl) (fun w => ?_)) ?_
                      rotate_left
                      · go_simp; try (with_reducible rfl)
                      try simp only [Act.put, List.getElem_toArray, List.getElem_cons_succ, List.getElem_cons_zero, List.setIfInBounds_toArray, List.set_cons_zero, List.set_cons_succ]
                      refine GoG.take (i := 3) (v := ?_) [4] rfl (by kernel_rfl) (by kernel_rfl) (by kernel_rfl) (by kernel_rfl) (by kernel_rfl) (by kernel_rfl) (fun _ _ _ h => h) (yields_load 4 ⟨xb, 0, none⟩ (.string wd) (by simp) (by decide) (by rfl) (fun w hw => ?_)) ?_
                      rotate_left
                      · go_simp; try (with_reducible rfl)
                      try simp only [Act.put, List.getElem_toArray, List.getElem_cons_succ, List.getElem_cons_zero, List.setIfInBounds_toArray, List.set_cons_zero, List.set_cons_succ]
                      refine GoG.take (i := 6) (v := ?_) [] rfl (by kernel_rfl) (by kernel_rfl) (by kernel_rfl) (by kernel_rfl) (by kernel_rfl) (by kernel_rfl) (fun _ _ _ h => h) (yields_free (by rfl) (fun w => ?_)) ?_
                      rotate_left
                      · go_simp; try (with_reducible rfl)
                      try simp only [Act.put, List.getElem_toArray, List.getElem_cons_succ, List.getElem_cons_zero, List.setIfInBounds_toArray, List.set_cons_zero, List.set_cons_succ]
                      refine GoG.take (i := 7) (v := ?_) [15] rfl (by kernel_rfl) (by kernel_rfl) (by kernel_rfl) (by kernel_rfl) (by kernel_rfl) (by kernel_rfl) (fun _ _ _ h => h) (yields_load 15 ⟨mb, 4, none⟩ (kv2) (by simp) (by decide) (by rfl) (fun w hw => ?_)) ?_
                      rotate_left
                      · go_simp; try (with_reducible rfl)
                      try simp only [Act.put, List.getElem_toArray, List.getElem_cons_succ, List.getElem_cons_zero, List.setIfInBounds_toArray, List.set_cons_zero, List.set_cons_succ]
                      refine GoG.take (i := 8) (v := ?_) [] rfl (by kernel_rfl) (by kernel_rfl) (by kernel_rfl) (by kernel_rfl) (by kernel_rfl) (by kernel_rfl) (fun _ _ _ h => h) (yields_free (by rfl) (fun w => ?_)) ?_
                      rotate_left
                      · go_simp; try (with_reducible rfl)
                      try simp only [Act.put, List.getElem_toArray, List.getElem_cons_succ, List.getElem_cons_zero, List.setIfInBounds_toArray, List.set_cons_zero, List.set_cons_succ]
                      refine GoG.take (i := 9) (v := ?_) [10] rfl (by kernel_rfl) (by kernel_rfl) (by kernel_rfl) (by kernel_rfl) (by kernel_rfl) (by kernel_rfl) (fun _ _ _ h => h) (yields_load 10 ⟨xb, 1, none⟩ (.int .i64 (zn : Int)) (by simp) (by decide) (by rfl) (fun w hw => ?_)) ?_
                      rotate_left
                      · go_simp; try (with_reducible rfl)
                      try simp only [Act.put, List.getElem_toArray, List.getElem_cons_succ, List.getElem_cons_zero, List.setIfInBounds_toArray, List.set_cons_zero, List.set_cons_succ]
                      refine GoG.two (i := 4) (j := 10) rfl rfl (by kernel_rfl) (fun K hK => ?_) (fun K hK => ?_)
                      · have T1 := Lib.hid (TZ.out.kept (show Below wz.heap.size wz (wz.alloc (.cells #[.string wd] 9)).drew from ((Below.refl _ _).alloc (Nat.le_refl _) _).drew))
                        have K1 := Lib.hid (show BlockAt (wz.alloc (.cells #[.string wd] 9)).drew (wz.heap.size) #[.string wd] 9 from BlockAt.new _ _ _)
                        go_simp
                        refine hK.out _ _ (Keeps.cons (T1.out.box.cell 3) (Keeps.cons (T1.out.box.cell 4) (Keeps.up (by rfl) (Keeps.cons ((KX1.out.below ((Below.refl _ _).alloc (Nat.le_refl _) _).drew).cell 1) Keeps.nil)))) ?_
                        clear hK K
                        try simp only [Act.put, List.getElem_toArray, List.getElem_cons_succ, List.getElem_cons_zero, List.setIfInBounds_toArray, List.set_cons_zero, List.set_cons_succ]
                        refine GoG.two (i := 5) (j := 10) rfl rfl (by kernel_rfl) (fun K hK => ?_) (fun K hK => ?_)
                        · obtain ⟨v5, w5, hap, hown, hgrow, -, hblk⟩ := run_append_own_at (P := Tryz.prog) (wz.alloc (.cells #[.string wd] 9)).drew W3.heap.size 35 35 9 s0 (.string ⟨#[]⟩) 1 16 Tryz.underlying35 hsi hs0 hs1 hs2 rfl (by decide) wv2 ws1.length (strC ws1) T1.out.wr ⟨wz.heap.size, 0, none⟩ 1 1 [.string wd] rfl (cell_at1 K1.out) (fun u hu => by rw [List.mem_singleton.1 hu]; rfl) (by unfold maxLen; omega) (by omega) T1.out.gr.size
                          have T5 := Lib.hid (T1.out.pushW hgrow hown hblk)
                          obtain ⟨aov5, acv5, ev5, -, -⟩ := ownW_row T5.out.wr
                          rw [List.length_append, List.length_singleton] at ev5
                          subst ev5
                          have KX5 := Lib.hid (fresh_grown (KX1.out.below ((Below.refl _ _).alloc (Nat.le_refl _) _).drew) (HXB.out) hgrow)
                          rw [if_pos (by rfl)]
                          refine wp_run_append _ _ _ rfl _ _ _ rfl rfl hap ?_
                          refine hK.out _ _ (Keeps.cons (T5.out.box.cell 3) (Keeps.cons (T5.out.box.cell 4) (Keeps.up (by rfl) (Keeps.cons (KX5.out.cell 1) Keeps.nil)))) ?_
                          clear hK K hap hown hgrow hblk
                          try simp only [Act.put, List.getElem_toArray, List.getElem_cons_succ, List.getElem_cons_zero, List.setIfInBounds_toArray, List.set_cons_zero, List.set_cons_succ]
                          refine GoG.take (i := 12) (v := ?_) [] rfl (by kernel_rfl) (by kernel_rfl) (by kernel_rfl) (by kernel_rfl) (by kernel_rfl) (by kernel_rfl) (fun _ _ _ h => h) (yields_free (by rfl) (fun w => ?_)) ?_
                          rotate_left
                          · go_simp; try (with_reducible rfl)
                          try simp only [Act.put, List.getElem_toArray, List.getElem_cons_succ, List.getElem_cons_zero, List.setIfInBounds_toArray, List.set_cons_zero, List.set_cons_succ]
                          have T7 := Lib.hid (T5.out.kept (show Below w5.heap.size w5 (w5.alloc (.cells #[.int .i64 (zn : Int)] 3)) from (Below.refl _ _).alloc (Nat.le_refl _) _))
                          have K7 := Lib.hid (show BlockAt (w5.alloc (.cells #[.int .i64 (zn : Int)] 3)) (w5.heap.size) #[.int .i64 (zn : Int)] 3 from BlockAt.new _ _ _)
                          refine GoG.one (i := 10) rfl (by kernel_rfl) (fun K hK => ?_)
                          go_simp
                          refine hK.out _ _ (Keeps.cons (T7.out.box.cell 3) (Keeps.cons (T7.out.box.cell 4) (Keeps.up (by rfl) (Keeps.up (by rfl) Keeps.nil)))) ?_
                          clear hK K
                          try simp only [Act.put, List.getElem_toArray, List.getElem_cons_succ, List.getElem_cons_zero, List.setIfInBounds_toArray, List.set_cons_zero, List.set_cons_succ]
                          obtain ⟨v6, w6, hap, hown, hgrow, -, hblk⟩ := run_append_own_at (P := Tryz.prog) (w5.alloc (.cells #[.int .i64 (zn : Int)] 3)) W3.heap.size 36 36 3 k0 (.int .i64 0) 1 8 Tryz.underlying36 hki hk0 hk1 hk2 rfl (by decide) kv2 ks1.length (intC ks1) T7.out.kr ⟨w5.heap.size, 0, none⟩ 1 1 [.int .i64 (zn : Int)] rfl (cell_at1 K7.out) (fun u hu => by rw [List.mem_singleton.1 hu]; rfl) (by unfold maxLen; omega) (by omega) T7.out.gr.size
                          have T6 := Lib.hid (T7.out.pushK hgrow hown hblk)
                          obtain ⟨aov6, acv6, ev6, -, -⟩ := ownK_row T6.out.kr
                          rw [List.length_append, List.length_singleton] at ev6
                          subst ev6
                          refine GoG.one (i := 11) rfl (by kernel_rfl) (fun K hK => ?_)
                          rw [if_pos (by rfl)]
                          refine wp_run_append _ _ _ rfl _ _ _ rfl rfl hap ?_
                          refine hK.out _ _ (Keeps.cons (T6.out.box.cell 3) (Keeps.cons (T6.out.box.cell 4) (Keeps.up (by rfl) (Keeps.up (by rfl) Keeps.nil)))) ?_
                          clear hK K hap hown hgrow hblk
                          try simp only [Act.put, List.getElem_toArray, List.getElem_cons_succ, List.getElem_cons_zero, List.setIfInBounds_toArray, List.set_cons_zero, List.set_cons_succ]
                          have fz3 := T6.out.box.free 3
                          have cz3 := T6.out.box.cell 3
                          simp only [List.getElem?_toArray, List.getElem?_cons_zero, List.getElem?_cons_succ] at cz3
                          have TA := Lib.hid (T6.out.store3 (.slice aov5 (ws1.length + 1) acv5))
                          refine GoG.one (i := 13) rfl (by kernel_rfl) (fun K hK => ?_)
                          go_simp
                          clear fz3 cz3
                          refine hK.out _ _ (Keeps.up (by rfl) (Keeps.cons (TA.out.box.cell 4) (Keeps.up (by rfl) (Keeps.up (by rfl) Keeps.nil)))) ?_
                          clear hK K
                          try simp only [Act.put, List.getElem_toArray, List.getElem_cons_succ, List.getElem_cons_zero, List.setIfInBounds_toArray, List.set_cons_zero, List.set_cons_succ]
                          refine GoG.take (i := 14) (v := ?_) [] rfl (by kernel_rfl) (by kernel_rfl) (by kernel_rfl) (by kernel_rfl) (by kernel_rfl) (by kernel_rfl) (fun _ _ _ h => h) (yields_free (by rfl) (fun w => ?_)) ?_
                          rotate_left
                          · go_simp; try (with_reducible rfl)
                          try simp only [Act.put, List.getElem_toArray, List.getElem_cons_succ, List.getElem_cons_zero, List.setIfInBounds_toArray, List.set_cons_zero, List.set_cons_succ]
                          have fz4 := TA.out.box.free 4
                          have cz4 := TA.out.box.cell 4
                          simp only [List.getElem?_toArray, List.getElem?_cons_zero, List.getElem?_cons_succ] at cz4
                          have TB := Lib.hid (TA.out.store4 (.slice aov6 (ks1.length + 1) acv6))
                          refine GoG.one (i := 15) rfl (by kernel_rfl) (fun K hK => ?_)
                          go_simp
                          clear fz4 cz4
                          refine hK.out _ _ (Keeps.up (by rfl) (Keeps.up (by rfl) (Keeps.up (by rfl) (Keeps.up (by rfl) Keeps.nil)))) ?_
                          clear hK K
                          try simp only [Act.put, List.getElem_toArray, List.getElem_cons_succ, List.getElem_cons_zero, List.setIfInBounds_toArray, List.set_cons_zero, List.set_cons_succ]
                          refine GoG.done (by kernel_rfl) ?_ _
                          clear HNW HXB
                          go_wp2_with fail
                          go_roundw
                          case rel => exact ⟨k + 1, _, _, pre ++ [(bx, (zn : Int))], by omega, by go_num, HP2, HL2, HBD, Lib.hid (by rw [HAP.out.1, HAP.out.2]; exact TB.out)⟩
                          case measure => first | (simp [intOf]; done) | (simp [intOf]; omega)
                        · have T2 := Lib.hid (TZ.out.kept (show Below wz.heap.size wz ((wz.alloc (.cells #[.string wd] 9)).alloc (.cells #[.int .i64 (zn : Int)] 3)).drew from (((Below.refl _ _).alloc (Nat.le_refl _) _).alloc (by simp) _).drew))
                          have K2 := Lib.hid (show BlockAt ((wz.alloc (.cells #[.string wd] 9)).alloc (.cells #[.int .i64 (zn : Int)] 3)).drew (wz.heap.size + 1) #[.int .i64 (zn : Int)] 3 from (show BlockAt ((wz.alloc (.cells #[.string wd] 9)).alloc (.cells #[.int .i64 (zn : Int)] 3)) (wz.heap.size + 1) #[.int .i64 (zn : Int)] 3 from by simpa using BlockAt.new (wz.alloc (.cells #[.string wd] 9)) #[.int .i64 (zn : Int)] 3))
                          have K3 := Lib.hid (show BlockAt ((wz.alloc (.cells #[.string wd] 9)).alloc (.cells #[.int .i64 (zn : Int)] 3)).drew wz.heap.size #[.string wd] 9 from (BlockAt.new wz #[.string wd] 9).below ((Below.refl _ _).alloc (Nat.le_refl _) _).drew)
                          go_simp
                          refine hK.out _ _ (Keeps.cons (T2.out.box.cell 3) (Keeps.cons (T2.out.box.cell 4) (Keeps.up (by rfl) (Keeps.up (by rfl) Keeps.nil)))) ?_
                          clear hK K
                          try simp only [Act.put, List.getElem_toArray, List.getElem_cons_succ, List.getElem_cons_zero, List.setIfInBounds_toArray, List.set_cons_zero, List.set_cons_succ]
                          obtain ⟨v5, w5, hap, hown, hgrow, -, hblk⟩ := run_append_own_at (P := Tryz.prog) ((wz.alloc (.cells #[.string wd] 9)).alloc (.cells #[.int .i64 (zn : Int)] 3)).drew W3.heap.size 35 35 9 s0 (.string ⟨#[]⟩) 1 16 Tryz.underlying35 hsi hs0 hs1 hs2 rfl (by decide) wv2 ws1.length (strC ws1) T2.out.wr ⟨wz.heap.size, 0, none⟩ 1 1 [.string wd] rfl (cell_at1 K3.out) (fun u hu => by rw [List.mem_singleton.1 hu]; rfl) (by unfold maxLen; omega) (by omega) T2.out.gr.size
                          have T5 := Lib.hid (T2.out.pushW hgrow hown hblk)
                          obtain ⟨aov5, acv5, ev5, -, -⟩ := ownW_row T5.out.wr
                          rw [List.length_append, List.length_singleton] at ev5
                          subst ev5
                          have K5 := Lib.hid (fresh_grown K2.out (HNW.out _ (by simp)) hgrow)
                          refine GoG.one (i := 5) rfl (by kernel_rfl) (fun K hK => ?_)
                          rw [if_pos (by rfl)]
                          refine wp_run_append _ _ _ rfl _ _ _ rfl rfl hap ?_
                          refine hK.out _ _ (Keeps.cons (T5.out.box.cell 3) (Keeps.cons (T5.out.box.cell 4) (Keeps.up (by rfl) (Keeps.up (by rfl) Keeps.nil)))) ?_
                          clear hK K hap hown hgrow hblk
                          try simp only [Act.put, List.getElem_toArray, List.getElem_cons_succ, List.getElem_cons_zero, List.setIfInBounds_toArray, List.set_cons_zero, List.set_cons_succ]
                          refine GoG.take (i := 12) (v := ?_) [] rfl (by kernel_rfl) (by kernel_rfl) (by kernel_rfl) (by kernel_rfl) (by kernel_rfl) (by kernel_rfl) (fun _ _ _ h => h) (yields_free (by rfl) (fun w => ?_)) ?_
                          rotate_left
                          · go_simp; try (with_reducible rfl)
                          try simp only [Act.put, List.getElem_toArray, List.getElem_cons_succ, List.getElem_cons_zero, List.setIfInBounds_toArray, List.set_cons_zero, List.set_cons_succ]
                          obtain ⟨v6, w6, hap, hown, hgrow, -, hblk⟩ := run_append_own_at (P := Tryz.prog) w5 W3.heap.size 36 36 3 k0 (.int .i64 0) 1 8 Tryz.underlying36 hki hk0 hk1 hk2 rfl (by decide) kv2 ks1.length (intC ks1) T5.out.kr ⟨wz.heap.size + 1, 0, none⟩ 1 1 [.int .i64 (zn : Int)] rfl (cell_at1 K5.out) (fun u hu => by rw [List.mem_singleton.1 hu]; rfl) (by unfold maxLen; omega) (by omega) T5.out.gr.size
                          have T6 := Lib.hid (T5.out.pushK hgrow hown hblk)
                          obtain ⟨aov6, acv6, ev6, -, -⟩ := ownK_row T6.out.kr
                          rw [List.length_append, List.length_singleton] at ev6
                          subst ev6
                          refine GoG.one (i := 11) rfl (by kernel_rfl) (fun K hK => ?_)
                          rw [if_pos (by rfl)]
                          refine wp_run_append _ _ _ rfl _ _ _ rfl rfl hap ?_
                          refine hK.out _ _ (Keeps.cons (T6.out.box.cell 3) (Keeps.cons (T6.out.box.cell 4) (Keeps.up (by rfl) (Keeps.up (by rfl) Keeps.nil)))) ?_
                          clear hK K hap hown hgrow hblk
                          try simp only [Act.put, List.getElem_toArray, List.getElem_cons_succ, List.getElem_cons_zero, List.setIfInBounds_toArray, List.set_cons_zero, List.set_cons_succ]
                          have fz3 := T6.out.box.free 3
                          have cz3 := T6.out.box.cell 3
                          simp only [List.getElem?_toArray, List.getElem?_cons_zero, List.getElem?_cons_succ] at cz3
                          have TA := Lib.hid (T6.out.store3 (.slice aov5 (ws1.length + 1) acv5))
                          refine GoG.one (i := 13) rfl (by kernel_rfl) (fun K hK => ?_)
                          go_simp
                          clear fz3 cz3
                          refine hK.out _ _ (Keeps.up (by rfl) (Keeps.cons (TA.out.box.cell 4) (Keeps.up (by rfl) (Keeps.up (by rfl) Keeps.nil)))) ?_
                          clear hK K
                          try simp only [Act.put, List.getElem_toArray, List.getElem_cons_succ, List.getElem_cons_zero, List.setIfInBounds_toArray, List.set_cons_zero, List.set_cons_succ]
                          refine GoG.take (i := 14) (v := ?_) [] rfl (by kernel_rfl) (by kernel_rfl) (by kernel_rfl) (by kernel_rfl) (by kernel_rfl) (by kernel_rfl) (fun _ _ _ h => h) (yields_free (by rfl) (fun w => ?_)) ?_
                          rotate_left
                          · go_simp; try (with_reducible rfl)
                          try simp only [Act.put, List.getElem_toArray, List.getElem_cons_succ, List.getElem_cons_zero, List.setIfInBounds_toArray, List.set_cons_zero, List.set_cons_succ]
                          have fz4 := TA.out.box.free 4
                          have cz4 := TA.out.box.cell 4
                          simp only [List.getElem?_toArray, List.getElem?_cons_zero, List.getElem?_cons_succ] at cz4
                          have TB := Lib.hid (TA.out.store4 (.slice aov6 (ks1.length + 1) acv6))
                          refine GoG.one (i := 15) rfl (by kernel_rfl) (fun K hK => ?_)
                          go_simp
                          clear fz4 cz4
                          refine hK.out _ _ (Keeps.up (by rfl) (Keeps.up (by rfl) (Keeps.up (by rfl) (Keeps.up (by rfl) Keeps.nil)))) ?_
                          clear hK K
                          try simp only [Act.put, List.getElem_toArray, List.getElem_cons_succ, List.getElem_cons_zero, List.setIfInBounds_toArray, List.set_cons_zero, List.set_cons_succ]
                          refine GoG.done (by kernel_rfl) ?_ _
                          clear HNW HXB
                          go_wp2_with fail
                          go_roundw
                          case rel => exact ⟨k + 1, _, _, pre ++ [(bx, (zn : Int))], by omega, by go_num, HP2, HL2, HBD, Lib.hid (by rw [HAP.out.1, HAP.out.2]; exact TB.out)⟩
                          case measure => first | (simp [intOf]; done) | (simp [intOf]; omega)
                      · have T1 := Lib.hid (TZ.out.kept (show Below wz.heap.size wz (wz.alloc (.cells #[.int .i64 (zn : Int)] 3)).drew from ((Below.refl _ _).alloc (Nat.le_refl _) _).drew))
                        have K1 := Lib.hid (show BlockAt (wz.alloc (.cells #[.int .i64 (zn : Int)] 3)).drew (wz.heap.size) #[.int .i64 (zn : Int)] 3 from BlockAt.new _ _ _)
                        go_simp
                        refine hK.out _ _ (Keeps.cons (T1.out.box.cell 3) (Keeps.cons (T1.out.box.cell 4) (Keeps.cons ((KX1.out.below ((Below.refl _ _).alloc (Nat.le_refl _) _).drew).cell 0) (Keeps.up (by rfl) Keeps.nil)))) ?_
                        clear hK K
                        try simp only [Act.put, List.getElem_toArray, List.getElem_cons_succ, List.getElem_cons_zero, List.setIfInBounds_toArray, List.set_cons_zero, List.set_cons_succ]
                        have T2 := Lib.hid (TZ.out.kept (show Below wz.heap.size wz ((wz.alloc (.cells #[.int .i64 (zn : Int)] 3)).alloc (.cells #[.string wd] 9)).drew from (((Below.refl _ _).alloc (Nat.le_refl _) _).alloc (by simp) _).drew))
                        have K2 := Lib.hid (show BlockAt ((wz.alloc (.cells #[.int .i64 (zn : Int)] 3)).alloc (.cells #[.string wd] 9)).drew (wz.heap.size + 1) #[.string wd] 9 from (show BlockAt ((wz.alloc (.cells #[.int .i64 (zn : Int)] 3)).alloc (.cells #[.string wd] 9)) (wz.heap.size + 1) #[.string wd] 9 from by simpa using BlockAt.new (wz.alloc (.cells #[.int .i64 (zn : Int)] 3)) #[.string wd] 9))
                        have K3 := Lib.hid (show BlockAt ((wz.alloc (.cells #[.int .i64 (zn : Int)] 3)).alloc (.cells #[.string wd] 9)).drew wz.heap.size #[.int .i64 (zn : Int)] 3 from (BlockAt.new wz #[.int .i64 (zn : Int)] 3).below ((Below.refl _ _).alloc (Nat.le_refl _) _).drew)
                        refine GoG.one (i := 4) rfl (by kernel_rfl) (fun K hK => ?_)
                        go_simp
                        refine hK.out _ _ (Keeps.cons (T2.out.box.cell 3) (Keeps.cons (T2.out.box.cell 4) (Keeps.up (by rfl) (Keeps.up (by rfl) Keeps.nil)))) ?_
                        clear hK K
                        try simp only [Act.put, List.getElem_toArray, List.getElem_cons_succ, List.getElem_cons_zero, List.setIfInBounds_toArray, List.set_cons_zero, List.set_cons_succ]
                        obtain ⟨v5, w5, hap, hown, hgrow, -, hblk⟩ := run_append_own_at (P := Tryz.prog) ((wz.alloc (.cells #[.int .i64 (zn : Int)] 3)).alloc (.cells #[.string wd] 9)).drew W3.heap.size 35 35 9 s0 (.string ⟨#[]⟩) 1 16 Tryz.underlying35 hsi hs0 hs1 hs2 rfl (by decide) wv2 ws1.length (strC ws1) T2.out.wr ⟨wz.heap.size + 1, 0, none⟩ 1 1 [.string wd] rfl (cell_at1 K2.out) (fun u hu => by rw [List.mem_singleton.1 hu]; rfl) (by unfold maxLen; omega) (by omega) T2.out.gr.size
                        have T5 := Lib.hid (T2.out.pushW hgrow hown hblk)
                        obtain ⟨aov5, acv5, ev5, -, -⟩ := ownW_row T5.out.wr
                        rw [List.length_append, List.length_singleton] at ev5
                        subst ev5
                        have K5 := Lib.hid (fresh_grown K3.out (HNW.out _ (by simp)) hgrow)
                        refine GoG.one (i := 5) rfl (by kernel_rfl) (fun K hK => ?_)
                        rw [if_pos (by rfl)]
                        refine wp_run_append _ _ _ rfl _ _ _ rfl rfl hap ?_
                        refine hK.out _ _ (Keeps.cons (T5.out.box.cell 3) (Keeps.cons (T5.out.box.cell 4) (Keeps.up (by rfl) (Keeps.up (by rfl) Keeps.nil)))) ?_
                        clear hK K hap hown hgrow hblk
                        try simp only [Act.put, List.getElem_toArray, List.getElem_cons_succ, List.getElem_cons_zero, List.setIfInBounds_toArray, List.set_cons_zero, List.set_cons_succ]
                        refine GoG.take (i := 12) (v := ?_) [] rfl (by kernel_rfl) (by kernel_rfl) (by kernel_rfl) (by kernel_rfl) (by kernel_rfl) (by kernel_rfl) (fun _ _ _ h => h) (yields_free (by rfl) (fun w => ?_)) ?_
                        rotate_left
                        · go_simp; try (with_reducible rfl)
                        try simp only [Act.put, List.getElem_toArray, List.getElem_cons_succ, List.getElem_cons_zero, List.setIfInBounds_toArray, List.set_cons_zero, List.set_cons_succ]
                        obtain ⟨v6, w6, hap, hown, hgrow, -, hblk⟩ := run_append_own_at (P := Tryz.prog) w5 W3.heap.size 36 36 3 k0 (.int .i64 0) 1 8 Tryz.underlying36 hki hk0 hk1 hk2 rfl (by decide) kv2 ks1.length (intC ks1) T5.out.kr ⟨wz.heap.size, 0, none⟩ 1 1 [.int .i64 (zn : Int)] rfl (cell_at1 K5.out) (fun u hu => by rw [List.mem_singleton.1 hu]; rfl) (by unfold maxLen; omega) (by omega) T5.out.gr.size
                        have T6 := Lib.hid (T5.out.pushK hgrow hown hblk)
                        obtain ⟨aov6, acv6, ev6, -, -⟩ := ownK_row T6.out.kr
                        rw [List.length_append, List.length_singleton] at ev6
                        subst ev6
                        refine GoG.one (i := 11) rfl (by kernel_rfl) (fun K hK => ?_)
                        rw [if_pos (by rfl)]
                        refine wp_run_append _ _ _ rfl _ _ _ rfl rfl hap ?_
                        refine hK.out _ _ (Keeps.cons (T6.out.box.cell 3) (Keeps.cons (T6.out.box.cell 4) (Keeps.up (by rfl) (Keeps.up (by rfl) Keeps.nil)))) ?_
                        clear hK K hap hown hgrow hblk
                        try simp only [Act.put, List.getElem_toArray, List.getElem_cons_succ, List.getElem_cons_zero, List.setIfInBounds_toArray, List.set_cons_zero, List.set_cons_succ]
                        have fz3 := T6.out.box.free 3
                        have cz3 := T6.out.box.cell 3
                        simp only [List.getElem?_toArray, List.getElem?_cons_zero, List.getElem?_cons_succ] at cz3
                        have TA := Lib.hid (T6.out.store3 (.slice aov5 (ws1.length + 1) acv5))
                        refine GoG.one (i := 13) rfl (by kernel_rfl) (fun K hK => ?_)
                        go_simp
                        clear fz3 cz3
                        refine hK.out _ _ (Keeps.up (by rfl) (Keeps.cons (TA.out.box.cell 4) (Keeps.up (by rfl) (Keeps.up (by rfl) Keeps.nil)))) ?_
                        clear hK K
                        try simp only [Act.put, List.getElem_toArray, List.getElem_cons_succ, List.getElem_cons_zero, List.setIfInBounds_toArray, List.set_cons_zero, List.set_cons_succ]
                        refine GoG.take (i := 14) (v := ?_) [] rfl (by kernel_rfl) (by kernel_rfl) (by kernel_rfl) (by kernel_rfl) (by kernel_rfl) (by kernel_rfl) (fun _ _ _ h => h) (yields_free (by rfl) (fun w => ?_)) ?_
                        rotate_left
                        · go_simp; try (with_reducible rfl)
                        try simp only [Act.put, List.getElem_toArray, List.getElem_cons_succ, List.getElem_cons_zero, List.setIfInBounds_toArray, List.set_cons_zero, List.set_cons_succ]
                        have fz4 := TA.out.box.free 4
                        have cz4 := TA.out.box.cell 4
                        simp only [List.getElem?_toArray, List.getElem?_cons_zero, List.getElem?_cons_succ] at cz4
                        have TB := Lib.hid (TA.out.store4 (.slice aov6 (ks1.length + 1) acv6))
                        refine GoG.one (i := 15) rfl (by kernel_rfl) (fun K hK => ?_)
                        go_simp
                        clear fz4 cz4
                        refine hK.out _ _ (Keeps.up (by rfl) (Keeps.up (by rfl) (Keeps.up (by rfl) (Keeps.up (by rfl) Keeps.nil)))) ?_
                        clear hK K
                        try simp only [Act.put, List.getElem_toArray, List.getElem_cons_succ, List.getElem_cons_zero, List.setIfInBounds_toArray, List.set_cons_zero, List.set_cons_succ]
                        refine GoG.done (by kernel_rfl) ?_ _
                        clear HNW HXB
                        go_wp2_with fail
                        go_roundw
                        case rel => exact ⟨k + 1, _, _, pre ++ [(bx, (zn : Int))], by omega, by go_num, HP2, HL2, HBD, Lib.hid (by rw [HAP.out.1, HAP.out.2]; exact TB.out)⟩
                        case measure => first | (simp [intOf]; done) | (simp [intOf]; omega)
                    · have hqe : (zy == (zn : Int)) = true := by rw [beq_iff_eq]; exact of_decide_eq_true hnx
                      clear hnx
                      go_wp2_with fail
                      go_quiet (fail)
                      rename_i nq
                      have HP2 := Lib.hid (show pre ++ lasts (S.drop (k + 1)) = lasts S from by
                        rw [← HPRE.out, lasts_step hkS, dif_pos hk2S, if_pos (by rw [HZY.out, HXS.out]; have := HNX.out; rw [dif_pos hk2S, HZY.out] at this; exact of_decide_eq_true this)])
                      have TZ := Lib.hid (TN.out.kept (below_drewN (Below.refl wn.heap.size wn) nq))
                      have HL2 := Lib.hid (show pre.length ≤ k + 1 from by have := HPL.out; omega)
                      clear cN hdN hdI hw1 hw2 hw3 hq7 hq9 hwn hxb x0 x1 cK cKn cA cB
                      go_wp2_with fail
                      go_roundw
                      case rel => exact ⟨k + 1, _, _, pre, by omega, by go_num, HP2, HL2, HBD, TZ⟩
                      case measure => first | (simp [intOf]; done) | (simp [intOf]; omega)
                  · have hdN : decide ((k : Int) + 1 < (N : Int)) = false := decide_eq_false (by omega)
                    clear hnx
                    go_wp2_with fail
                    go_quiet (fail)
                    rename_i nq
                    have HP2 := Lib.hid (show (pre ++ [(bx, (zn : Int))]) ++ lasts (S.drop (k + 1)) = lasts S from by
                      rw [← HPRE.out, lasts_step hkS, dif_neg (by rw [HSL.out]; exact hkN), HXS.out]
                      simp)
                    clear hdN hw1 hw2 hw3 hq7 hq9
                    obtain ⟨wz, hwz⟩ : ∃ wz, wn.drewN nq = wz := ⟨_, rfl⟩
                    have TZ0 := TN.out.kept (below_drewN (Below.refl wn.heap.size wn) nq)
                    have KX0 := KX.out.below (below_drewN (Below.refl wn.heap.size wn) nq)
                    rw [hwz] at TZ0 KX0 ⊢
                    obtain ⟨ws1, hws1⟩ : ∃ x, ws0 ++ pre.map (fun x => wordOf x.1) = x := ⟨_, rfl⟩
                    obtain ⟨ks1, hks1⟩ : ∃ x, ks0 ++ pre.map (·.2) = x := ⟨_, rfl⟩
                    have hl1 : ws1.length ≤ 40 := by rw [← hws1, List.length_append, List.length_map]; have := HPL.out; omega
                    have hl2 : ks1.length ≤ 40 := by rw [← hks1, List.length_append, List.length_map]; have := HPL.out; omega
                    have HAP := Lib.hid (show ws0 ++ (pre ++ [(bx, (zn : Int))]).map (fun x => wordOf x.1) = ws1 ++ [wd] ∧ ks0 ++ (pre ++ [(bx, (zn : Int))]).map (·.2) = ks1 ++ [(zn : Int)] from by
                      rw [← hws1, ← hks1, ← HWD.out]
                      simp)
                    rw [hws1, hks1] at TZ0
                    have HXB := Lib.hid (show wv2.ownBlock ≠ some xb from fun e => by have := row_lt TR.out.wr xb e; have := HXB0.out; omega)
                    have TZ := Lib.hid TZ0
                    have KX1 := Lib.hid KX0
                    have HNW := Lib.hid (show ∀ b, wz.heap.size ≤ b → wv2.ownBlock ≠ some b from fun b hb e => by have := row_lt TZ.out.wr b e; omega)
                    have cw3 := TZ0.box.cell 3
                    have cw4 := TZ0.box.cell 4
                    have cx0 := KX0.cell 0
                    have cx1 := KX0.cell 1
                    simp only [List.getElem?_toArray, List.getElem?_cons_zero, List.getElem?_cons_succ] at cw3 cw4 cx0 cx1
                    have HL2 := Lib.hid (show (pre ++ [(bx, (zn : Int))]).length ≤ k + 1 from by rw [List.length_append]; have := HPL.out; simp; omega)
                    clear TZ0 KX0 hwz hws1 hks1 hwn hxb x0 x1 cK cKn cA cB
                    go_wp2_with fail
                    refine GoG.start [(13, ⟨mb, 3, none⟩, wv2), (15, ⟨mb, 4, none⟩, kv2), (4, ⟨xb, 0, none⟩, .string wd), (10, ⟨xb, 1, none⟩, .int .i64 (zn : Int))] (by kernel_rfl) ?_ ?_
                    · exact (Keeps.cons (by first | assumption | simp [*]) (Keeps.cons (by first | assumption | simp [*]) (Keeps.cons (by first | assumption | simp [*]) (Keeps.cons (by first | assumption | simp [*]) Keeps.nil))))
                    refine GoG.take (i := 0) (v := ?_) [] rfl (by kernel_rfl) (by kernel_rfl) (by kernel_rfl) (by kernel_rfl) (by kernel_rfl) (by kernel_rfl) (fun _ _ _ h => h) (yields_free (by rfl) (fun w => ?_)) ?_
                    rotate_left
                    · go_simp; try (with_reducible rfl)
                    try simp only [Act.put, List.getElem_toArray, List.getElem_cons_succ, List.getElem_cons_zero, List.setIfInBounds_toArray, List.set_cons_zero, List.set_cons_succ]
                    refine GoG.take (i := 1) (v := ?_) [13] rfl (by kernel_rfl) (by kernel_rfl) (by kernel_rfl) (by kernel_rfl) (by kernel_rfl) (by kernel_rfl) (fun _ _ _ h => h) (yields_load 13 ⟨mb, 3, none⟩ (wv2) (by simp) (by decide) (by rfl) (fun w hw => ?_)) ?_
                    rotate_left
                    · go_simp; try (with_reducible rfl)
                    try simp only [Act.put, List.getElem_toArray, List.getElem_cons_succ, List.getElem_cons_zero, List.setIfInBounds_toArray, List.set_cons_zero, List.set_cons_succ]
                    refine GoG.take (i := 2) (v := ?_) [] rfl (by kernel_rfl) (by kernel_rfl) (by kernel_rfl) (by kernel_rfl) (by kernel_rfl) (by kernel_rfl) (fun _ _ _ h => h) (yields_free (by rfl) (fun w => ?_)) ?_
                    rotate_left
                    · go_simp; try (with_reducible rfl)
                    try simp only [Act.put, List.getElem_toArray, List.getElem_cons_succ, List.getElem_cons_zero, List.setIfInBounds_toArray, List.set_cons_zero, List.set_cons_succ]
                    refine GoG.take (i := 3) (v := ?_) [4] rfl (by kernel_rfl) (by kernel_rfl) (by kernel_rfl) (by kernel_rfl) (by kernel_rfl) (by kernel_rfl) (fun _ _ _ h => h) (yields_load 4 ⟨xb, 0, none⟩ (.string wd) (by simp) (by decide) (by rfl) (fun w hw => ?_)) ?_
                    rotate_left
                    · go_simp; try (with_reducible rfl)
                    try simp only [Act.put, List.getElem_toArray, List.getElem_cons_succ, List.getElem_cons_zero, List.setIfInBounds_toArray, List.set_cons_zero, List.set_cons_succ]
                    refine GoG.take (i := 6) (v := ?_) [] rfl (by kernel_rfl) (by kernel_rfl) (by kernel_rfl) (by kernel_rfl) (by kernel_rfl) (by kernel_rfl) (fun _ _ _ h => h) (yields_free (by rfl) (fun w => ?_)) ?_
                    rotate_left
                    · go_simp; try (with_reducible rfl)
                    try simp only [Act.put, List.getElem_toArray, List.getElem_cons_succ, List.getElem_cons_zero, List.setIfInBounds_toArray, List.set_cons_zero, List.set_cons_succ]
                    refine GoG.take (i := 7) (v := ?_) [15] rfl (by kernel_rfl) (by kernel_rfl) (by kernel_rfl) (by kernel_rfl) (by kernel_rfl) (by kernel_rfl) (fun _ _ _ h => h) (yields_load 15 ⟨mb, 4, none⟩ (kv2) (by simp) (by decide) (by rfl) (fun w hw => ?_)) ?_
                    rotate_left
                    · go_simp; try (with_reducible rfl)
                    try simp only [Act.put, List.getElem_toArray, List.getElem_cons_succ, List.getElem_cons_zero, List.setIfInBounds_toArray, List.set_cons_zero, List.set_cons_succ]
                    refine GoG.take (i := 8) (v := ?_) [] rfl (by kernel_rfl) (by kernel_rfl) (by kernel_rfl) (by kernel_rfl) (by kernel_rfl) (by kernel_rfl) (fun _ _ _ h => h) (yields_free (by rfl) (fun w => ?_)) ?_
                    rotate_left
                    · go_simp; try (with_reducible rfl)
                    try simp only [Act.put, List.getElem_toArray, List.getElem_cons_succ, List.getElem_cons_zero, List.setIfInBounds_toArray, List.set_cons_zero, List.set_cons_succ]
                    refine GoG.take (i := 9) (v := ?_) [10] rfl (by kernel_rfl) (by kernel_rfl) (by kernel_rfl) (by kernel_rfl) (by kernel_rfl) (by kernel_rfl) (fun _ _ _ h => h) (yields_load 10 ⟨xb, 1, none⟩ (.int .i64 (zn : Int)) (by simp) (by decide) (by rfl) (fun w hw => ?_)) ?_
                    rotate_left
                    · go_simp; try (with_reducible rfl)
                    try simp only [Act.put, List.getElem_toArray, List.getElem_cons_succ, List.getElem_cons_zero, List.setIfInBounds_toArray, List.set_cons_zero, List.set_cons_succ]
                    refine GoG.two (i := 4) (j := 10) rfl rfl (by kernel_rfl) (fun K hK => ?_) (fun K hK => ?_)
                    · have T1 := Lib.hid (TZ.out.kept (show Below wz.heap.size wz (wz.alloc (.cells #[.string wd] 9)).drew from ((Below.refl _ _).alloc (Nat.le_refl _) _).drew))
                      have K1 := Lib.hid (show BlockAt (wz.alloc (.cells #[.string wd] 9)).drew (wz.heap.size) #[.string wd] 9 from BlockAt.new _ _ _)
                      go_simp
                      refine hK.out _ _ (Keeps.cons (T1.out.box.cell 3) (Keeps.cons (T1.out.box.cell 4) (Keeps.up (by rfl) (Keeps.cons ((KX1.out.below ((Below.refl _ _).alloc (Nat.le_refl _) _).drew).cell 1) Keeps.nil)))) ?_
                      clear hK K
                      try simp only [Act.put, List.getElem_toArray, List.getElem_cons_succ, List.getElem_cons_zero, List.setIfInBounds_toArray, List.set_cons_zero, List.set_cons_succ]
                      refine GoG.two (i := 5) (j := 10) rfl rfl (by kernel_rfl) (fun K hK => ?_) (fun K hK => ?_)
                      · obtain ⟨v5, w5, hap, hown, hgrow, -, hblk⟩ := run_append_own_at (P := Tryz.prog) (wz.alloc (.cells #[.string wd] 9)).drew W3.heap.size 35 35 9 s0 (.string ⟨#[]⟩) 1 16 Tryz.underlying35 hsi hs0 hs1 hs2 rfl (by decide) wv2 ws1.length (strC ws1) T1.out.wr ⟨wz.heap.size, 0, none⟩ 1 1 [.string wd] rfl (cell_at1 K1.out) (fun u hu => by rw [List.mem_singleton.1 hu]; rfl) (by unfold maxLen; omega) (by omega) T1.out.gr.size
                        have T5 := Lib.hid (T1.out.pushW hgrow hown hblk)
                        obtain ⟨aov5, acv5, ev5, -, -⟩ := ownW_row T5.out.wr
                        rw [List.length_append, List.length_singleton] at ev5
                        subst ev5
                        have KX5 := Lib.hid (fresh_grown (KX1.out.below ((Below.refl _ _).alloc (Nat.le_refl _) _).drew) (HXB.out) hgrow)
                        rw [if_pos (by rfl)]
                        refine wp_run_append _ _ _ rfl _ _ _ rfl rfl hap ?_
                        refine hK.out _ _ (Keeps.cons (T5.out.box.cell 3) (Keeps.cons (T5.out.box.cell 4) (Keeps.up (by rfl) (Keeps.cons (KX5.out.cell 1) Keeps.nil)))) ?_
                        clear hK K hap hown hgrow hblk
                        try simp only [Act.put, List.getElem_toArray, List.getElem_cons_succ, List.getElem_cons_zero, List.setIfInBounds_toArray, List.set_cons_zero, List.set_cons_succ]
                        refine GoG.take (i := 12) (v := ?_) [] rfl (by kernel_rfl) (by kernel_rfl) (by kernel_rfl) (by kernel_rfl) (by kernel_rfl) (by kernel_rfl) (fun _ _ _ h => h) (yields_free (by rfl) (fun w => ?_)) ?_
                        rotate_left
                        · go_simp; try (with_reducible rfl)
                        try simp only [Act.put, List.getElem_toArray, List.getElem_cons_succ, List.getElem_cons_zero, List.setIfInBounds_toArray, List.set_cons_zero, List.set_cons_succ]
                        have T7 := Lib.hid (T5.out.kept (show Below w5.heap.size w5 (w5.alloc (.cells #[.int .i64 (zn : Int)] 3)) from (Below.refl _ _).alloc (Nat.le_refl _) _))
                        have K7 := Lib.hid (show BlockAt (w5.alloc (.cells #[.int .i64 (zn : Int)] 3)) (w5.heap.size) #[.int .i64 (zn : Int)] 3 from BlockAt.new _ _ _)
                        refine GoG.one (i := 10) rfl (by kernel_rfl) (fun K hK => ?_)
                        go_simp
                        refine hK.out _ _ (Keeps.cons (T7.out.box.cell 3) (Keeps.cons (T7.out.box.cell 4) (Keeps.up (by rfl) (Keeps.up (by rfl) Keeps.nil)))) ?_
                        clear hK K
                        try simp only [Act.put, List.getElem_toArray, List.getElem_cons_succ, List.getElem_cons_zero, List.setIfInBounds_toArray, List.set_cons_zero, List.set_cons_succ]
                        obtain ⟨v6, w6, hap, hown, hgrow, -, hblk⟩ := run_append_own_at (P := Tryz.prog) (w5.alloc (.cells #[.int .i64 (zn : Int)] 3)) W3.heap.size 36 36 3 k0 (.int .i64 0) 1 8 Tryz.underlying36 hki hk0 hk1 hk2 rfl (by decide) kv2 ks1.length (intC ks1) T7.out.kr ⟨w5.heap.size, 0, none⟩ 1 1 [.int .i64 (zn : Int)] rfl (cell_at1 K7.out) (fun u hu => by rw [List.mem_singleton.1 hu]; rfl) (by unfold maxLen; omega) (by omega) T7.out.gr.size
                        have T6 := Lib.hid (T7.out.pushK hgrow hown hblk)
                        obtain ⟨aov6, acv6, ev6, -, -⟩ := ownK_row T6.out.kr
                        rw [List.length_append, List.length_singleton] at ev6
                        subst ev6
                        refine GoG.one (i := 11) rfl (by kernel_rfl) (fun K hK => ?_)
                        rw [if_pos (by rfl)]
                        refine wp_run_append _ _ _ rfl _ _ _ rfl rfl hap ?_
                        refine hK.out _ _ (Keeps.cons (T6.out.box.cell 3) (Keeps.cons (T6.out.box.cell 4) (Keeps.up (by rfl) (Keeps.up (by rfl) Keeps.nil)))) ?_
                        clear hK K hap hown hgrow hblk
                        try simp only [Act.put, List.getElem_toArray, List.getElem_cons_succ, List.getElem_cons_zero, List.setIfInBounds_toArray, List.set_cons_zero, List.set_cons_succ]
                        have fz3 := T6.out.box.free 3
                        have cz3 := T6.out.box.cell 3
                        simp only [List.getElem?_toArray, List.getElem?_cons_zero, List.getElem?_cons_succ] at cz3
                        have TA := Lib.hid (T6.out.store3 (.slice aov5 (ws1.length + 1) acv5))
                        refine GoG.one (i := 13) rfl (by kernel_rfl) (fun K hK => ?_)
                        go_simp
                        clear fz3 cz3
                        refine hK.out _ _ (Keeps.up (by rfl) (Keeps.cons (TA.out.box.cell 4) (Keeps.up (by rfl) (Keeps.up (by rfl) Keeps.nil)))) ?_
                        clear hK K
                        try simp only [Act.put, List.getElem_toArray, List.getElem_cons_succ, List.getElem_cons_zero, List.setIfInBounds_toArray, List.set_cons_zero, List.set_cons_succ]
                        refine GoG.take (i := 14) (v := ?_) [] rfl (by kernel_rfl) (by kernel_rfl) (by kernel_rfl) (by kernel_rfl) (by kernel_rfl) (by kernel_rfl) (fun _ _ _ h => h) (yields_free (by rfl) (fun w => ?_)) ?_
                        rotate_left
                        · go_simp; try (with_reducible rfl)
                        try simp only [Act.put, List.getElem_toArray, List.getElem_cons_succ, List.getElem_cons_zero, List.setIfInBounds_toArray, List.set_cons_zero, List.set_cons_succ]
                        have fz4 := TA.out.box.free 4
                        have cz4 := TA.out.box.cell 4
                        simp only [List.getElem?_toArray, List.getElem?_cons_zero, List.getElem?_cons_succ] at cz4
                        have TB := Lib.hid (TA.out.store4 (.slice aov6 (ks1.length + 1) acv6))
                        refine GoG.one (i := 15) rfl (by kernel_rfl) (fun K hK => ?_)
                        go_simp
                        clear fz4 cz4
                        refine hK.out _ _ (Keeps.up (by rfl) (Keeps.up (by rfl) (Keeps.up (by rfl) (Keeps.up (by rfl) Keeps.nil)))) ?_
                        clear hK K
                        try simp only [Act.put, List.getElem_toArray, List.getElem_cons_succ, List.getElem_cons_zero, List.setIfInBounds_toArray, List.set_cons_zero, List.set_cons_succ]
                        refine GoG.done (by kernel_rfl) ?_ _
                        clear HNW HXB
                        go_wp2_with fail
                        go_roundw
                        case rel => exact ⟨k + 1, _, _, pre ++ [(bx, (zn : Int))], by omega, by go_num, HP2, HL2, HBD, Lib.hid (by rw [HAP.out.1, HAP.out.2]; exact TB.out)⟩
                        case measure => first | (simp [intOf]; done) | (simp [intOf]; omega)
                      · have T2 := Lib.hid (TZ.out.kept (show Below wz.heap.size wz ((wz.alloc (.cells #[.string wd] 9)).alloc (.cells #[.int .i64 (zn : Int)] 3)).drew from (((Below.refl _ _).alloc (Nat.le_refl _) _).alloc (by simp) _).drew))
                        have K2 := Lib.hid (show BlockAt ((wz.alloc (.cells #[.string wd] 9)).alloc (.cells #[.int .i64 (zn : Int)] 3)).drew (wz.heap.size + 1) #[.int .i64 (zn : Int)] 3 from (show BlockAt ((wz.alloc (.cells #[.string wd] 9)).alloc (.cells #[.int .i64 (zn : Int)] 3)) (wz.heap.size + 1) #[.int .i64 (zn : Int)] 3 from by simpa using BlockAt.new (wz.alloc (.cells #[.string wd] 9)) #[.int .i64 (zn : Int)] 3))
                        have K3 := Lib.hid (show BlockAt ((wz.alloc (.cells #[.string wd] 9)).alloc (.cells #[.int .i64 (zn : Int)] 3)).drew wz.heap.size #[.string wd] 9 from (BlockAt.new wz #[.string wd] 9).below ((Below.refl _ _).alloc (Nat.le_refl _) _).drew)
                        go_simp
                        refine hK.out _ _ (Keeps.cons (T2.out.box.cell 3) (Keeps.cons (T2.out.box.cell 4) (Keeps.up (by rfl) (Keeps.up (by rfl) Keeps.nil)))) ?_
                        clear hK K
                        try simp only [Act.put, List.getElem_toArray, List.getElem_cons_succ, List.getElem_cons_zero, List.setIfInBounds_toArray, List.set_cons_zero, List.set_cons_succ]
                        obtain ⟨v5, w5, hap, hown, hgrow, -, hblk⟩ := run_append_own_at (P := Tryz.prog) ((wz.alloc (.cells #[.string wd] 9)).alloc (.cells #[.int .i64 (zn : Int)] 3)).drew W3.heap.size 35 35 9 s0 (.string ⟨#[]⟩) 1 16 Tryz.underlying35 hsi hs0 hs1 hs2 rfl (by decide) wv2 ws1.length (strC ws1) T2.out.wr ⟨wz.heap.size, 0, none⟩ 1 1 [.string wd] rfl (cell_at1 K3.out) (fun u hu => by rw [List.mem_singleton.1 hu]; rfl) (by unfold maxLen; omega) (by omega) T2.out.gr.size
                        have T5 := Lib.hid (T2.out.pushW hgrow hown hblk)
                        obtain ⟨aov5, acv5, ev5, -, -⟩ := ownW_row T5.out.wr
                        rw [List.length_append, List.length_singleton] at ev5
                        subst ev5
                        have K5 := Lib.hid (fresh_grown K2.out (HNW.out _ (by simp)) hgrow)
                        refine GoG.one (i := 5) rfl (by kernel_rfl) (fun K hK => ?_)
                        rw [if_pos (by rfl)]
                        refine wp_run_append _ _ _ rfl _ _ _ rfl rfl hap ?_
                        refine hK.out _ _ (Keeps.cons (T5.out.box.cell 3) (Keeps.cons (T5.out.box.cell 4) (Keeps.up (by rfl) (Keeps.up (by rfl) Keeps.nil)))) ?_
                        clear hK K hap hown hgrow hblk
                        try simp only [Act.put, List.getElem_toArray, List.getElem_cons_succ, List.getElem_cons_zero, List.setIfInBounds_toArray, List.set_cons_zero, List.set_cons_succ]
                        refine GoG.take (i := 12) (v := ?_) [] rfl (by kernel_rfl) (by kernel_rfl) (by kernel_rfl) (by kernel_rfl) (by kernel_rfl) (by kernel_rfl) (fun _ _ _ h => h) (yields_free (by rfl) (fun w => ?_)) ?_
                        rotate_left
                        · go_simp; try (with_reducible rfl)
                        try simp only [Act.put, List.getElem_toArray, List.getElem_cons_succ, List.getElem_cons_zero, List.setIfInBounds_toArray, List.set_cons_zero, List.set_cons_succ]
                        obtain ⟨v6, w6, hap, hown, hgrow, -, hblk⟩ := run_append_own_at (P := Tryz.prog) w5 W3.heap.size 36 36 3 k0 (.int .i64 0) 1 8 Tryz.underlying36 hki hk0 hk1 hk2 rfl (by decide) kv2 ks1.length (intC ks1) T5.out.kr ⟨wz.heap.size + 1, 0, none⟩ 1 1 [.int .i64 (zn : Int)] rfl (cell_at1 K5.out) (fun u hu => by rw [List.mem_singleton.1 hu]; rfl) (by unfold maxLen; omega) (by omega) T5.out.gr.size
                        have T6 := Lib.hid (T5.out.pushK hgrow hown hblk)
                        obtain ⟨aov6, acv6, ev6, -, -⟩ := ownK_row T6.out.kr
                        rw [List.length_append, List.length_singleton] at ev6
                        subst ev6
                        refine GoG.one (i := 11) rfl (by kernel_rfl) (fun K hK => ?_)
                        rw [if_pos (by rfl)]
                        refine wp_run_append _ _ _ rfl _ _ _ rfl rfl hap ?_
                        refine hK.out _ _ (Keeps.cons (T6.out.box.cell 3) (Keeps.cons (T6.out.box.cell 4) (Keeps.up (by rfl) (Keeps.up (by rfl) Keeps.nil)))) ?_
                        clear hK K hap hown hgrow hblk
                        try simp only [Act.put, List.getElem_toArray, List.getElem_cons_succ, List.getElem_cons_zero, List.setIfInBounds_toArray, List.set_cons_zero, List.set_cons_succ]
                        have fz3 := T6.out.box.free 3
                        have cz3 := T6.out.box.cell 3
                        simp only [List.getElem?_toArray, List.getElem?_cons_zero, List.getElem?_cons_succ] at cz3
                        have TA := Lib.hid (T6.out.store3 (.slice aov5 (ws1.length + 1) acv5))
                        refine GoG.one (i := 13) rfl (by kernel_rfl) (fun K hK => ?_)
                        go_simp
                        clear fz3 cz3
                        refine hK.out _ _ (Keeps.up (by rfl) (Keeps.cons (TA.out.box.cell 4) (Keeps.up (by rfl) (Keeps.up (by rfl) Keeps.nil)))) ?_
                        clear hK K
                        try simp only [Act.put, List.getElem_toArray, List.getElem_cons_succ, List.getElem_cons_zero, List.setIfInBounds_toArray, List.set_cons_zero, List.set_cons_succ]
                        refine GoG.take (i := 14) (v := ?_) [] rfl (by kernel_rfl) (by kernel_rfl) (by kernel_rfl) (by kernel_rfl) (by kernel_rfl) (by kernel_rfl) (fun _ _ _ h => h) (yields_free (by rfl) (fun w => ?_)) ?_
                        rotate_left
                        · go_simp; try (with_reducible rfl)
                        try simp only [Act.put, List.getElem_toArray, List.getElem_cons_succ, List.getElem_cons_zero, List.setIfInBounds_toArray, List.set_cons_zero, List.set_cons_succ]
                        have fz4 := TA.out.box.free 4
                        have cz4 := TA.out.box.cell 4
                        simp only [List.getElem?_toArray, List.getElem?_cons_zero, List.getElem?_cons_succ] at cz4
                        have TB := Lib.hid (TA.out.store4 (.slice aov6 (ks1.length + 1) acv6))
                        refine GoG.one (i := 15) rfl (by kernel_rfl) (fun K hK => ?_)
                        go_simp
                        clear fz4 cz4
                        refine hK.out _ _ (Keeps.up (by rfl) (Keeps.up (by rfl) (Keeps.up (by rfl) (Keeps.up (by rfl) Keeps.nil)))) ?_
                        clear hK K
                        try simp only [Act.put, List.getElem_toArray, List.getElem_cons_succ, List.getElem_cons_zero, List.setIfInBounds_toArray, List.set_cons_zero, List.set_cons_succ]
                        refine GoG.done (by kernel_rfl) ?_ _
                        clear HNW HXB
                        go_wp2_with fail
                        go_roundw
                        case rel => exact ⟨k + 1, _, _, pre ++ [(bx, (zn : Int))], by omega, by go_num, HP2, HL2, HBD, Lib.hid (by rw [HAP.out.1, HAP.out.2]; exact TB.out)⟩
                        case measure => first | (simp [intOf]; done) | (simp [intOf]; omega)
                    · have T1 := Lib.hid (TZ.out.kept (show Below wz.heap.size wz (wz.alloc (.cells #[.int .i64 (zn : Int)] 3)).drew from ((Below.refl _ _).alloc (Nat.le_refl _) _).drew))
                      have K1 := Lib.hid (show BlockAt (wz.alloc (.cells #[.int .i64 (zn : Int)] 3)).drew (wz.heap.size) #[.int .i64 (zn : Int)] 3 from BlockAt.new _ _ _)
                      go_simp
                      refine hK.out _ _ (Keeps.cons (T1.out.box.cell 3) (Keeps.cons (T1.out.box.cell 4) (Keeps.cons ((KX1.out.below ((Below.refl _ _).alloc (Nat.le_refl _) _).drew).cell 0) (Keeps.up (by rfl) Keeps.nil)))) ?_
                      clear hK K
                      try simp only [Act.put, List.getElem_toArray, List.getElem_cons_succ, List.getElem_cons_zero, List.setIfInBounds_toArray, List.set_cons_zero, List.set_cons_succ]
                      have T2 := Lib.hid (TZ.out.kept (show Below wz.heap.size wz ((wz.alloc (.cells #[.int .i64 (zn : Int)] 3)).alloc (.cells #[.string wd] 9)).drew from (((Below.refl _ _).alloc (Nat.le_refl _) _).alloc (by simp) _).drew))
                      have K2 := Lib.hid (show BlockAt ((wz.alloc (.cells #[.int .i64 (zn : Int)] 3)).alloc (.cells #[.string wd] 9)).drew (wz.heap.size + 1) #[.string wd] 9 from (show BlockAt ((wz.alloc (.cells #[.int .i64 (zn : Int)] 3)).alloc (.cells #[.string wd] 9)) (wz.heap.size + 1) #[.string wd] 9 from by simpa using BlockAt.new (wz.alloc (.cells #[.int .i64 (zn : Int)] 3)) #[.string wd] 9))
                      have K3 := Lib.hid (show BlockAt ((wz.alloc (.cells #[.int .i64 (zn : Int)] 3)).alloc (.cells #[.string wd] 9)).drew wz.heap.size #[.int .i64 (zn : Int)] 3 from (BlockAt.new wz #[.int .i64 (zn : Int)] 3).below ((Below.refl _ _).alloc (Nat.le_refl _) _).drew)
                      refine GoG.one (i := 4) rfl (by kernel_rfl) (fun K hK => ?_)
                      go_simp
                      refine hK.out _ _ (Keeps.cons (T2.out.box.cell 3) (Keeps.cons (T2.out.box.cell 4) (Keeps.up (by rfl) (Keeps.up (by rfl) Keeps.nil)))) ?_
                      clear hK K
                      try simp only [Act.put, List.getElem_toArray, List.getElem_cons_succ, List.getElem_cons_zero, List.setIfInBounds_toArray, List.set_cons_zero, List.set_cons_succ]
                      obtain ⟨v5, w5, hap, hown, hgrow, -, hblk⟩ := run_append_own_at (P := Tryz.prog) ((wz.alloc (.cells #[.int .i64 (zn : Int)] 3)).alloc (.cells #[.string wd] 9)).drew W3.heap.size 35 35 9 s0 (.string ⟨#[]⟩) 1 16 Tryz.underlying35 hsi hs0 hs1 hs2 rfl (by decide) wv2 ws1.length (strC ws1) T2.out.wr ⟨wz.heap.size + 1, 0, none⟩ 1 1 [.string wd] rfl (cell_at1 K2.out) (fun u hu => by rw [List.mem_singleton.1 hu]; rfl) (by unfold maxLen; omega) (by omega) T2.out.gr.size
                      have T5 := Lib.hid (T2.out.pushW hgrow hown hblk)
                      obtain ⟨aov5, acv5, ev5, -, -⟩ := ownW_row T5.out.wr
                      rw [List.length_append, List.length_singleton] at ev5
                      subst ev5
                      have K5 := Lib.hid (fresh_grown K3.out (HNW.out _ (by simp)) hgrow)
                      refine GoG.one (i := 5) rfl (by kernel_rfl) (fun K hK => ?_)
                      rw [if_pos (by rfl)]
                      refine wp_run_append _ _ _ rfl _ _ _ rfl rfl hap ?_
                      refine hK.out _ _ (Keeps.cons (T5.out.box.cell 3) (Keeps.cons (T5.out.box.cell 4) (Keeps.up (by rfl) (Keeps.up (by rfl) Keeps.nil)))) ?_
                      clear hK K hap hown hgrow hblk
                      try simp only [Act.put, List.getElem_toArray, List.getElem_cons_succ, List.getElem_cons_zero, List.setIfInBounds_toArray, List.set_cons_zero, List.set_cons_succ]
                      refine GoG.take (i := 12) (v := ?_) [] rfl (by kernel_rfl) (by kernel_rfl) (by kernel_rfl) (by kernel_rfl) (by kernel_rfl) (by kernel_rfl) (fun _ _ _ h => h) (yields_free (by rfl) (fun w => ?_)) ?_
                      rotate_left
                      · go_simp; try (with_reducible rfl)
                      try simp only [Act.put, List.getElem_toArray, List.getElem_cons_succ, List.getElem_cons_zero, List.setIfInBounds_toArray, List.set_cons_zero, List.set_cons_succ]
                      obtain ⟨v6, w6, hap, hown, hgrow, -, hblk⟩ := run_append_own_at (P := Tryz.prog) w5 W3.heap.size 36 36 3 k0 (.int .i64 0) 1 8 Tryz.underlying36 hki hk0 hk1 hk2 rfl (by decide) kv2 ks1.length (intC ks1) T5.out.kr ⟨wz.heap.size, 0, none⟩ 1 1 [.int .i64 (zn : Int)] rfl (cell_at1 K5.out) (fun u hu => by rw [List.mem_singleton.1 hu]; rfl) (by unfold maxLen; omega) (by omega) T5.out.gr.size
                      have T6 := Lib.hid (T5.out.pushK hgrow hown hblk)
                      obtain ⟨aov6, acv6, ev6, -, -⟩ := ownK_row T6.out.kr
                      rw [List.length_append, List.length_singleton] at ev6
                      subst ev6
                      refine GoG.one (i := 11) rfl (by kernel_rfl) (fun K hK => ?_)
                      rw [if_pos (by rfl)]
                      refine wp_run_append _ _ _ rfl _ _ _ rfl rfl hap ?_
                      refine hK.out _ _ (Keeps.cons (T6.out.box.cell 3) (Keeps.cons (T6.out.box.cell 4) (Keeps.up (by rfl) (Keeps.up (by rfl) Keeps.nil)))) ?_
                      clear hK K hap hown hgrow hblk
                      try simp only [Act.put, List.getElem_toArray, List.getElem_cons_succ, List.getElem_cons_zero, List.setIfInBounds_toArray, List.set_cons_zero, List.set_cons_succ]
                      have fz3 := T6.out.box.free 3
                      have cz3 := T6.out.box.cell 3
                      simp only [List.getElem?_toArray, List.getElem?_cons_zero, List.getElem?_cons_succ] at cz3
                      have TA := Lib.hid (T6.out.store3 (.slice aov5 (ws1.length + 1) acv5))
                      refine GoG.one (i := 13) rfl (by kernel_rfl) (fun K hK => ?_)
                      go_simp
                      clear fz3 cz3
                      refine hK.out _ _ (Keeps.up (by rfl) (Keeps.cons (TA.out.box.cell 4) (Keeps.up (by rfl) (Keeps.up (by rfl) Keeps.nil)))) ?_
                      clear hK K
                      try simp only [Act.put, List.getElem_toArray, List.getElem_cons_succ, List.getElem_cons_zero, List.setIfInBounds_toArray, List.set_cons_zero, List.set_cons_succ]
                      refine GoG.take (i := 14) (v := ?_) [] rfl (by kernel_rfl) (by kernel_rfl) (by kernel_rfl) (by kernel_rfl) (by kernel_rfl) (by kernel_rfl) (fun _ _ _ h => h) (yields_free (by rfl) (fun w => ?_)) ?_
                      rotate_left
                      · go_simp; try (with_reducible rfl)
                      try simp only [Act.put, List.getElem_toArray, List.getElem_cons_succ, List.getElem_cons_zero, List.setIfInBounds_toArray, List.set_cons_zero, List.set_cons_succ]
                      have fz4 := TA.out.box.free 4
                      have cz4 := TA.out.box.cell 4
                      simp only [List.getElem?_toArray, List.getElem?_cons_zero, List.getElem?_cons_succ] at cz4
                      have TB := Lib.hid (TA.out.store4 (.slice aov6 (ks1.length + 1) acv6))
                      refine GoG.one (i := 15) rfl (by kernel_rfl) (fun K hK => ?_)
                      go_simp
                      clear fz4 cz4
                      refine hK.out _ _ (Keeps.up (by rfl) (Keeps.up (by rfl) (Keeps.up (by rfl) (Keeps.up (by rfl) Keeps.nil)))) ?_
                      clear hK K
                      try simp only [Act.put, List.getElem_toArray, List.getElem_cons_succ, List.getElem_cons_zero, List.setIfInBounds_toArray, List.set_cons_zero, List.set_cons_succ]
                      refine GoG.done (by kernel_rfl) ?_ _
                      clear HNW HXB
                      go_wp2_with fail
                      go_roundw
                      case rel => exact ⟨k + 1, _, _, pre ++ [(bx, (zn : Int))], by omega, by go_num, HP2, HL2, HBD, Lib.hid (by rw [HAP.out.1, HAP.out.2]; exact TB.out)⟩
                      case measure => first | (simp [intOf]; done) | (simp [intOf]; omega)
            · have HBT := Lib.hid (show badT l (zn : Int) = true by rw [HUD.out]; rfl)
              clear HUD
              have HOD := Lib.hid (show oddT l t = true from odd_of (x := S[k]) HFIN.out.1 (by rw [HSS.out]; exact List.getElem_mem hkS) (by rw [HXS.out]; exact HBT.out))
              obtain ⟨e0, e1, e2, e3, e4⟩ := cell5 (TN.out.old K1.out HLE.out.2)
              have M2 := TN.out.old K2.out HNB.out
              obtain ⟨f0, f1, f2, f3, f4⟩ := cell5 M2
              have g0 := M2.free 0
              have g1 := M2.free 1
              have g2 := M2.free 2
              have g3 := M2.free 3
              have g4 := M2.free 4
              clear M2
              go_wp2_with fail
              refine bodyPost_ret (v := .tuple #[.agg #[.int .i64 t.kind, .string t.name, .int .i64 t.n, .slice wo q wc, .slice ko q kc], .bool false]) (by simp [results, Tryz.results102, go_sem, f0, f1, f2, f3, f4]) rfl ?_
              exact .inl ⟨HOD.out, _, _, _, _, _, _, rfl, below_set5 (HC1.out _ TN.out.any) HNB2.out _ _ _ _ _⟩
        · obtain rfl : k = N := by omega
          obtain ⟨aw, cw, ew, -, hcw⟩ := ownW_row TR.out.wr
          obtain ⟨ak, ck, ek, -, hck⟩ := ownK_row TR.out.kr
          have HPE : pre = lasts S := by
            have := HPRE.out
            rw [List.drop_eq_nil_of_le (by rw [HSL.out]; exact Nat.le_refl _)] at this
            simpa [lasts] using this
          obtain ⟨hW, hK⟩ := tidy_rows (L := l.length) HFIN.out.1 HFIN.out.2.1 HFIN.out.2.2 HSS.out HKB.out HPE
          have HOD := Lib.hid (show oddT l t = false from odd_not HFIN.out.1 (by rw [HSS.out]; exact fun j hj => HBAD.out j hj (by rw [← HSL.out]; exact hj)))
          have TF := TR.out
          rw [hW, hK] at TF
          rw [hW] at ew hcw
          rw [hK] at ek hck
          rw [HN.out] at TF ew ek hcw hck
          have HTF := Lib.hid TF
          have HCP := Lib.hid (And.intro hcw hck)
          obtain ⟨lW, hlW⟩ : ∃ x, (tidyT n t).words.length = x := ⟨_, rfl⟩
          obtain ⟨lK, hlK⟩ : ∃ x, (tidyT n t).kids.length = x := ⟨_, rfl⟩
          rw [hlW] at ew
          rw [hlK] at ek
          subst ew
          subst ek
          have HLW := Lib.hid (And.intro hlW hlK)
          obtain ⟨e0, e1, e2, e3, e4⟩ := cell5 HTF.out.box
          have M2 := HTF.out.old K2.out HNB.out
          obtain ⟨f0, f1, f2, f3, f4⟩ := cell5 M2
          have g0 := M2.free 0
          have g1 := M2.free 1
          have g2 := M2.free 2
          have g3 := M2.free 3
          have g4 := M2.free 4
          clear M2 TF hcw hck hW hK HPE hlW hlK TR
          go_wp2_with fail
          refine bodyPost_ret (v := .tuple #[.agg #[.int .i64 t.kind, .string t.name, .int .i64 t.n, .slice aw lW cw, .slice ak lK ck], .bool true]) (by simp [results, Tryz.results102, go_sem, f0, f1, f2, f3, f4]) rfl ?_
          obtain ⟨aw', cw', ew', rw1, -⟩ := ownW_row (rowW_set5 HTF.out.wr HNB3.out (.int .i64 t.kind) (.string t.name) (.int .i64 t.n) (.slice aw lW cw) (.slice ak lK ck))
          obtain ⟨ak', ck', ek', rk1, -⟩ := ownK_row (rowK_set5 HTF.out.kr HNB3.out (.int .i64 t.kind) (.string t.name) (.int .i64 t.n) (.slice aw lW cw) (.slice ak lK ck))
          injection ew' with ea _ _
          injection ek' with eb _ _
          subst ea
          subst eb
          refine .inr ⟨HOD.out, aw, ak, cw, ck, ?_, HCP.out.1, HCP.out.2, rw1, rk1, fun a ha => by (subst ha; have g1 := (World.ownsRow.lt HTF.out.wr a.block rfl).1; have g2 := BW.out.size; omega), fun a ha => by (subst ha; have g1 := (World.ownsRow.lt HTF.out.kr a.block rfl).1; have g2 := BW.out.size; omega), below_set5 (HC1.out _ HTF.out.any) HNB2.out _ _ _ _ _⟩
          unfold tyV
          rw [HLW.out.1, HLW.out.2]
          rfl
end Go.Proofs.YtkmnfkhchcoamaaGreatDoor

