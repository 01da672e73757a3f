/- Rows of tokens; the document's answer: Ends. -/
import Derived.Test.YtjhgibdebcapfaaScanRefS
import Derived.Maps.AppendAt
namespace Go.Proofs.Ytjhgibdebcapfaa
open Go.RowKit
set_option linter.unusedSimpArgs false
set_option linter.unusedVariables false

theorem info_parts {t : TypeId} {z : Value} {s b : Nat} (h : (Try.prog.info? t).map (fun i => (i.zero, i.size, i.bytes)) = some (some z, s, b)) : ∃ i, Try.prog.info? t = some i ∧ i.zero = some z ∧ i.size = s ∧ i.bytes = b := by
  obtain ⟨i, hi, hz⟩ := Option.map_eq_some_iff.1 h
  simp only [Prod.mk.injEq] at hz
  exact ⟨i, hi, hz.1, hz.2.1, hz.2.2⟩
theorem info_tok : (Try.prog.info? 39).map (fun i => (i.zero, i.size, i.bytes)) = some (some (.agg #[.int .i64 0, .string ⟨#[]⟩, .int .i64 0]), 3, 32) := by kernel_rfl
def tkC1 (t : Tk) : List Value := [.int .i64 t.kind, .string t.text, .int .i64 (t.pos : Int)]
def tkC (l : List Tk) : List Value := l.flatMap tkC1
theorem tkC_len : ∀ l : List Tk, (tkC l).length = l.length * 3
  | [] => rfl
  | t :: r => by
    have ih := tkC_len r
    unfold tkC at *
    rw [List.flatMap_cons, List.length_append, ih, List.length_cons]
    show 3 + _ = _
    omega
theorem tkC_add (l : List Tk) (t : Tk) : tkC (l ++ [t]) = tkC l ++ tkC1 t := by unfold tkC; simp
theorem tkC_at : ∀ (l : List Tk) (k : Nat) (h : k < l.length), (tkC l)[k * 3]? = some (.int .i64 l[k].kind) ∧ (tkC l)[k * 3 + 1]? = some (.string l[k].text) ∧ (tkC l)[k * 3 + 2]? = some (.int .i64 (l[k].pos : Int))
  | [], k, h => absurd h (Nat.not_lt_zero _)
  | t :: r, 0, h => ⟨rfl, rfl, rfl⟩
  | t :: r, k + 1, h => by
    have ih := tkC_at r k (Nat.lt_of_succ_lt_succ h)
    have e : ∀ j, (tkC (t :: r))[(k + 1) * 3 + j]? = (tkC r)[k * 3 + j]? := fun j => by
      unfold tkC
      rw [List.flatMap_cons, List.getElem?_append_right (by show 3 ≤ _; omega)]
      exact congrArg (fun n => (r.flatMap tkC1)[n]?) (show (k + 1) * 3 + j - 3 = k * 3 + j by omega)
    exact ⟨(e 0).trans ih.1, (e 1).trans ih.2.1, (e 2).trans ih.2.2⟩
/-- A row of the call's own that holds these tokens. -/
def Own (w : World) (base : Nat) (v : Value) (l : List Tk) : Prop := w.ownsRow base 39 3 v l.length (tkC l)
/-- Tokens that lie in a row. -/
structure TRow (w : World) (ao : Option Addr) (l : List Tk) : Prop where
  cells : 0 < l.length → ∃ b off, ao = some ⟨b, off, none⟩ ∧ b < w.heap.size ∧ ∀ k (h : k < l.length), w.cell? ⟨b, off + k * 3, none⟩ = some (.int .i64 l[k].kind) ∧ w.cell? ⟨b, off + k * 3 + 1, none⟩ = some (.string l[k].text) ∧ w.cell? ⟨b, off + k * 3 + 2, none⟩ = some (.int .i64 (l[k].pos : Int))
theorem TRow.below {w w' : World} {ao : Option Addr} {l : List Tk} (h : TRow w ao l) (hb : Below w.heap.size w w') : TRow w' ao l := ⟨fun h0 => by
  obtain ⟨b, off, e, hlt, hc⟩ := h.cells h0
  refine ⟨b, off, e, Nat.lt_of_lt_of_le hlt hb.size, fun k hk => ?_⟩
  obtain ⟨c0, c1, c2⟩ := hc k hk
  exact ⟨(hb.cell hlt).trans c0, (hb.cell hlt).trans c1, (hb.cell hlt).trans c2⟩⟩
theorem own_row {w : World} {base : Nat} {v : Value} {l : List Tk} (h : Own w base v l) : ∃ ao cap, v = .slice ao l.length cap ∧ TRow w ao l := by
  obtain ⟨h1, h2⟩ := h
  rcases h2 with ⟨rfl, h0⟩ | ⟨g, cap, cur, rfl, hg, hcur, hcap1, hcap2, hcs, htk⟩
  · exact ⟨none, 0, by rw [h0], ⟨fun h => by omega⟩⟩
  · refine ⟨_, _, rfl, ⟨fun h0 => ⟨g, 0, rfl, (Array.getElem?_eq_some_iff.1 hcur).1, fun k hk => ?_⟩⟩⟩
    obtain ⟨c0, c1, c2⟩ := tkC_at l k hk
    have e : ∀ j, j < l.length * 3 → w.cell? ⟨g, j, none⟩ = (tkC l)[j]? := fun j hj => by
      simp only [World.cell?, hcur, Option.isSome_none, Bool.false_eq_true, if_false]
      rw [← htk, List.getElem?_take_of_lt hj]
      simp
    rw [Nat.zero_add]
    exact ⟨(e _ (by omega)).trans c0, (e _ (by omega)).trans c1, (e _ (by omega)).trans c2⟩
theorem own_nil (w : World) (base : Nat) : Own w base (.slice none 0 0) [] := World.ownsRow_nil _ _ _ _
theorem Own.lower {w : World} {a b : Nat} {v : Value} {l : List Tk} (h : Own w b v l) (hb : a ≤ b) : Own w a v l := by
  obtain ⟨h1, h2⟩ := h
  refine ⟨h1, ?_⟩
  rcases h2 with h2 | ⟨g, cap, cur, hv, hg, rest⟩
  · exact .inl h2
  · exact .inr ⟨g, cap, cur, hv, Nat.le_trans hb hg, rest⟩
theorem Own.kept {w w' : World} {base : Nat} {v : Value} {l : List Tk} (h : Own w base v l) (hb : Below w.heap.size w w') : Own w' base v l := by
  obtain ⟨h1, h2⟩ := h
  refine ⟨h1, ?_⟩
  rcases h2 with h2 | ⟨g, cap, cur, hv, hg, hcur, rest⟩
  · exact .inl h2
  · exact .inr ⟨g, cap, cur, hv, hg, by rw [hb.block _ (Array.getElem?_eq_some_iff.1 hcur).1]; exact hcur, rest⟩
theorem cell_new3 (w : World) (x0 x1 x2 : Value) (t : TypeId) : ∀ (j : Nat) (u : Value), [x0, x1, x2][j]? = some u → (w.alloc (.cells #[x0, x1, x2] t)).cell? ((⟨w.heap.size, 0, none⟩ : Addr).add j) = some u := by
  intro j u hu
  have hadd : (⟨w.heap.size, 0, none⟩ : Addr).add j = ⟨w.heap.size, j, none⟩ := by unfold Addr.add; split <;> simp_all
  rw [hadd, World.cell?_alloc_at _ _ _ _ rfl]
  simpa using hu
theorem own_more {w' : World} {base : Nat} {v' : Value} {l : List Tk} {t : Tk} {n : Nat} (hn : n = l.length + 1) (h : w'.ownsRow base 39 3 v' n (tkC l ++ tkC1 t)) : Own w' base v' (l ++ [t]) := by
  subst hn
  unfold Own
  rw [tkC_add, List.length_append]
  exact h
theorem ends_none : endsT [] = false := rfl
theorem ends_last {l : List Tk} {m : Nat} (h : l.length = m + 1) : endsT l = shutT (l[m]'(by omega)) := by
  unfold endsT
  rw [List.getLast?_eq_getElem?, show l.length - 1 = m by omega, List.getElem?_eq_getElem (by omega)]
set_option maxHeartbeats 4000000 in
set_option maxRecDepth 100000 in
theorem refends_any (ao : Option Addr) (cap : Nat) (l : List Tk) (w : World) (hr : TRow w ao l) (hl : l.length ≤ 100000) :
    Calls Try.prog 17 #[.slice ao l.length cap] w fun e w' => e = .returned (.bool (endsT l)) ∧ Below w.heap.size w w' := by
  rcases Nat.eq_zero_or_pos l.length with h0 | h0
  · have hn := Lib.hid (show endsT l = false by rw [List.eq_nil_of_length_eq_zero h0]; rfl)
    rw [h0]
    go_enter Try.func17, Try.ntmps17
    go_wp2_with fail
    go_ret
    exact ⟨ret_bool hn.out.symm, Below.refl _ _⟩
  obtain ⟨b, off, rfl, hb, hc⟩ := hr.cells h0
  obtain ⟨m, hm⟩ : ∃ m, l.length = m + 1 := ⟨l.length - 1, by omega⟩
  have hE := ends_last hm
  obtain ⟨c0, c1, c2⟩ := hc m (by omega)
  obtain ⟨t, ht⟩ : ∃ t, l[m]'(by omega) = t := ⟨_, rfl⟩
  rw [ht] at hE c0 c1 c2
  obtain ⟨kd, tx, ps⟩ := t
  simp only at c0 c1 c2
  have HE := Lib.hid (show endsT l = if kd = 6 then (tx.toList == [41] || tx.toList == [93] || tx.toList == [125]) else if kd = 7 then tx.toList == [114, 101, 116, 117, 114, 110] else true from hE)
  have hsub : ((m + 1 : Nat) : Int) - 1 = (m : Int) := by omega
  have hne : ((m + 1 : Nat) == 0) = false := rfl
  rw [hm] at hl ⊢
  clear hc ht hE hr h0 hm
  have BZ := Lib.hid (show Below w.heap.size w (w.alloc (.cells #[.int .i64 kd, .string tx, .int .i64 (ps : Int)] 39)) from (Below.refl _ _).alloc (Nat.le_refl _) _)
  by_cases h6 : kd = 6
  · have g6 : (kd == 6) = true := by rw [h6]; rfl
    have HE6 := HE.out
    rw [if_pos h6] at HE6
    clear h6 HE
    cases t1 : (tx.toList == [41]) <;> rw [t1] at HE6
    · cases t2 : (tx.toList == [93]) <;> rw [t2] at HE6
      · cases t3 : (tx.toList == [125]) <;> rw [t3] at HE6
        all_goals
          have HH := Lib.hid HE6
          clear HE6
          go_enter Try.func17, Try.ntmps17
          go_wp2_with fail
          go_ret
          exact ⟨ret_bool HH.out.symm, BZ.out⟩
      · have HH := Lib.hid HE6
        clear HE6
        go_enter Try.func17, Try.ntmps17
        go_wp2_with fail
        go_ret
        exact ⟨ret_bool HH.out.symm, BZ.out⟩
    · have HH := Lib.hid HE6
      clear HE6
      go_enter Try.func17, Try.ntmps17
      go_wp2_with fail
      go_ret
      exact ⟨ret_bool HH.out.symm, BZ.out⟩
  have g6 : (kd == 6) = false := by rw [beq_eq_false_iff_ne]; exact h6
  by_cases h7 : kd = 7
  · have g7 : (kd == 7) = true := by rw [h7]; rfl
    have HE6 := HE.out
    rw [if_neg h6, if_pos h7] at HE6
    clear h6 h7 HE
    cases t1 : (tx.toList == [114, 101, 116, 117, 114, 110]) <;> rw [t1] at HE6
    all_goals
      have HH := Lib.hid HE6
      clear HE6
      go_enter Try.func17, Try.ntmps17
      go_wp2_with fail
      go_ret
      exact ⟨ret_bool HH.out.symm, BZ.out⟩
  · have g7 : (kd == 7) = false := by rw [beq_eq_false_iff_ne]; exact h7
    have HH := Lib.hid (show endsT l = true by rw [HE.out, if_neg h6, if_neg h7])
    clear h6 h7 HE
    go_enter Try.func17, Try.ntmps17
    go_wp2_with fail
    go_ret
    exact ⟨ret_bool HH.out.symm, BZ.out⟩
end Go.Proofs.Ytjhgibdebcapfaa
