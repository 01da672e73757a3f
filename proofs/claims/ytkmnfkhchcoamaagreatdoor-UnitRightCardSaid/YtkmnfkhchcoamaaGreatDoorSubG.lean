import Derived.Test.YtkmnfkhchcoamaaGreatDoorSubTidy
import Derived.Test.YtkmnfkhchcoamaaGreatDoorSubB
import Derived.Maps.Own
import Derived.Maps.OwnOps
import Derived.Maps.Keyed
import Derived.BigQuiet
import Derived.Deep.QuietTactic
/- A map of places, and the program's put. -/
namespace Go.Proofs.YtkmnfkhchcoamaaGreatDoor
open Go.RowKit
set_option linter.unusedSimpArgs false
set_option linter.unusedVariables false

theorem law_int : Maps.Keyed Tryz.prog 3 := Maps.int_keyed Tryz.underlying3
/-- Block b is a map that holds, for each place below c of which P, the place I. -/
def IMap (w : World) (b c : Nat) (P : Nat → Bool) (I : Nat → Int) : Prop :=
  ∃ (n : Nat) (D : DataW Unit), n ≤ c ∧ w.ownsMap Tryz.prog 3 (plainElem Tryz.prog 3) b n D ∧ ∀ m, m < c → P m = true → ∀ z : DataW Unit, D.atKey (.int .i64 (m : Int)) z = .lit (.int .i64 (I m))
theorem imap_new (w : World) (P : Nat → Bool) (I : Nat → Int) : IMap (w.alloc (.map #[] 0)) w.heap.size 0 P I :=
  ⟨0, .map [], Nat.le_refl _, World.ownsMap_made _ _ _ _, fun m hm => absurd hm (Nat.not_lt_zero _)⟩
theorem IMap.lt {w : World} {b c : Nat} {P : Nat → Bool} {I : Nat → Int} (h : IMap w b c P I) : b < w.heap.size := by
  obtain ⟨_, D, _, h1, -⟩ := h
  exact h1.lt
theorem IMap.below {w w' : World} {b c : Nat} {P : Nat → Bool} {I : Nat → Int} (h : IMap w b c P I) (hb : Below w.heap.size w w') : IMap w' b c P I := by
  have hlt := h.lt
  obtain ⟨n, D, hn, ⟨es, clock, h1, h2⟩, h3⟩ := h
  exact ⟨n, D, hn, ⟨es, clock, (hb.block b hlt).trans h1, h2⟩, h3⟩
theorem key_int {m : Nat} (hm : m ≤ 100000) : keyOf Tryz.prog 3 (.int .i64 (m : Int)) = some (.int .i64 (m : Int)) := Maps.keyOf_int_mk Tryz.underlying3 (wf_int (by omega))
theorem IMap.look {w : World} {b c : Nat} {P : Nat → Bool} {I : Nat → Int} (h : IMap w b c P I) {m : Nat} (hm : m < c) (hp : P m = true) (hc : c ≤ 100000) : (Instr.lookup 108 (.map (some b)) (.int .i64 (m : Int)) false).run Tryz.prog w = .ok (.int .i64 (I m)) w := by
  obtain ⟨n, D, hn, h1, h2⟩ := h
  obtain ⟨x, hrun, hat, -⟩ := h1.lookup_int law_int Tryz.underlying108 Tryz.underlying3 (zero_i64 w) (key_int (m := m) (by omega))
  rw [h2 m hm hp] at hat
  simp only [DataW.lit.injEq, Lit.int.injEq, true_and] at hat
  rw [hrun, ← hat]
theorem IMap.store {w : World} {b c : Nat} {P : Nat → Bool} {I : Nat → Int} (h : IMap w b c P I) (hc : c ≤ 100000) {v : Int} (hv : -9223372036854775808 ≤ v ∧ v ≤ 9223372036854775807) :
    ∃ w', (Instr.mapUpdate 108 (.map (some b)) (.int .i64 (c : Int)) (.int .i64 v)).run Tryz.prog w = .ok () w' ∧ IMap w' b (c + 1) P (updI I c v) ∧ w.grownBy w' (some b) := by
  obtain ⟨n, D, hn, h1, h2⟩ := h
  obtain ⟨w', hrun, h3, h4⟩ := h1.update law_int Tryz.underlying108 (by unfold maxLen; omega) (key_int hc) (plainElem_int (H := Unit) Tryz.underlying3 (a := v) (wf_int hv))
  refine ⟨w', hrun, ⟨n + 1, _, by omega, h3, fun m hm hp z => ?_⟩, h4⟩
  have hisk := law_int.key (key_int (m := c) hc)
  by_cases e : m = c
  · subst e
    rw [Maps.atKey_put_same h1.isMap hisk _ z, updI_at]
  · rw [Maps.atKey_put_other (by intro g; injection g with _ g; omega), updI_ne e]
    exact h2 m (by omega) hp z
theorem IMap.skip {w : World} {b c : Nat} {P : Nat → Bool} {I : Nat → Int} (h : IMap w b c P I) (hp : P c = false) (v : Int) : IMap w b (c + 1) P (updI I c v) := by
  obtain ⟨n, D, hn, h1, h2⟩ := h
  refine ⟨n, D, by omega, h1, fun m hm hpm z => ?_⟩
  have : m ≠ c := fun e => by rw [e, hp] at hpm; cases hpm
  rw [updI_ne this]
  exact h2 m (by omega) hpm z
/-- The kids with others instead, up to q. -/
def kidG (ks : List Int) (I : Nat → Int) (q : Nat) : Nat → Int := fun j => if j < q then I (ks.getD j 0).toNat else 0
theorem kidG_zero (ks : List Int) (I : Nat → Int) : kidG ks I 0 = fun _ => 0 := by funext j; simp [kidG]
theorem kidG_step {L : Nat} {ks : List Int} {I : Nat → Int} {q : Nat} {v : Int} (hv : I (ks.getD q 0).toNat = v) : (rowZ L (kidG ks I q)).setIfInBounds q (.int .i64 v) = rowZ L (kidG ks I (q + 1)) := by
  rw [rowZ_set]
  congr 1
  funext j
  unfold kidG
  by_cases h : j = q
  · subst h; rw [if_pos rfl, if_pos (by omega), hv]
  · rw [if_neg h]
    by_cases h2 : j < q
    · rw [if_pos h2, if_pos (by omega)]
    · rw [if_neg h2, if_neg (by omega)]
theorem kidG_row {w : World} {b m : Nat} {ks : List Int} {I : Nat → Int} (hm : ks.length = m) (h : BlockAt w b (rowZ m (kidG ks I m)) 3) : IRow w (some ⟨b, 0, none⟩) (ks.map fun k => I k.toNat) := by
  refine .inr ⟨b, 0, rfl, h.lt, fun i hi => ?_⟩
  rw [List.length_map] at hi
  rw [Nat.zero_add, h.cell i, rowZ_get (by omega), getD_of (by rw [List.length_map]; exact hi), List.getElem_map]
  unfold kidG
  rw [if_pos (by omega), getD_of hi]
theorem right_small {l : List Ty} (h : rightT l = true) {j : Nat} (hj : j < l.length) : TySm l[j] := by
  by_cases h22 : j < 22
  · rw [right_low h hj h22]
    intro s hs
    unfold bas at hs
    split at hs <;> cases hs
  · exact made_small (right_high h hj h22).1
theorem swap_ok {t : Ty} {I : Nat → Int} (h : TyOk t) (hk : ∀ k ∈ t.kids, -9223372036854775808 ≤ I k.toNat ∧ I k.toNat ≤ 9223372036854775807) : TyOk (swapT t I) :=
  ⟨h.nl, h.wl, by show (List.map _ _).length ≤ 18; rw [List.length_map]; exact h.kl, h.ws, h.nums, fun k hk2 => by
    obtain ⟨k0, h0, rfl⟩ := List.mem_map.1 hk2
    exact hk k0 h0⟩
theorem lasts_len : ∀ S : List Tm, (lasts S).length ≤ S.length
  | [] => Nat.le_refl _
  | [x] => Nat.le_refl _
  | x :: y :: r => by
    have ih := lasts_len (y :: r)
    unfold lasts
    split
    · rw [List.length_cons]; omega
    · rw [List.length_cons, List.length_cons]; omega
theorem tidy_len {t : Ty} {L : Nat} (hk : ∀ k ∈ t.kids, 0 ≤ k ∧ k < (L : Int)) : (tidyT L t).words.length ≤ t.words.length ∧ (tidyT L t).kids.length ≤ t.words.length := by
  have e : termP L (t.words.zip t.kids) = (lasts ((marksB (t.words.zip t.kids)).mergeSort fun x y => !ltT y x)).map decP := by rw [termP_marks, lasts_terms (marks_kids hk)]
  have h1 : (plainP t ++ termP L (t.words.zip t.kids)).length ≤ t.words.length := by
    rw [List.length_append, e, List.length_map]
    have h2 := lasts_len ((marksB (t.words.zip t.kids)).mergeSort fun x y => !ltT y x)
    rw [List.length_mergeSort] at h2
    have h3 : (plainP t).length + (marksB (t.words.zip t.kids)).length = (t.words.zip t.kids).length := by
      unfold plainP marksB
      rw [List.length_map]
      have : ∀ l : List (ByteArray × Int), (l.filter fun p => !markB p.1).length + (l.filter fun p => markB p.1).length = l.length := fun l => by
        induction l with
        | nil => rfl
        | cons p r ih =>
          rw [List.filter_cons, List.filter_cons]
          cases markB p.1 <;> simp <;> omega
      exact this _
    rw [List.length_zip] at h3
    omega
  unfold tidyT
  exact ⟨by show (List.map _ _).length ≤ _; rw [List.length_map]; exact h1, by show (List.map _ _).length ≤ _; rw [List.length_map]; exact h1⟩
theorem tidy_word {t : Ty} {L : Nat} {s : ByteArray} (h : s ∈ (tidyT L t).words) : s ∈ t.words ∨ s.size = 1 := by
  have h : s ∈ (plainP t ++ termP L (t.words.zip t.kids)).map (·.1) := h
  obtain ⟨p, hp, rfl⟩ := List.mem_map.1 h
  rcases List.mem_append.1 hp with hp | hp
  · exact .inl (List.of_mem_zip (List.mem_filter.1 hp).1).1
  · rw [termP_marks] at hp
    obtain ⟨x, _, rfl⟩ := List.mem_map.1 hp
    right
    show (wordOf x.1).size = 1
    cases x.1 <;> rfl
theorem tidy_kid {t : Ty} {L : Nat} (hk : ∀ k ∈ t.kids, 0 ≤ k ∧ k < (L : Int)) {k : Int} (h : k ∈ (tidyT L t).kids) : 0 ≤ k ∧ k < (L : Int) := by
  have h : k ∈ (plainP t ++ termP L (t.words.zip t.kids)).map (·.2) := h
  obtain ⟨p, hp, rfl⟩ := List.mem_map.1 h
  rcases List.mem_append.1 hp with hp | hp
  · exact hk _ (List.of_mem_zip (List.mem_filter.1 hp).1).2
  · rw [termP_marks] at hp
    obtain ⟨x, hx, rfl⟩ := List.mem_map.1 hp
    exact termQ_kid hx
theorem tidy_ok {t : Ty} {L : Nat} (h : TyOk t) (hL : L ≤ 1000) (hk : ∀ k ∈ t.kids, 0 ≤ k ∧ k < (L : Int)) : TyOk (tidyT L t) := by
  have hl := tidy_len hk
  have hw := h.wl
  refine ⟨h.nl, by omega, by omega, fun s hs => ?_, h.nums, fun k hk2 => ?_⟩
  · rcases tidy_word hs with g | g
    · exact h.ws s g
    · omega
  · have := tidy_kid hk hk2
    omega
theorem tidy_small {t : Ty} {L : Nat} (h : TySm t) : TySm (tidyT L t) := fun s hs => by
  rcases tidy_word hs with g | g
  · exact h s g
  · omega
theorem padd_putn {l : List Ty} {t : Ty} {I : Nat → Int} (hr : rightT l = true) (h7 : ¬ t.kind = 7) : paddT l (swapT t I) = putT l t I := by
  unfold paddT putT
  rw [if_pos hr, if_neg h7]
theorem padd_put7 {l : List Ty} {t : Ty} {I : Nat → Int} (hr : rightT l = true) (h7 : t.kind = 7) (ho : oddT l (swapT t I) = false) : paddT l (tidyT l.length (swapT t I)) = putT l t I := by
  unfold paddT putT
  rw [if_pos hr, if_pos h7, if_neg (by rw [ho]; decide)]
theorem put_odd {l : List Ty} {t : Ty} {I : Nat → Int} (h7 : t.kind = 7) (ho : oddT l (swapT t I) = true) : putT l t I = ([], 0, 11) := by
  unfold putT
  rw [if_pos h7, if_pos ho]
end Go.Proofs.YtkmnfkhchcoamaaGreatDoor
/- The program's put. -/
namespace Go.Proofs.YtkmnfkhchcoamaaGreatDoor
open Go.RowKit
set_option linter.unusedSimpArgs false
set_option linter.unusedVariables false

theorem padd_up {w w1 w' : World} {R : List Ty × Int × Int} {e : Ending} (hb : Below w.heap.size w w1) (h : PAddR w1 R e w') : PAddR w R e w' := by
  obtain ⟨ao, cap, h1, h2, h3, h4⟩ := h
  exact ⟨ao, cap, h1, h2, h3, hb.trans (h4.mono hb.size)⟩
set_option maxHeartbeats 16000000 in
set_option maxRecDepth 100000 in
theorem put_any (l : List Ty) (lo : Option Addr) (lc : Nat) (t : Ty) (wo ko : Option Addr) (wc kc mb c : Nat) (P : Nat → Bool) (I : Nat → Int) (w : World) (hl : ARow w lo l) (hr : rightT l = true) (hac : l.length ≤ lc) (hE : Env w) (ht : TyC w wo ko t) (hsm : TySm t) (hwc : t.words.length ≤ wc)
    (hlen : t.kind = 7 → t.words.length = t.kids.length) (hm : IMap w mb c P I) (hc : c ≤ 400) (hk : ∀ k ∈ t.kids, 0 ≤ k ∧ k < (c : Int) ∧ P k.toNat = true ∧ 0 ≤ I k.toNat ∧ I k.toNat < (l.length : Int)) :
    Calls Tryz.prog 86 #[.slice lo l.length lc, tyV t wo wc ko kc, .map (some mb)] w (PAddR w (putT l t I)) := by
  have hll := (right_step hr).1
  obtain ⟨R, hR⟩ : ∃ R, putT l t I = R := ⟨_, rfl⟩
  rw [hR]
  have HR := Lib.hid hR
  unfold tyV
  have hml := ht.ok.kl
  obtain ⟨m, hmm⟩ : ∃ m, t.kids.length = m := ⟨_, rfl⟩
  have HM := Lib.hid hmm
  rw [hmm] at hml ⊢
  have HT := Lib.hid ht
  have HA := Lib.hid hl
  have HK := Lib.hid hk
  have HMP := Lib.hid hm
  have HRT := Lib.hid hr
  have HE := Lib.hid hE
  have HSM := Lib.hid hsm
  have HLEN := Lib.hid hlen
  have HCAP := Lib.hid (And.intro hac hwc)
  obtain ⟨nw, hnw⟩ : ∃ n, t.words.length = n := ⟨_, rfl⟩
  have HNW := Lib.hid hnw
  rw [hnw]
  obtain ⟨n, hn⟩ : ∃ n, l.length = n := ⟨_, rfl⟩
  have HN := Lib.hid hn
  rw [hn] at hll hac ⊢
  obtain ⟨w1, h1⟩ : ∃ w1, w.alloc (.cells #[.int .i64 t.kind, .string t.name, .int .i64 t.n, .slice wo nw wc, .slice ko m kc] 38) = w1 := ⟨_, rfl⟩
  obtain ⟨k1, q1, z1⟩ := box_new h1
  have hmk := make_intsZ m (by omega) w1
  obtain ⟨w2, h2⟩ : ∃ w2, w1.alloc (.cells (rowZ m fun _ => 0) 3) = w2 := ⟨_, rfl⟩
  obtain ⟨k2, q2, z2⟩ := box_new h2
  rw [h2] at hmk
  obtain ⟨nb, hnb⟩ : ∃ nb, w1.heap.size = nb := ⟨_, rfl⟩
  rw [hnb] at hmk k2
  have K1 := Lib.hid (k1.below q2)
  have K2 := Lib.hid (show BlockAt w2 nb (rowZ m (kidG t.kids I 0)) 3 from by rw [kidG_zero]; exact k2)
  have BW := Lib.hid (q1.trans (q2.mono q1.size))
  have HNB := Lib.hid (show w.heap.size ≤ nb ∧ w.heap.size ≠ nb by omega)
  obtain ⟨c0, c1, c2, c3, c4⟩ := cell5 k1
  obtain ⟨d0, d1, d2, d3, d4⟩ := cell5 (k1.below q2)
  clear hl hr hE ht hsm hlen hm hk hmm hwc hnw hn h2 k1 k2 q1 q2 z1 z2 hR
  go_enter Tryz.func86, Tryz.ntmps86
  go_wp2_with fail
  clear hmk h1 c0 c1 c2 c3 c4 d0 d1 d2 d3 d4
  go_loopw [20] (fun v wr => ∃ q : Nat, q ≤ m ∧ v = .int .i64 q ∧ Hid (BlockAt wr nb (rowZ m (kidG t.kids I q)) 3) ∧ Hid (BlockAt wr w.heap.size #[.int .i64 t.kind, .string t.name, .int .i64 t.n, .slice wo nw wc, .slice ko m kc] 38) ∧ Hid (Below w.heap.size w wr)) (fun v _ => m - (intOf v).toNat)
  case atStart => exact ⟨0, Nat.zero_le _, rfl, K2, K1, BW⟩
  case round =>
    obtain ⟨q, hq, rfl, KR, KT, HB⟩ := hrel
    by_cases hql : q < m
    · have hqk : q < t.kids.length := by rw [HM.out]; exact hql
      obtain ⟨kb, kof, rfl, hkb, hkcell⟩ := HT.out.kids.cells (by omega)
      have ck := (HB.out.cell (p := ⟨kb, kof + q, none⟩) hkb).trans (hkcell q hqk)
      obtain ⟨g1, g2, g3, g4, g5⟩ := HK.out _ (getD_mem hqk)
      obtain ⟨z, hz⟩ : ∃ z : Nat, t.kids.getD q 0 = (z : Int) := ⟨(t.kids.getD q 0).toNat, by omega⟩
      rw [hz] at ck g2 g3
      rw [Int.toNat_natCast] at g3
      obtain ⟨v, hv⟩ : ∃ v, I z = v := ⟨_, rfl⟩
      have hlk := (HMP.out.below HB.out).look (m := z) (by omega) g3 (by omega)
      rw [hv] at hlk
      have cq := KR.out.cell q
      rw [rowZ_get hql] at cq
      have fq := KR.out.free q
      have KN := Lib.hid (show BlockAt (wr.setCell ⟨nb, q, none⟩ (.int .i64 v)) nb (rowZ m (kidG t.kids I (q + 1))) 3 from by
        rw [← kidG_step (v := v) (by rw [hz, Int.toNat_natCast]; exact hv)]
        exact KR.out.set q _)
      have KTN := Lib.hid (KT.out.other HNB.out.2 q (.int .i64 v))
      have BN := Lib.hid (set_below (v := .int .i64 v) (k := q) HB.out HNB.out.1)
      clear hz hv g1 g3 g4 g5 hkcell hkb
      go_wp2_with fail
      go_roundw
      case rel => exact ⟨q + 1, by omega, by go_num, KN, KTN, BN⟩
      case measure => first | (simp [intOf]; done) | (simp [intOf]; omega)
    · obtain rfl : q = m := by omega
      have HKR := Lib.hid (kidG_row (I := I) HM.out KR.out)
      have M := KT.out
      obtain ⟨e0, e1, e2, e3, e4⟩ := cell5 M
      have f4 := M.free 4
      obtain ⟨w5, h5⟩ : ∃ w5, wr.setCell ⟨w.heap.size, 4, none⟩ (.slice (some ⟨nb, 0, none⟩) q q) = w5 := ⟨_, rfl⟩
      have K5 := Lib.hid (show BlockAt w5 w.heap.size #[.int .i64 t.kind, .string t.name, .int .i64 t.n, .slice wo nw wc, .slice (some ⟨nb, 0, none⟩) q q] 38 from by rw [← h5]; exact M.set 4 _)
      have B5 := Lib.hid (show Below w.heap.size w w5 from by rw [← h5]; exact set_below HB.out (Nat.le_refl _))
      have HKR5 := Lib.hid (show IRow w5 (some ⟨nb, 0, none⟩) (t.kids.map fun k => I k.toNat) from by rw [← h5]; exact row_setint HKR.out (fun a ha => by injection ha with ha; rw [← ha]; exact fun e => HNB.out.2 e.symm))
      have hsk : ∀ k ∈ t.kids, -9223372036854775808 ≤ I k.toNat ∧ I k.toNat ≤ 9223372036854775807 := fun k hk => by
        obtain ⟨-, -, -, g4, g5⟩ := HK.out k hk
        rw [HN.out] at g5
        omega
      have HTY := Lib.hid (show TyC w5 wo (some ⟨nb, 0, none⟩) (swapT t I) from ⟨HT.out.words.below B5.out, HKR5.out, swap_ok HT.out.ok hsk⟩)
      have HSL := Lib.hid (show (swapT t I).kids.length = q from by show (List.map _ _).length = q; rw [List.length_map]; exact HM.out)
      have HSK := Lib.hid (show ∀ k ∈ (swapT t I).kids, 0 ≤ k ∧ k < (l.length : Int) from fun k hk => by
        obtain ⟨k0, h0, rfl⟩ := List.mem_map.1 hk
        exact ⟨(HK.out k0 h0).2.2.2.1, (HK.out k0 h0).2.2.2.2⟩)
      obtain ⟨x0, x1, x2, x3, x4⟩ := cell5 K5.out
      clear M hsk
      by_cases h7 : t.kind = 7
      · have hq7 : (t.kind == 7) = true := by rw [beq_iff_eq]; exact h7
        have HTD0 := tidy_any l lo lc (swapT t I) wo (some ⟨nb, 0, none⟩) wc q w5 (HA.out.below B5.out) HTY.out (by rw [HSL.out]; exact (HLEN.out h7).trans HM.out) HSK.out (by rw [HN.out]; omega)
        have HPUT := Lib.hid (And.intro (fun ho => put_odd (l := l) (t := t) (I := I) h7 ho) (fun ho => padd_put7 (I := I) HRT.out h7 ho))
        have HOK := Lib.hid (tidy_ok (L := l.length) HTY.out.ok (by rw [HN.out]; omega) HSK.out)
        have HSMT := Lib.hid (show TySm (tidyT l.length (swapT t I)) from tidy_small HSM.out)
        obtain ⟨od, hod⟩ : ∃ od, oddT l (swapT t I) = od := ⟨_, rfl⟩
        obtain ⟨tt, htt⟩ : ∃ tt, tidyT l.length (swapT t I) = tt := ⟨_, rfl⟩
        rw [hod, htt] at HTD0
        rw [hod, htt] at HPUT
        rw [htt] at HOK HSMT
        have HTK := Lib.hid (show tt.kind = t.kind ∧ tt.name = t.name ∧ tt.n = t.n from by rw [← htt]; exact ⟨rfl, rfl, rfl⟩)
        unfold tyV at HTD0
        rw [HSL.out, HN.out] at HTD0
        have hwl : (swapT t I).words.length = nw := HNW.out
        rw [hwl] at HTD0
        have HTD : Calls Tryz.prog 102 #[.slice lo n lc, .agg #[.int .i64 t.kind, .string t.name, .int .i64 t.n, .slice wo nw wc, .slice (some ⟨nb, 0, none⟩) q q]] w5 (TidyR w5 (swapT t I) od tt) := HTD0
        have HTDH := Lib.hid HTD
        have HAO := Lib.hid (fun W (hb : Below w.heap.size w W) (ao bo : Option Addr) (ac bc : Nat) (hx : TyC W ao bo tt) (g1 : tt.words.length ≤ ac) (g2 : tt.kids.length ≤ bc) => padd_any l lo lc tt ao bo ac bc W (HA.out.below hb) (by rw [HN.out]; omega) HCAP.out.1 (HE.out.below hb) hx HSMT.out g1 g2)
        clear HTD HTD0 hod htt hwl h7
        go_wp2_with fail
        refine HTDH.out.mono ?_
        intro e w6 hres
        unfold TidyR at hres
        rcases hres with ⟨ho, co, dO, cl, cc, dl, dc, rfl, b6⟩ | ⟨ho, ao, bo, ac, bc, rfl, g1, g2, r1, r2, n1, n2, b6⟩
        · have HO := Lib.hid (HPUT.out.1 ho)
          have B6 := Lib.hid (B5.out.trans (b6.mono B5.out.size))
          have M6 := K5.out.below b6
          obtain ⟨y0, y1, y2, y3, y4⟩ := cell5 M6
          have f0 := M6.free 0
          have f1 := M6.free 1
          have f2 := M6.free 2
          have f3 := M6.free 3
          have f4' := M6.free 4
          clear M6 ho b6 x0 x1 x2 x3 x4 e0 e1 e2 e3 e4 f4 h5
          go_wp2_with fail
          go_ret3
          rw [← HR.out, HO.out]
          exact padd_none rfl (below_set5 B6.out (Nat.le_refl _) _ _ _ _ _)
        · have HO := Lib.hid ((HPUT.out.2 ho).trans HR.out)
          have B6 := Lib.hid (B5.out.trans (b6.mono B5.out.size))
          have M6 := K5.out.below b6
          obtain ⟨y0, y1, y2, y3, y4⟩ := cell5 M6
          have f0 := M6.free 0
          have f1 := M6.free 1
          have f2 := M6.free 2
          have f3 := M6.free 3
          have f4' := M6.free 4
          have HG := Lib.hid (And.intro g1 (And.intro g2 (And.intro r1 r2)))
          have HB6 := Lib.hid b6
          obtain ⟨lW, hlW⟩ : ∃ x, tt.words.length = x := ⟨_, rfl⟩
          obtain ⟨lK, hlK⟩ : ∃ x, tt.kids.length = x := ⟨_, rfl⟩
          unfold tyV
          rw [HTK.out.1, HTK.out.2.1, HTK.out.2.2, hlW, hlK]
          have HLW := Lib.hid (And.intro hlW hlK)
          obtain ⟨w7, h7⟩ : ∃ w7, (((((w6.setCell ⟨w.heap.size, 0, none⟩ (.int .i64 t.kind)).setCell ⟨w.heap.size, 1, none⟩ (.string t.name)).setCell ⟨w.heap.size, 2, none⟩ (.int .i64 t.n)).setCell ⟨w.heap.size, 3, none⟩ (.slice ao lW ac)).setCell ⟨w.heap.size, 4, none⟩ (.slice bo lK bc)) = w7 := ⟨_, rfl⟩
          have K7 := Lib.hid (show BlockAt w7 w.heap.size #[.int .i64 t.kind, .string t.name, .int .i64 t.n, .slice ao lW ac, .slice bo lK bc] 38 from by rw [← h7]; exact ((((M6.set 0 _).set 1 _).set 2 _).set 3 _).set 4 _)
          have B7 := Lib.hid (show Below w.heap.size w w7 from by rw [← h7]; exact below_set5 B6.out (Nat.le_refl _) _ _ _ _ _)
          have H7 := Lib.hid h7
          have HWS := Lib.hid (show w.heap.size < w5.heap.size from K5.out.lt)
          have nA : ∀ a, ao = some a → a.block ≠ w.heap.size := fun a ha => by have := n1 a ha; have := HWS.out; omega
          have nB : ∀ a, bo = some a → a.block ≠ w.heap.size := fun a ha => by have := n2 a ha; have := HWS.out; omega
          have HT7 := Lib.hid (show TyC w7 ao bo tt from ⟨by rw [← h7]; exact row_setstr (row_setstr (row_setstr (row_setstr (row_setstr r1 nA) nA) nA) nA) nA, by rw [← h7]; exact row_setint (row_setint (row_setint (row_setint (row_setint r2 nB) nB) nB) nB) nB, HOK.out⟩)
          have HAD0 := HAO.out w7 B7.out ao bo ac bc HT7.out g1 g2
          rw [HO.out, HN.out] at HAD0
          unfold tyV at HAD0
          rw [HTK.out.1, HTK.out.2.1, HTK.out.2.2, hlW, hlK] at HAD0
          have HAD := Lib.hid HAD0
          clear M6 ho b6 g1 g2 r1 r2 n1 n2 nA nB x0 x1 x2 x3 x4 e0 e1 e2 e3 e4 f4 h5 hlW hlK h7 HAD0
          go_wp2_with fail
          rw [H7.out]
          refine HAD.out.mono ?_
          rintro e w8 ⟨ao8, cap8, rfl, p1, p2, p3⟩
          have HP := Lib.hid (show PAddR w R _ w8 from padd_up B7.out ⟨ao8, cap8, rfl, p1, p2, p3⟩)
          clear p1 p2 p3
          go_wp2_with fail
          go_ret3
          exact HP.out
      · have hq7 : (t.kind == 7) = false := by rw [beq_eq_false_iff_ne]; exact h7
        have HAO0 := padd_any l lo lc (swapT t I) wo (some ⟨nb, 0, none⟩) wc q w5 (HA.out.below B5.out) (by rw [HN.out]; omega) HCAP.out.1 (HE.out.below B5.out) HTY.out HSM.out HCAP.out.2 (by rw [HSL.out]; exact Nat.le_refl _)
        rw [padd_putn HRT.out h7, HR.out] at HAO0
        unfold tyV at HAO0
        rw [HSL.out, HN.out] at HAO0
        have hwl : (swapT t I).words.length = nw := HNW.out
        rw [hwl] at HAO0
        have HAO1 : Calls Tryz.prog 34 #[.slice lo n lc, .agg #[.int .i64 t.kind, .string t.name, .int .i64 t.n, .slice wo nw wc, .slice (some ⟨nb, 0, none⟩) q q]] w5 (PAddR w5 R) := HAO0
        have HAO := Lib.hid HAO1
        clear HAO0 HAO1 hwl h7
        go_wp2_with fail
        refine HAO.out.mono ?_
        rintro e w6 ⟨ao, cap, rfl, p1, p2, p3⟩
        have HP := Lib.hid (show PAddR w R _ w6 from padd_up B5.out ⟨ao, cap, rfl, p1, p2, p3⟩)
        clear p1 p2 p3 e0 e1 e2 e3 e4 f4 x0 x1 x2 x3 x4 h5
        go_wp2_with fail
        go_ret3
        exact HP.out
end Go.Proofs.YtkmnfkhchcoamaaGreatDoor
/- What holds while a type is put in, part by part. -/
namespace Go.Proofs.YtkmnfkhchcoamaaGreatDoor
open Go.RowKit
set_option linter.unusedSimpArgs false
set_option linter.unusedVariables false

/-- What Add gives, if it gives no error. -/
theorem add_good {l : List Ty} {t : Ty} (hr : rightT l = true) (he : (addT l t).2.2 = 0) :
    ∃ (M : List Ty) (p : Nat) (hp : p < M.length), addT l t = (M, (p : Int), 0) ∧ M[p] = t ∧ rightT M = true ∧ M.take l.length = l ∧ l.length ≤ M.length ∧ M.length ≤ l.length + 1 := by
  have hl := (right_step hr).1
  by_cases h0 : 0 ≤ atT l t
  · have hm : t ∈ l := Classical.byContradiction fun g => by have := atT_neg.2 g; omega
    obtain ⟨j, hj, rfl⟩ := List.getElem_of_mem hm
    refine ⟨l, j, hj, ?_, rfl, hr, List.take_length, Nat.le_refl _, by omega⟩
    unfold addT
    rw [if_pos h0, at_of hr hj rfl]
  · unfold addT at he ⊢
    rw [if_neg h0] at he ⊢
    cases hm : madeB l t
    · rw [hm, if_pos rfl] at he
      have he : (1 : Int) = 0 := he
      omega
    · rw [hm] at he
      rw [if_neg (by decide)] at he ⊢
      by_cases h4 : l.length = 400
      · rw [if_pos h4] at he
        have he : (7 : Int) = 0 := he
        omega
      · rw [if_neg h4]
        have hlen : (l ++ [t]).length = l.length + 1 := by simp
        refine ⟨l ++ [t], l.length, by omega, rfl, by simp, rightT_yes (by omega) (fun k hk => ?_), by simp, by omega, by omega⟩
        by_cases hkl : k < l.length
        · have := (right_step hr).2 k hkl
          rw [List.getElem_append_left hkl]
          unfold stepB at this ⊢
          by_cases h22 : k < 22
          · rw [if_pos h22] at this ⊢; exact this
          · rw [if_neg h22] at this ⊢
            rw [List.take_append_of_le_length (by omega)]
            exact this
        · obtain rfl : k = l.length := by omega
          unfold stepB
          rw [if_neg (by omega), List.take_left' rfl]
          have hnm : t ∉ l := atT_neg.1 (by omega)
          simp [hm, hnm]
theorem add_bad {l : List Ty} {t : Ty} (he : (addT l t).2.2 ≠ 0) : (addT l t).1 = [] := by
  unfold addT at he ⊢
  split
  · rename_i h; rw [if_pos h] at he; exact absurd rfl he
  · rename_i h
    rw [if_neg h] at he
    split
    · rfl
    · rename_i h2
      rw [if_neg h2] at he
      split
      · rfl
      · rename_i h3; rw [if_neg h3] at he; exact absurd rfl he
theorem padd_again {M : List Ty} {p : Nat} (hr : rightT M = true) (hp : p < M.length) {t : Ty} (e : M[p] = t) : paddT M t = (M, (p : Int), 0) := by
  rw [padd_there hr (by rw [at_of hr hp e]; omega), at_of hr hp e]
/-- What is put in instead of a type. -/
def newT (l : List Ty) (t : Ty) (I : Nat → Int) : Ty := if t.kind = 7 then tidyT l.length (swapT t I) else swapT t I
theorem put_add {l : List Ty} {t : Ty} {I : Nat → Int} (h : ¬ (t.kind = 7 ∧ oddT l (swapT t I) = true)) : putT l t I = addT l (newT l t I) := by
  unfold putT newT
  by_cases h7 : t.kind = 7
  · rw [if_pos h7, if_pos h7, if_neg (fun g => h ⟨h7, g⟩)]
  · rw [if_neg h7, if_neg h7]
theorem put_err {l : List Ty} {t : Ty} {I : Nat → Int} (h : t.kind = 7 ∧ oddT l (swapT t I) = true) : putT l t I = ([], 0, 11) := put_odd h.1 h.2
theorem put_good {l : List Ty} {t : Ty} {I : Nat → Int} (hr : rightT l = true) (he : (putT l t I).2.2 = 0) :
    ¬ (t.kind = 7 ∧ oddT l (swapT t I) = true) ∧ ∃ (M : List Ty) (p : Nat) (hp : p < M.length), putT l t I = (M, (p : Int), 0) ∧ M[p] = newT l t I ∧ rightT M = true ∧ M.take l.length = l ∧ l.length ≤ M.length ∧ M.length ≤ l.length + 1 := by
  have hn : ¬ (t.kind = 7 ∧ oddT l (swapT t I) = true) := fun g => by
    rw [put_err g] at he
    have he : (11 : Int) = 0 := he
    omega
  rw [put_add hn] at he ⊢
  exact ⟨hn, add_good hr he⟩
theorem need_mono {f : Nat → Ty} {i : Nat} : ∀ {e d m : Nat}, d ≤ e → needD f i d m = true → needD f i e m = true
  | 0, d, m, h1, h => by
    have : d = 0 := by omega
    rwa [this] at h
  | e + 1, d, m, h1, h => by
    rcases Nat.lt_or_eq_of_le h1 with g | g
    · have := need_mono (e := e) (by omega) h
      show kmark (needD f i e) (i - e) (f (i - e)).kids m = true
      unfold kmark
      rw [this]
      rfl
    · rwa [g] at h
section
variable {f : Nat → Ty} {i : Nat} (hk : ∀ j, j ≤ i → ∀ k ∈ (f j).kids, 0 ≤ k ∧ k < (j : Int))
include hk
theorem need_final : ∀ {e d m : Nat}, d ≤ e → e ≤ i + 1 → i ≤ d + m → needD f i e m = needD f i d m
  | 0, d, m, h1, _, _ => by
    have : d = 0 := by omega
    rw [this]
  | e + 1, d, m, h1, h2, h3 => by
    rcases Nat.lt_or_eq_of_le h1 with h | h
    · rw [← need_final (e := e) (d := d) (by omega) (by omega) h3]
      show kmark (needD f i e) (i - e) (f (i - e)).kids m = needD f i e m
      unfold kmark
      have : ¬ ((m : Int) ∈ (f (i - e)).kids) := fun g => by
        have := hk (i - e) (by omega) _ g
        omega
      simp [this]
    · rw [h]
theorem need_kid {c : Nat} (hc : c ≤ i) (h : needD f i (i + 1) c = true) {k : Int} (hkc : k ∈ (f c).kids) : needD f i (i + 1) k.toNat = true := by
  have g := hk c hc k hkc
  rw [need_final hk (e := i + 1) (d := i - c) (by omega) (by omega) (by omega)] at h
  refine need_mono (d := i - c + 1) (by omega) ?_
  show kmark (needD f i (i - c)) (i - (i - c)) (f (i - (i - c))).kids k.toNat = true
  rw [show i - (i - c) = c by omega]
  unfold kmark
  rw [h, show ((k.toNat : Nat) : Int) = k by omega]
  simp [hkc]
theorem need_le : ∀ {d m : Nat}, needD f i d m = true → m ≤ i
  | 0, m, h => by
    have : m = i := of_decide_eq_true h
    omega
  | d + 1, m, h => by
    have h : kmark (needD f i d) (i - d) (f (i - d)).kids m = true := h
    unfold kmark at h
    rw [Bool.or_eq_true] at h
    rcases h with h | h
    · exact need_le h
    · rw [Bool.and_eq_true] at h
      have := hk (i - d) (by omega) _ (of_decide_eq_true h.2)
      omega
theorem need_ask : ∀ {d m : Nat}, needD f i d m = true → askD f (i + 1) m ≤ askD f (i + 1) i
  | 0, m, h => by
    have : m = i := of_decide_eq_true h
    rw [this]
    exact Int.le_refl _
  | d + 1, m, h => by
    have h : kmark (needD f i d) (i - d) (f (i - d)).kids m = true := h
    unfold kmark at h
    rw [Bool.or_eq_true] at h
    rcases h with h | h
    · exact need_ask h
    · rw [Bool.and_eq_true] at h
      have hm := of_decide_eq_true h.2
      have g := hk (i - d) (by omega) _ hm
      refine Int.le_trans ?_ (need_ask h.1)
      have e := askD_stay (f := f) (m := m) (c := i - d) (d := i + 1) (by omega) (by omega)
      rw [askD_self (show i - d < i + 1 by omega), e]
      have := askF_kid (A := askD f (i - d)) (n := ask0 (f (i - d))) hm
      rw [Int.toNat_natCast] at this
      exact this
end
theorem fun_kids {l : List Ty} (hr : rightT l = true) {i : Nat} (hi : i < l.length) : ∀ j, j ≤ i → ∀ k ∈ (funT l j).kids, 0 ≤ k ∧ k < (j : Int) := fun j hj k hk => by
  unfold funT at hk
  rw [getD_of (show j < l.length by omega)] at hk
  exact right_kids hr (by omega) k hk
/-- What holds. -/
structure Inv (l : List Ty) (i c : Nat) (s : SS) : Prop where
  right : rightT s.now = true
  pre : s.now.take l.length = l
  len : l.length ≤ s.now.length
  ins : ∀ m, m < c → needD (funT l) i (i + 1) m = true → 0 ≤ s.ins m ∧ s.ins m < (s.now.length : Int)
theorem inv_zero {l : List Ty} (hr : rightT l = true) (i : Nat) (args : List Int) : Inv l i 0 (runT l i args 0) :=
  ⟨hr, List.take_length, Nat.le_refl _, fun m hm => absurd hm (Nat.not_lt_zero _)⟩
theorem in_arena {l : List Ty} {args : List Int} (h : inArena l args = true) {k : Nat} (hk : k < args.length) : 0 ≤ args.getD k 0 ∧ args.getD k 0 < (l.length : Int) := by
  unfold inArena at h
  rw [List.all_eq_true] at h
  exact of_decide_eq_true (h _ (getD_mem hk))
theorem param_in {l : List Ty} (hr : rightT l = true) {i c : Nat} (hi : i < l.length) (hc : c ≤ i) (hn : needD (funT l) i (i + 1) c = true) (h9 : (funT l c).kind = 9) {args : List Int} (ha : ¬ (args.length : Int) < askD (funT l) (i + 1) i) : 0 ≤ (funT l c).n ∧ (funT l c).n < (args.length : Int) := by
  have g := right_param hr c h9
  have h1 := need_ask (fun_kids hr hi) hn
  rw [askD_self (show c < i + 1 by omega)] at h1
  have h2 := askF_ge (A := askD (funT l) c) (n := ask0 (funT l c)) (ks := (funT l c).kids)
  have h3 : ask0 (funT l c) = (funT l c).n + 1 := by unfold ask0; rw [if_pos h9]
  omega
theorem inv_step {l : List Ty} (hr : rightT l = true) {i : Nat} (hi : i < l.length) {args : List Int} (hin : inArena l args = true) (ha : ¬ (args.length : Int) < askD (funT l) (i + 1) i) {c : Nat} (hc : c ≤ i) {s : SS} (h0 : s.err = 0) (h : Inv l i c s)
    (he : (stepS (funT l) (needD (funT l) i (i + 1)) (askD (funT l) (i + 1)) args c s).err = 0) : Inv l i (c + 1) (stepS (funT l) (needD (funT l) i (i + 1)) (askD (funT l) (i + 1)) args c s) := by
  have keep : ∀ (v : Int), (needD (funT l) i (i + 1) c = true → 0 ≤ v ∧ v < (s.now.length : Int)) → Inv l i (c + 1) ⟨updI s.ins c v, s.now, 0⟩ := fun v hv =>
    ⟨h.right, h.pre, h.len, fun m hm hn => by
      show 0 ≤ updI s.ins c v m ∧ updI s.ins c v m < (s.now.length : Int)
      by_cases e : m = c
      · subst e; rw [updI_at]; exact hv hn
      · rw [updI_ne e]; exact h.ins m (by omega) hn⟩
  have hlen := h.len
  by_cases hs : needD (funT l) i (i + 1) c = false ∨ askD (funT l) (i + 1) c = 0
  · rw [stepS_skip h0 hs]
    exact keep _ (fun _ => by omega)
  · have hn : needD (funT l) i (i + 1) c = true := by
      cases hh : needD (funT l) i (i + 1) c
      · exact absurd (.inl hh) hs
      · rfl
    have hA : ¬ askD (funT l) (i + 1) c = 0 := fun g => hs (.inr g)
    by_cases h9 : (funT l c).kind = 9
    · rw [stepS_param h0 hn hA h9]
      obtain ⟨g1, g2⟩ := param_in hr hi hc hn h9 ha
      have := in_arena hin (k := (funT l c).n.toNat) (by omega)
      exact keep _ (fun _ => by omega)
    · by_cases hp : (putT s.now (funT l c) s.ins).2.2 = 0
      · obtain ⟨-, M, p, hpM, e, -, hR, hT, hL, -⟩ := put_good h.right hp
        rw [stepS_put h0 hn hA h9 e]
        refine ⟨hR, ?_, Nat.le_trans h.len hL, fun m hm hnm => ?_⟩
        · show M.take l.length = l
          have e1 : M.take l.length = (M.take s.now.length).take l.length := by rw [List.take_take, Nat.min_eq_left h.len]
          rw [e1, hT, h.pre]
        · show 0 ≤ updI s.ins c p m ∧ updI s.ins c p m < (M.length : Int)
          by_cases em : m = c
          · rw [em, updI_at]; omega
          · rw [updI_ne em]
            have := h.ins m (by omega) hnm
            omega
      · exfalso
        obtain ⟨M, p, e'⟩ : ∃ M p, putT s.now (funT l c) s.ins = (M, p, (putT s.now (funT l c) s.ins).2.2) := ⟨_, _, rfl⟩
        rw [stepS_fail h0 hn hA h9 e' hp] at he
        exact hp he
theorem inv_run {l : List Ty} (hr : rightT l = true) {i : Nat} (hi : i < l.length) {args : List Int} (hin : inArena l args = true) (ha : ¬ (args.length : Int) < askD (funT l) (i + 1) i) : ∀ c, c ≤ i + 1 → (runT l i args c).err = 0 → Inv l i c (runT l i args c)
  | 0, _, _ => inv_zero hr i args
  | c + 1, hc, he => by
    have h0 : (runT l i args c).err = 0 := Classical.byContradiction fun g => by
      have := runS_bad (f := funT l) (nd := needD (funT l) i (i + 1)) (A := askD (funT l) (i + 1)) (args := args) (l := l) (c := c) (d := c + 1) rfl g (by omega)
      rw [show (runT l i args (c + 1)).err = _ from this] at he
      exact g he
    exact inv_step hr hi hin ha (by omega) h0 (inv_run hr hi hin ha c (by omega) h0) he
end Go.Proofs.YtkmnfkhchcoamaaGreatDoor
/- The program's Subst. -/
namespace Go.Proofs.YtkmnfkhchcoamaaGreatDoor
open Go.RowKit
set_option linter.unusedSimpArgs false
set_option linter.unusedVariables false

theorem IMap.none {w : World} {b c : Nat} {P : Nat → Bool} {I : Nat → Int} (h : IMap w b c P I) {a : Addr} {v : Value} (hc : w.cell? a = some v) : a.block ≠ b := fun e => by
  obtain ⟨n, D, hn, ⟨es, clock, h1, h2⟩, h3⟩ := h
  unfold World.cell? at hc
  rw [e, h1] at hc
  cases hc
section
variable {w w' : World} {mb : Nat}
theorem srow_map {ao : Option Addr} {ss : List ByteArray} (hm : ∀ a v, w.cell? a = some v → a.block ≠ mb) (hg : w.grownBy w' (some mb)) (h : SRow w ao ss) : SRow w' ao ss := by
  rcases h with h | ⟨b, off, h1, h2, h3⟩
  · exact .inl h
  · exact .inr ⟨b, off, h1, Nat.lt_of_lt_of_le h2 hg.size, fun i hi => hg.cell (h3 i hi) (fun e => hm _ _ (h3 i hi) (by injection e))⟩
theorem irow_map {ao : Option Addr} {zs : List Int} (hm : ∀ a v, w.cell? a = some v → a.block ≠ mb) (hg : w.grownBy w' (some mb)) (h : IRow w ao zs) : IRow w' ao zs := by
  rcases h with h | ⟨b, off, h1, h2, h3⟩
  · exact .inl h
  · exact .inr ⟨b, off, h1, Nat.lt_of_lt_of_le h2 hg.size, fun i hi => hg.cell (h3 i hi) (fun e => hm _ _ (h3 i hi) (by injection e))⟩
theorem arow_map {ao : Option Addr} {l : List Ty} (hm : ∀ a v, w.cell? a = some v → a.block ≠ mb) (hg : w.grownBy w' (some mb)) (h : ARow w ao l) : ARow w' ao l := by
  rcases h with h | ⟨b, off, h1, h2, h3⟩
  · exact .inl h
  · refine .inr ⟨b, off, h1, Nat.lt_of_lt_of_le h2 hg.size, fun i hi => ?_⟩
    obtain ⟨wo, wc, ko, kc, c0, c1, c2, c3, c4, g1, g2, g3⟩ := h3 i hi
    have kp : ∀ {a : Addr} {v : Value}, w.cell? a = some v → w'.cell? a = some v := fun {a v} hc => hg.cell hc (fun e => hm _ _ hc (by injection e))
    exact ⟨wo, wc, ko, kc, kp c0, kp c1, kp c2, kp c3, kp c4, g1, g2, ⟨srow_map hm hg g3.words, irow_map hm hg g3.kids, g3.ok⟩⟩
theorem block_map {b : Nat} {cs : Array Value} {T : TypeId} (h : BlockAt w b cs T) (hb : b ≠ mb) (hg : w.grownBy w' (some mb)) : BlockAt w' b cs T := by
  have : w'.heap[b]? = w.heap[b]? := hg.block b h.lt (fun e => hb (by injection e))
  unfold BlockAt
  rw [this]
  exact h
end
theorem make_imap (w : World) : (Instr.makeMap 108 none).run Tryz.prog w = .ok (.map (some w.heap.size)) (w.alloc (.map #[] 0)) := run_makeMap _ _
/-- What the program's Subst gives. -/
def psubT (l : List Ty) (i : Int) (args : List Int) : List Ty × Int × Int := if thereT l i = 0 then substT l i.toNat args else ([], 0, thereT l i)
theorem sub_few {l : List Ty} {i : Nat} {args : List Int} (h : (args.length : Int) < askD (funT l) (i + 1) i) : substT l i args = ([], 0, 1) := by unfold substT; rw [if_pos h]
theorem sub_out {l : List Ty} {i : Nat} {args : List Int} (h : ¬ (args.length : Int) < askD (funT l) (i + 1) i) (h2 : inArena l args = false) : substT l i args = ([], 0, 1) := by unfold substT; rw [if_neg h, if_pos h2]
theorem sub_err {l : List Ty} {i : Nat} {args : List Int} {e : Int} (h : ¬ (args.length : Int) < askD (funT l) (i + 1) i) (h2 : inArena l args = true) (h3 : (runT l i args (i + 1)).err = e) (h4 : e ≠ 0) : substT l i args = ([], 0, e) := by
  unfold substT; rw [if_neg h, if_neg (by rw [h2]; decide), h3, if_pos h4]
theorem sub_ok {l : List Ty} {i : Nat} {args : List Int} {s : SS} (h : ¬ (args.length : Int) < askD (funT l) (i + 1) i) (h2 : inArena l args = true) (h3 : runT l i args (i + 1) = s) (h4 : s.err = 0) : substT l i args = (s.now, s.ins i, 0) := by
  unfold substT; rw [if_neg h, if_neg (by rw [h2]; decide), h3, if_neg (by omega)]
theorem out_arena {l : List Ty} {args : List Int} {k : Nat} (hk : k < args.length) (h : args.getD k 0 < 0 ∨ (l.length : Int) ≤ args.getD k 0) : inArena l args = false := by
  unfold inArena
  rw [Bool.eq_false_iff]
  intro g
  rw [List.all_eq_true] at g
  have := of_decide_eq_true (g _ (getD_mem hk))
  omega
theorem all_arena {l : List Ty} {args : List Int} (h : ∀ j, j < args.length → 0 ≤ args.getD j 0 ∧ args.getD j 0 < (l.length : Int)) : inArena l args = true := by
  unfold inArena
  rw [List.all_eq_true]
  intro a ha
  obtain ⟨j, hj, rfl⟩ := List.getElem_of_mem ha
  have := h j hj
  rw [getD_of hj] at this
  exact decide_eq_true this
theorem run_step (l : List Ty) (i : Nat) (args : List Int) (c : Nat) : runT l i args (c + 1) = stepS (funT l) (needD (funT l) i (i + 1)) (askD (funT l) (i + 1)) args c (runT l i args c) := rfl
theorem kind7_len {l : List Ty} (hr : rightT l = true) {j : Nat} (hj : j < l.length) (h7 : l[j].kind = 7) : l[j].words.length = l[j].kids.length := by
  by_cases h22 : j < 22
  · rw [right_low hr hj h22]
    unfold bas
    split <;> rfl
  · exact ((made_shape (right_high hr hj h22).1).lens (.inr h7)).1
set_option maxHeartbeats 32000000 in
set_option maxRecDepth 100000 in
theorem subst_in (l : List Ty) (ao : Option Addr) (ac i : Nat) (args : List Int) (go : Option Addr) (gc : Nat) (w : World) (hl : ARow w ao l) (hr : rightT l = true) (hac : l.length ≤ ac) (hE : Env w) (hi : i < l.length) (hg : IRow w go args) (hgl : args.length ≤ 1000) (hg6 : ∀ a ∈ args, -9223372036854775808 ≤ a ∧ a ≤ 9223372036854775807) :
    Calls Tryz.prog 60 #[.slice ao l.length ac, .int .i64 i, .slice go args.length gc] w (PAddR w (substT l i args)) := by
  have hll := (right_step hr).1
  have HT0 := there_any l ao ac i w hl (by omega) hac hE
  rw [there_ok hr (by omega) (by omega)] at HT0
  have HT := Lib.hid HT0
  have HAS0 := fun W (h : Below w.heap.size w W) => asked_any l ao ac i W (hl.below h) hr hac hi
  have HPA0 := fun W (h : Below w.heap.size w W) => parts_any l ao ac i W (hl.below h) hr hac hi
  have HA := Lib.hid hl
  have HRT := Lib.hid hr
  have HE := Lib.hid hE
  have HG := Lib.hid hg
  have HG6 := Lib.hid hg6
  have HIN := Lib.hid hi
  have HACL := Lib.hid hac
  obtain ⟨R, hR⟩ : ∃ R, substT l i args = R := ⟨_, rfl⟩
  rw [hR]
  have HR := Lib.hid hR
  obtain ⟨n, hn⟩ : ∃ n, l.length = n := ⟨_, rfl⟩
  have HN := Lib.hid hn
  obtain ⟨ga, hga⟩ : ∃ n, args.length = n := ⟨_, rfl⟩
  have HGA := Lib.hid hga
  rw [hga] at hgl ⊢
  rw [hn] at HT HAS0 HPA0 hll hac hi ⊢
  have HAS := Lib.hid HAS0
  have HPA := Lib.hid HPA0
  have hAi := askD_in (right_param hr) (i + 1) i
  obtain ⟨az, haz⟩ : ∃ az, askD (funT l) (i + 1) i = az := ⟨_, rfl⟩
  have HAZ := Lib.hid haz
  rw [haz] at hAi
  have hiI : (i : Int) < (i : Int) + 1 := by omega
  clear hl hr hE hg hg6 hR hn hga HT0 HAS0 HPA0 haz
  go_enter Tryz.func60, Tryz.ntmps60
  go_wp2_with fail
  refine HT.out.mono ?_
  rintro e w1 ⟨rfl, b1⟩
  have B1 := Lib.hid b1
  clear b1
  go_wp2_with fail
  refine (HAS.out _ B1.out).mono ?_
  rintro e w2 ⟨ab, rfl, kb, hab, b2⟩
  have B2 := Lib.hid (B1.out.trans (b2.mono B1.out.size))
  have KA := Lib.hid kb
  have HAB := Lib.hid (show w.heap.size ≤ ab from Nat.le_trans B1.out.size hab)
  have ca := kb.cell i
  rw [rowZ_get (by omega), HAZ.out] at ca
  clear b2 kb hab
  by_cases hlt : (ga : Int) < az
  · have hd : decide ((ga : Int) < az) = true := decide_eq_true hlt
    have Hn := Lib.hid (show R = ([], 0, 1) by rw [← HR.out]; exact sub_few (by rw [HGA.out, HAZ.out]; exact hlt))
    clear hlt
    go_wp2_with fail
    go_ret3
    exact padd_none Hn.out B2.out
  have hd : decide ((ga : Int) < az) = false := decide_eq_false hlt
  have HLT := Lib.hid (show askD (funT l) (i + 1) i ≤ (args.length : Int) by rw [HGA.out, HAZ.out]; omega)
  clear hlt
  go_wp2_with fail
  clear ca hd
  go_loop [39] (fun v => ∃ k : Nat, k ≤ ga ∧ v = .int .i64 k ∧ Hid (∀ j, j < k → 0 ≤ args.getD j 0 ∧ args.getD j 0 < (l.length : Int))) (fun v => ga - (intOf v).toNat)
  case atStart => exact ⟨0, Nat.zero_le _, rfl, Lib.hid (fun j hj => absurd hj (Nat.not_lt_zero _))⟩
  case round =>
    obtain ⟨k, hk, rfl, HALL⟩ := hrel
    by_cases hkl : k < ga
    · have hkx : k < args.length := by rw [HGA.out]; exact hkl
      obtain ⟨gb, gof, rfl, hgb, hgcell⟩ := HG.out.cells (by omega)
      have cg := (B2.out.cell (p := ⟨gb, gof + k, none⟩) hgb).trans (hgcell k hkx)
      have HOUT := Lib.hid (fun h => out_arena (l := l) hkx h)
      obtain ⟨a, ha⟩ : ∃ a, args.getD k 0 = a := ⟨_, rfl⟩
      rw [ha] at cg HOUT
      have HAE := Lib.hid ha
      clear ha hgcell hgb
      by_cases h0 : a < 0
      · have hd0 : decide (a < 0) = true := decide_eq_true h0
        have Hn := Lib.hid (show R = ([], 0, 1) by rw [← HR.out]; exact sub_out (Int.not_lt.2 HLT.out) (HOUT.out (.inl h0)))
        clear h0 HOUT
        go_wp2_with fail
        go_ret3
        exact padd_none Hn.out B2.out
      · have hd0 : decide (a < 0) = false := decide_eq_false h0
        by_cases h1 : (n : Int) ≤ a
        · have hd1 : decide ((n : Int) ≤ a) = true := decide_eq_true h1
          have Hn := Lib.hid (show R = ([], 0, 1) by rw [← HR.out]; exact sub_out (Int.not_lt.2 HLT.out) (HOUT.out (.inr (by rw [HN.out]; exact h1))))
          clear h0 h1 HOUT
          go_wp2_with fail
          go_ret3
          exact padd_none Hn.out B2.out
        · have hd1 : decide ((n : Int) ≤ a) = false := decide_eq_false h1
          have HN2 := Lib.hid (show ∀ j, j < k + 1 → 0 ≤ args.getD j 0 ∧ args.getD j 0 < (l.length : Int) from fun j hj => by
            rcases Nat.lt_or_eq_of_le (Nat.le_of_lt_succ hj) with h3 | h3
            · exact HALL.out j h3
            · subst h3; rw [HAE.out, HN.out]; omega)
          clear h0 h1 HOUT
          go_wp2_with fail
          go_round
          case rel => exact ⟨k + 1, by omega, by go_num, HN2⟩
          case measure => first | (simp [intOf]; done) | (simp [intOf]; omega)
    · have HINA := Lib.hid (show inArena l args = true from all_arena (fun j hj => HALL.out j (by rw [HGA.out] at hj; omega)))
      clear HALL
      have hmk := make_imap w2
      obtain ⟨mb, hmb⟩ : ∃ mb, w2.heap.size = mb := ⟨_, rfl⟩
      have HMB := Lib.hid (show w.heap.size ≤ mb ∧ ab ≠ mb by have := B2.out.size; have := KA.out.lt; omega)
      obtain ⟨w3, h3⟩ : ∃ w3, w2.alloc (.map #[] 0) = w3 := ⟨_, rfl⟩
      have IM0 := imap_new w2 (needD (funT l) i (i + 1)) (fun _ => 0)
      have q3 : Below w2.heap.size w2 w3 := by rw [← h3]; exact (Below.refl _ _).alloc (Nat.le_refl _) _
      rw [h3, hmb] at IM0 hmk
      have IM := Lib.hid IM0
      have B3 := Lib.hid (B2.out.trans (q3.mono B2.out.size))
      have KA3 := Lib.hid (KA.out.below q3)
      clear h3 IM0 q3 hmb
      go_wp2_with fail
      refine (HPA.out _ B3.out).mono ?_
      rintro e w4 ⟨pb, rfl, kp, hpb, b4⟩
      have B4 := Lib.hid (B3.out.trans (b4.mono B3.out.size))
      have KP := Lib.hid kp
      have KA4 := Lib.hid (KA3.out.below b4)
      have IM4 := Lib.hid (IM.out.below b4)
      have HPB := Lib.hid (show pb ≠ mb by have := IM.out.lt; omega)
      have HA4 := Lib.hid (HA.out.below B4.out)
      clear b4 kp hpb hmk
      go_wp2_with fail
      obtain ⟨nd, hnd⟩ : ∃ nd, needD (funT l) i (i + 1) = nd := ⟨_, rfl⟩
      obtain ⟨A, hA⟩ : ∃ A, askD (funT l) (i + 1) = A := ⟨_, rfl⟩
      have HND := Lib.hid hnd
      have HAA := Lib.hid hA
      rw [hnd] at KP IM4
      rw [hA] at KA4
      clear hnd hA
      have S0 := Lib.hid (show (runT l i args 0).err = 0 from rfl)
      go_loopw [14, 58] (fun v14 v58 wr => ∃ (c : Nat) (so : Option Addr) (sc : Nat) (s : SS), c ≤ i + 1 ∧ v14 = .slice so s.now.length sc ∧ v58 = .int .i64 c ∧ Hid (runT l i args c = s) ∧ Hid (s.err = 0) ∧ Hid (ARow wr so s.now) ∧ Hid (s.now.length ≤ sc) ∧ Hid (IMap wr mb c nd s.ins) ∧ Hid (BlockAt wr ab (rowZ (i + 1) A) 3) ∧ Hid (BlockAt wr pb (rowB (i + 1) nd) 4) ∧ Hid (Below w.heap.size w wr)) (fun _ v _ => i + 1 - (intOf v).toNat)
      case atStart => exact ⟨0, ao, ac, runT l i args 0, Nat.zero_le _, by (show Value.slice ao n ac = .slice ao l.length ac; rw [HN.out]), rfl, Lib.hid rfl, S0, HA4, HACL, IM4, KA4, KP, B4⟩
      case round =>
        obtain ⟨c, so, sc, s, hc, rfl, rfl, HRUN, HERR, HNOW, HSC, HIM, HKA, HKP, HB⟩ := hrel
        have HINV := Lib.hid (show Inv l i c s from by rw [← HRUN.out]; exact inv_run HRT.out HIN.out HINA.out (Int.not_lt.2 HLT.out) c hc (by rw [HRUN.out]; exact HERR.out))
        by_cases hcl : c < i + 1
        · have hcx : c < l.length := by rw [HN.out]; omega
          have hcI : (c : Int) < (i : Int) + 1 := by omega
          obtain ⟨lb, lof, rfl, hlb, hlcell⟩ := HA.out.cells (by omega)
          have hat := hlcell c hcx
          have HFX := Lib.hid (show funT l c = l[c] from getD_of hcx)
          have HSMX := Lib.hid (right_small HRT.out hcx)
          have HK7 := Lib.hid (fun h => kind7_len HRT.out hcx h)
          have HKID := Lib.hid (fun k (hk : k ∈ l[c].kids) => right_kids HRT.out hcx k hk)
          obtain ⟨x, hx⟩ : ∃ x, l[c] = x := ⟨_, rfl⟩
          rw [hx] at hat HFX HSMX HK7 HKID
          obtain ⟨xw, xwc, xk, xkc, a0', a1', a2', a3', a4', hwc, hkc, hxc⟩ := hat
          have a0 := (HB.out.cell hlb).trans a0'
          have a1 := (HB.out.cell hlb).trans a1'
          have a2 := (HB.out.cell hlb).trans a2'
          have a3 := (HB.out.cell hlb).trans a3'
          have a4 := (HB.out.cell hlb).trans a4'
          obtain ⟨wn, hwn⟩ : ∃ wn, wr.alloc (.cells #[.int .i64 x.kind, .string x.name, .int .i64 x.n, .slice xw x.words.length xwc, .slice xk x.kids.length xkc] 38) = wn := ⟨_, rfl⟩
          obtain ⟨kx, qx, zx⟩ := box_new hwn
          obtain ⟨c0, c1, c2, c3, c4⟩ := cell5 kx
          have QX := Lib.hid qx
          have BN := Lib.hid (HB.out.trans (qx.mono HB.out.size))
          have HXC := Lib.hid (And.intro hwc (And.intro hkc (hxc.below BN.out)))
          have IMN := Lib.hid (HIM.out.below qx)
          have KAN := Lib.hid (HKA.out.below qx)
          have KPN := Lib.hid (HKP.out.below qx)
          have NWN := Lib.hid (HNOW.out.below qx)
          have cp := HKP.out.cell c
          rw [rowB_get hcl] at cp
          have cq := KAN.out.cell c
          rw [rowZ_get hcl] at cq
          obtain ⟨ndc, hndc⟩ : ∃ b, nd c = b := ⟨_, rfl⟩
          rw [hndc] at cp
          have HNDC := Lib.hid hndc
          obtain ⟨azc, hazc⟩ : ∃ b, A c = b := ⟨_, rfl⟩
          rw [hazc] at cq
          have HAZC := Lib.hid hazc
          clear hx kx qx zx a0' a1' a2' a3' a4' hwc hkc hxc hlcell hndc hazc
          cases ndc
          · have HS := Lib.hid (show runT l i args (c + 1) = ⟨updI s.ins c c, s.now, 0⟩ from by
              rw [run_step, HRUN.out, HND.out, HAA.out]
              exact stepS_skip HERR.out (.inl HNDC.out))
            have IM2 := Lib.hid (IMN.out.skip HNDC.out (c : Int))
            have E0 := Lib.hid (show (0 : Int) = 0 from rfl)
            go_wp2_with fail
            go_roundw
            case rel => exact ⟨c + 1, so, sc, ⟨updI s.ins c c, s.now, 0⟩, by omega, rfl, by go_num, HS, Lib.hid rfl, NWN, HSC, IM2, KAN, KPN, BN⟩
            case measure => first | (simp [intOf]; done) | (simp [intOf]; omega)
          · by_cases h9 : x.kind = 9
            · have hq9 : (x.kind == 9) = true := by rw [beq_iff_eq]; exact h9
              have hpi := param_in HRT.out HIN.out (i := i) (c := c) (by omega) (by rw [HND.out]; exact HNDC.out) (by rw [HFX.out]; exact h9) (args := args) (Int.not_lt.2 HLT.out)
              rw [HFX.out] at hpi
              obtain ⟨N, hN⟩ : ∃ N : Nat, x.n = (N : Int) := ⟨x.n.toNat, by omega⟩
              have hNl : N < args.length := by omega
              have HS := Lib.hid (show runT l i args (c + 1) = ⟨updI s.ins c (args.getD N 0), s.now, 0⟩ from by
                rw [run_step, HRUN.out, HND.out, HAA.out, stepS_param HERR.out HNDC.out (fun g => by
                  have e := askD_self (f := funT l) (show c < i + 1 by omega)
                  have g1 := askF_ge (A := askD (funT l) c) (n := ask0 (funT l c)) (ks := (funT l c).kids)
                  rw [HAA.out, g] at e
                  rw [← e, HFX.out] at g1
                  unfold ask0 at g1
                  rw [if_pos h9] at g1
                  omega) (by rw [HFX.out]; exact h9), HFX.out, hN, Int.toNat_natCast])
              obtain ⟨gb, gof, rfl, hgb, hgcell⟩ := HG.out.cells (by omega)
              have cg := (BN.out.cell (p := ⟨gb, gof + N, none⟩) hgb).trans (hgcell N hNl)
              have hrg := HG6.out _ (getD_mem hNl)
              have hNga : N < ga := by rw [← HGA.out]; exact hNl
              have hNgaI : (N : Int) < (ga : Int) := by omega
              obtain ⟨vv, hvv⟩ : ∃ v, args.getD N 0 = v := ⟨_, rfl⟩
              rw [hvv] at cg hrg HS
              rw [hN] at a2 c2 hwn
              clear h9 hvv hgcell hgb hN hpi hNl
              obtain ⟨w8, hst, im8, g8⟩ := IMN.out.store (by omega) (v := vv) hrg
              have IM8 := Lib.hid im8
              have B8 := Lib.hid (BN.out.grown g8 BN.out.size (fun j hj => by injection hj with hj; rw [← hj]; exact HMB.out.1))
              have NW8 := Lib.hid (arow_map (fun a v hc => IMN.out.none hc) g8 NWN.out)
              have KA8 := Lib.hid (block_map KAN.out HMB.out.2 g8)
              have KP8 := Lib.hid (block_map KPN.out HPB.out g8)
              clear im8 g8
              go_wp2_with fail
              go_roundw
              case rel => exact ⟨c + 1, so, sc, ⟨updI s.ins c vv, s.now, 0⟩, by omega, rfl, by go_num, HS, Lib.hid rfl, NW8, HSC, IM8, KA8, KP8, B8⟩
              case measure => first | (simp [intOf]; done) | (simp [intOf]; omega)
            · have hq9 : (x.kind == 9) = false := by rw [beq_eq_false_iff_ne]; exact h9
              by_cases hz : azc = 0
              · have HS := Lib.hid (show runT l i args (c + 1) = ⟨updI s.ins c c, s.now, 0⟩ from by
                  rw [run_step, HRUN.out, HND.out, HAA.out]
                  exact stepS_skip HERR.out (.inr (by rw [HAZC.out]; exact hz)))
                subst hz
                clear h9
                obtain ⟨w8, hst, im8, g8⟩ := IMN.out.store (by omega) (v := (c : Int)) (by omega)
                have IM8 := Lib.hid im8
                have B8 := Lib.hid (BN.out.grown g8 BN.out.size (fun j hj => by injection hj with hj; rw [← hj]; exact HMB.out.1))
                have NW8 := Lib.hid (arow_map (fun a v hc => IMN.out.none hc) g8 NWN.out)
                have KA8 := Lib.hid (block_map KAN.out HMB.out.2 g8)
                have KP8 := Lib.hid (block_map KPN.out HPB.out g8)
                clear im8 g8
                go_wp2_with fail
                go_roundw
                case rel => exact ⟨c + 1, so, sc, ⟨updI s.ins c (c : Int), s.now, 0⟩, by omega, rfl, by go_num, HS, Lib.hid rfl, NW8, HSC, IM8, KA8, KP8, B8⟩
                case measure => first | (simp [intOf]; done) | (simp [intOf]; omega)
              · have hqz : (azc == 0) = false := by rw [beq_eq_false_iff_ne]; exact hz
                have HPUT0 := put_any s.now so sc x xw xk xwc xkc mb c nd s.ins wn NWN.out HINV.out.right HSC.out (HE.out.below BN.out) HXC.out.2.2 HSMX.out HXC.out.1 HK7.out IMN.out (by omega) (fun k hk => by
                  have g := HKID.out k hk
                  have g2 := need_kid (fun_kids HRT.out HIN.out) (c := c) (by omega) (by rw [HND.out]; exact HNDC.out) (by rw [HFX.out]; exact hk)
                  have g3 := HINV.out.ins k.toNat (by omega) g2
                  rw [HND.out] at g2
                  exact ⟨g.1, g.2, g2, g3.1, g3.2⟩)
                have HGOOD := Lib.hid (fun h => put_good (t := x) (I := s.ins) HINV.out.right h)
                obtain ⟨M, pz, ez, hRR⟩ : ∃ M pz ez, putT s.now x s.ins = (M, pz, ez) := ⟨_, _, _, rfl⟩
                rw [hRR] at HPUT0 HGOOD
                have HRR := Lib.hid hRR
                unfold tyV at HPUT0
                have HPUT := Lib.hid HPUT0
                clear HPUT0 hRR
                go_wp2_with fail
                refine HPUT.out.mono ?_
                rintro e w7 ⟨ao7, cap7, rfl, p1, p2, b7⟩
                have P1 := Lib.hid p1
                have P2 := Lib.hid p2
                have B7 := Lib.hid (BN.out.trans (b7.mono BN.out.size))
                have IM7 := Lib.hid (IMN.out.below b7)
                have KA7 := Lib.hid (KAN.out.below b7)
                have KP7 := Lib.hid (KPN.out.below b7)
                clear p1 p2 b7 c0 c1 c2 c3 c4 hwn a0 a1 a2 a3 a4
                by_cases he : ez = 0
                · have hqe : (ez != 0) = false := by simp [he]
                  obtain ⟨-, M', p, hpM, e', -, hR', -, -, -⟩ := HGOOD.out he
                  injection e' with e1 e2
                  injection e2 with e2 e3
                  subst e1
                  subst e2
                  have hM4 := (right_step hR').1.2
                  have HS := Lib.hid (show runT l i args (c + 1) = ⟨updI s.ins c p, M, 0⟩ from by
                    rw [run_step, HRUN.out, HND.out, HAA.out, stepS_put HERR.out HNDC.out (by rw [HAZC.out]; exact hz) (by rw [HFX.out]; exact h9) (by rw [HFX.out, HRR.out, he])])
                  obtain ⟨w8, hst, im8, g8⟩ := IM7.out.store (by omega) (v := (p : Int)) (by omega)
                  have IM8 := Lib.hid im8
                  have B8 := Lib.hid (B7.out.grown g8 B7.out.size (fun j hj => by injection hj with hj; rw [← hj]; exact HMB.out.1))
                  have NW8 := Lib.hid (arow_map (fun a v hc => IM7.out.none hc) g8 P1.out)
                  have KA8 := Lib.hid (block_map KA7.out HMB.out.2 g8)
                  have KP8 := Lib.hid (block_map KP7.out HPB.out g8)
                  clear im8 g8 he hz h9 hpM hR' e3
                  go_wp2_with fail
                  go_roundw
                  case rel => exact ⟨c + 1, ao7, cap7, ⟨updI s.ins c p, M, 0⟩, by omega, rfl, by go_num, HS, Lib.hid rfl, NW8, P2, IM8, KA8, KP8, B8⟩
                  case measure => first | (simp [intOf]; done) | (simp [intOf]; omega)
                · have hqe : (ez != 0) = true := by simp [he]
                  have Hn := Lib.hid (show R = ([], 0, ez) by
                    rw [← HR.out]
                    refine sub_err (Int.not_lt.2 HLT.out) HINA.out (runS_bad (c := c + 1) (e := ez) ?_ he (by omega)) he
                    show (runT l i args (c + 1)).err = ez
                    rw [run_step, HRUN.out, HND.out, HAA.out, stepS_fail HERR.out HNDC.out (by rw [HAZC.out]; exact hz) (by rw [HFX.out]; exact h9) (by rw [HFX.out]; exact HRR.out) he])
                  clear he hz h9
                  go_wp2_with fail
                  go_ret3
                  exact padd_none Hn.out B7.out
        · obtain rfl : c = i + 1 := by omega
          have Hn := Lib.hid (show R = (s.now, s.ins i, 0) by rw [← HR.out]; exact sub_ok (Int.not_lt.2 HLT.out) HINA.out HRUN.out HERR.out)
          have hlk : ∀ nq, (Instr.lookup 108 (.map (some mb)) (.int .i64 (i : Int)) false).run Tryz.prog (wr.drewN nq) = .ok (.int .i64 (s.ins i)) (wr.drewN nq) := fun nq => IMap.look (HIM.out.below (below_drewN (Below.refl wr.heap.size wr) nq)) (by omega) (by rw [← HND.out]; exact needD_self _ _ _) (by omega)
          go_wp2_with fail
          go_quiet (fail)
          rename_i nq
          go_wp2_with fail
          go_ret3
          rw [Hn.out]
          exact ⟨so, sc, rfl, HNOW.out.below (below_drewN (Below.refl wr.heap.size wr) nq), HSC.out, below_drewN HB.out nq⟩
set_option maxHeartbeats 4000000 in
theorem subst_any (l : List Ty) (ao : Option Addr) (ac : Nat) (i : Int) (args : List Int) (go : Option Addr) (gc : Nat) (w : World) (hl : ARow w ao l) (ll : l.length ≤ 1000) (hac : l.length ≤ ac) (hE : Env w) (hg : IRow w go args) (hgl : args.length ≤ 1000) (hg6 : ∀ a ∈ args, -9223372036854775808 ≤ a ∧ a ≤ 9223372036854775807) :
    Calls Tryz.prog 60 #[.slice ao l.length ac, .int .i64 i, .slice go args.length gc] w (PAddR w (psubT l i args)) := by
  have HT0 := there_any l ao ac i w hl ll hac hE
  by_cases h0 : thereT l i = 0
  · obtain ⟨hr, g1, g2⟩ := there_zero h0
    obtain ⟨z, rfl⟩ : ∃ z : Nat, i = (z : Int) := ⟨i.toNat, by omega⟩
    have hP : psubT l z args = substT l z args := by unfold psubT; rw [if_pos h0, Int.toNat_natCast]
    rw [hP]
    exact subst_in l ao ac z args go gc w hl hr hac hE (by omega) hg hgl hg6
  · have hP : psubT l i args = ([], 0, thereT l i) := by unfold psubT; rw [if_neg h0]
    rw [hP]
    obtain ⟨t, ht⟩ : ∃ t, thereT l i = t := ⟨_, rfl⟩
    rw [ht] at HT0 h0 ⊢
    have HT := Lib.hid HT0
    obtain ⟨n, hn⟩ : ∃ n, l.length = n := ⟨_, rfl⟩
    rw [hn] at HT ⊢
    have hq : (t != 0) = true := by simp [h0]
    clear ht h0 hl hE ll hac HT0 hn hP hg hg6 hgl
    go_enter Tryz.func60, Tryz.ntmps60
    go_wp2_with fail
    refine HT.out.mono ?_
    rintro e w1 ⟨rfl, b1⟩
    have B1 := Lib.hid b1
    clear b1
    go_wp2_with fail
    go_ret3
    exact padd_none rfl B1.out
end Go.Proofs.YtkmnfkhchcoamaaGreatDoor

