/- The document's answer: Scan. -/
import Derived.Test.YtjhgibdebcapfaaScanRow
import Derived.Test.YtjhgibdebcapfaaScanRefTok
import Derived.Test.YtjhgibdebcapfaaRegA
namespace Go.Proofs.Ytjhgibdebcapfaa
open Go.RowKit
set_option linter.unusedSimpArgs false
set_option linter.unusedVariables false

theorem block_grown {w w' : World} {b : Nat} {xs : Array Value} {T : TypeId} {row : Option Nat} (hg : w.grownBy w' row) (h : BlockAt w b xs T) (hn : row ≠ some b) : BlockAt w' b xs T := by
  unfold BlockAt at *
  rw [hg.block b (Array.getElem?_eq_some_iff.1 h).1 (fun e => hn e.symm)]
  exact h
theorem own_not {w : World} {base : Nat} {v : Value} {l : List Tk} (h : Own w base v l) {b : Nat} (hb : b < base ∨ w.heap.size ≤ b) : v.ownBlock ≠ some b := fun he => by
  have := World.ownsRow.lt h b he
  omega
/-- What is there behind an append to a row of the call's own. -/
theorem push_all {W wr w1 : World} {base : Nat} {v v' : Value} {l : List Tk} {t : Tk} {cs : Array Value} {T : TypeId} {n : Nat} (hn : n = l.length + 1) (hW : W.heap.size ≤ base) (ho : Own wr base v l) (hB : Below W.heap.size W wr)
    (h1 : w1.ownsRow base 39 3 v' n (tkC l ++ tkC1 t)) (hg : (wr.alloc (.cells cs T)).grownBy w1 v.ownBlock) :
    Own w1 base v' (l ++ [t]) ∧ Below W.heap.size W w1 ∧ ∀ b xs U, BlockAt wr b xs U → v.ownBlock ≠ some b → BlockAt w1 b xs U := by
  have ba : Below wr.heap.size wr (wr.alloc (.cells cs T)) := (Below.refl _ _).alloc (Nat.le_refl _) _
  have hb2 := hB.trans (ba.mono hB.size)
  refine ⟨own_more hn h1, hb2.grown hg (by have := hb2.size; omega) (fun k hk => ?_), fun b xs U hb hne => block_grown hg (hb.below ba) hne⟩
  have := World.ownsRow.lt ho k hk
  omega
theorem lineT_len (b : Bool) (i : Nat) (l : List Tk) : (lineT b i l).length ≤ l.length + 1 := by unfold lineT; split <;> simp
theorem lineT_yes {i : Nat} {l : List Tk} (h : endsT l = true) : lineT true i l = l ++ [nlT i] := by unfold lineT; rw [if_pos ⟨rfl, h⟩]
theorem lineT_not {b : Bool} {i : Nat} {l : List Tk} (h : endsT l = false) : lineT b i l = l := by unfold lineT; rw [if_neg (fun g => by rw [h] at g; cases g.2)]
theorem tkC_size (l : List Tk) : (tkC l).length = l.length * 3 := tkC_len l
theorem own_set {w : World} {base : Nat} {v : Value} {l : List Tk} (h : Own w base v l) {b : Nat} (hb : v.ownBlock ≠ some b) (j : Nat) (u : Value) : Own (w.setCell ⟨b, j, none⟩ u) base v l := by
  obtain ⟨h1, h2⟩ := h
  refine ⟨h1, ?_⟩
  rcases h2 with h2 | ⟨g, cap, cur, rfl, hg, hcur, rest⟩
  · exact .inl h2
  · have hne : g ≠ b := fun e => hb (by rw [e]; rfl)
    exact .inr ⟨g, cap, cur, rfl, hg, (show BlockAt (w.setCell ⟨b, j, none⟩ u) g cur _ from BlockAt.other (show BlockAt w g cur _ from hcur) hne j u), rest⟩
theorem own_set3 {w : World} {base : Nat} {v : Value} {l : List Tk} (h : Own w base v l) {b : Nat} (hb : b < base) (v0 v1 v2 : Value) : Own (((w.setCell ⟨b, 0, none⟩ v0).setCell ⟨b, 1, none⟩ v1).setCell ⟨b, 2, none⟩ v2) base v l :=
  own_set (own_set (own_set h (own_not h (.inl hb)) 0 v0) (own_not h (.inl hb)) 1 v1) (own_not h (.inl hb)) 2 v2
/-- What Scan gives, the document's answer. -/
def ResAt (W w' : World) (e : Ending) (R : Res) : Prop := ∃ v, e = .returned (.agg #[v, .int .i64 R.pos, .int .i64 R.err]) ∧ Own w' W.heap.size v R.toks ∧ Below W.heap.size W w'
set_option maxHeartbeats 16000000 in
set_option maxRecDepth 100000 in
theorem refscan_many (s : ByteArray) (w : World) (hs : s.size ≤ 4010) (hm : 4000 < s.size) :
    Calls Try.prog 5 #[.string s] w fun e w' => ResAt w w' e (scanT s) := by
  have HR := Lib.hid (show scanT s = ⟨[], 0, 7⟩ by unfold scanT; rw [if_pos hm])
  obtain ⟨w1, hw⟩ : ∃ w1, w.alloc (.cells #[.slice none 0 0, .int .i64 0, .int .i64 0] 27) = w1 := ⟨_, rfl⟩
  obtain ⟨k1, q1, z1⟩ := box_new hw
  have B := Lib.hid q1
  have K1 := Lib.hid k1
  clear k1 q1 z1
  unfold ResAt
  go_enter Try.func5, Try.ntmps5
  obtain ⟨e0, e1, e2⟩ := cell3 K1.out
  obtain ⟨g0, g1, g2⟩ := set3_cells K1.out (.slice none 0 0) (.int .i64 0) (.int .i64 7)
  have fr0 := K1.out.free 0
  have fr1 := K1.out.free 1
  have fr2 := K1.out.free 2
  go_wp2_with fail
  try clear e0 e1 e2
  refine bodyPost_ret (v := .agg #[.slice none 0 0, .int .i64 0, .int .i64 7]) (by simp [results, Try.results5, go_sem, g0, g1, g2]) rfl ⟨_, by rw [HR.out], by rw [HR.out]; exact own_nil _ _, (set3_below B.out _ _ _)⟩
set_option maxHeartbeats 16000000 in
set_option maxRecDepth 100000 in
theorem refscan_spoilt (s : ByteArray) (w : World) (hs : s.size ≤ 4000) (hm : spoil s ≠ -1) :
    Calls Try.prog 5 #[.string s] w fun e w' => ResAt w w' e (scanT s) := by
  have HR := Lib.hid (show scanT s = ⟨[], spoil s, 12⟩ by unfold scanT; rw [if_neg (by omega), if_pos hm])
  obtain ⟨w1, hw⟩ : ∃ w1, w.alloc (.cells #[.slice none 0 0, .int .i64 0, .int .i64 0] 27) = w1 := ⟨_, rfl⟩
  obtain ⟨k1, q1, z1⟩ := box_new hw
  have B := Lib.hid q1
  have K1 := Lib.hid k1
  clear k1 q1 z1
  have hb := spoil_bounds s s.size 0
  have HS := refSpoilt_any s w1 (by omega)
  obtain ⟨a, ha⟩ : ∃ a, spoil s = a := ⟨_, rfl⟩
  have hb2 : -1 ≤ a := by rw [← ha]; exact hb.1
  rw [ha] at HS HR hm
  have h0 : 0 ≤ a := by omega
  have H42 := Lib.hid HS
  clear HS hb ha hm hb2
  unfold ResAt
  go_enter Try.func5, Try.ntmps5
  go_wp2_with fail
  clear hw
  refine H42.out.mono ?_
  rintro x w' ⟨rfl, rfl⟩
  go_wp2_with fail
  refine H42.out.mono ?_
  rintro x w' ⟨rfl, rfl⟩
  obtain ⟨e0, e1, e2⟩ := cell3 K1.out
  obtain ⟨g0, g1, g2⟩ := set3_cells K1.out (.slice none 0 0) (.int .i64 a) (.int .i64 12)
  have fr0 := K1.out.free 0
  have fr1 := K1.out.free 1
  have fr2 := K1.out.free 2
  go_wp2_with fail
  try clear e0 e1 e2
  refine bodyPost_ret (v := .agg #[.slice none 0 0, .int .i64 a, .int .i64 12]) (by simp [results, Try.results5, go_sem, g0, g1, g2]) rfl ⟨_, by rw [HR.out], by rw [HR.out]; exact own_nil _ _, (set3_below B.out _ _ _)⟩
set_option maxHeartbeats 64000000 in
set_option maxRecDepth 100000 in
theorem refscan_good (s : ByteArray) (w : World) (hs : s.size ≤ 4000) (hm : spoil s = -1) :
    Calls Try.prog 5 #[.string s] w fun e w' => ResAt w w' e (scanT s) := by
  obtain ⟨RR, hRR⟩ : ∃ RR, scanR s 0 [] = RR := ⟨_, rfl⟩
  have HR := Lib.hid (show scanT s = RR by unfold scanT; rw [if_neg (by omega), if_neg (fun h => h hm), hRR])
  have HR0 := Lib.hid hRR
  clear hRR
  obtain ⟨w1, hw⟩ : ∃ w1, w.alloc (.cells #[.slice none 0 0, .int .i64 0, .int .i64 0] 27) = w1 := ⟨_, rfl⟩
  obtain ⟨k1, q1, z1⟩ := box_new hw
  have B := Lib.hid q1
  have K1 := Lib.hid k1
  have Z1 := Lib.hid z1
  clear k1 q1 z1
  have HS := refSpoilt_any s w1 (by omega)
  rw [hm] at HS
  have H42 := Lib.hid HS
  clear HS hm
  obtain ⟨i0, hi0, hz0, hz1, hz2⟩ := info_parts info_tok
  unfold ResAt
  go_enter Try.func5, Try.ntmps5
  go_wp2_with fail
  clear hw
  refine H42.out.mono ?_
  rintro x w' ⟨rfl, rfl⟩
  go_wp2_with fail
  have O0 := Lib.hid (show Own (w1.alloc (.cells #[] 39)) (w.heap.size + 1) (.slice (some ⟨w1.heap.size, 0, none⟩) 0 0) [] from World.ownsRow_made w1 #[] 0 (by rw [Z1.out]; exact Nat.le_refl _) (by unfold maxLen; omega) rfl)
  have bq : Below w1.heap.size w1 (w1.alloc (.cells #[] 39)) := (Below.refl _ _).alloc (Nat.le_refl _) _
  have K2 := Lib.hid (K1.out.below bq)
  have B2 := Lib.hid (B.out.trans (bq.mono B.out.size))
  clear bq K1 B H42
  go_loopg [3, 4] (s.size) (fun k vl vi wr => ∃ (i : Nat) (l : List Tk), i + k = s.size ∧ vi = .int .i64 i ∧ l.length ≤ 2 * i ∧ Hid (scanR s i l = RR) ∧ Hid (Own wr (w.heap.size + 1) vl l) ∧ Hid (BlockAt wr w.heap.size #[.slice none 0 0, .int .i64 0, .int .i64 0] 27) ∧ Hid (Below w.heap.size w wr))
  case atStart => exact ⟨0, [], by omega, rfl, Nat.le_refl _, HR0, O0, K2, B2⟩
  case round =>
    obtain ⟨i, l, hik, rfl, hll, Hsc, HO, KA, BR⟩ := hrel
    by_cases hlt : i < s.size
    · obtain ⟨⟨ks, kl, ke⟩, hk⟩ : ∃ k, skipT s i = k := ⟨_, rfl⟩
      have HSk := Lib.hid hk
      have HM0 := refskip_any s i wr (by omega) hlt
      rw [hk] at HM0
      unfold leftV at HM0
      simp only at HM0
      have HM := Lib.hid HM0
      clear HM0 hk
      go_wp2_with fail
      refine HM.out.mono ?_
      rintro x w2 ⟨rfl, bb⟩
      have B3 := Lib.hid (BR.out.trans (bb.mono BR.out.size))
      have KA3 := Lib.hid (KA.out.below bb)
      have HO3 := Lib.hid (HO.out.kept bb)
      clear bb HM HO KA BR
      have bq : Below w2.heap.size w2 (w2.alloc (.cells #[.int .i64 (ks : Int), .bool kl, .int .i64 ke] 42)) := (Below.refl _ _).alloc (Nat.le_refl _) _
      have B4 := Lib.hid (B3.out.trans (bq.mono B3.out.size))
      have KA4 := Lib.hid (KA3.out.below bq)
      have HO4 := Lib.hid (HO3.out.kept bq)
      have KS4 := Lib.hid (BlockAt.new w2 #[.int .i64 (ks : Int), .bool kl, .int .i64 ke] 42)
      have hsz : w.heap.size < w2.heap.size := by have := KA3.out.lt; exact this
      have HSB := Lib.hid (own_not HO3.out (b := w2.heap.size) (.inr (Nat.le_refl _)))
      clear bq HO3
      by_cases hke : ke = 0
      rotate_left
      · have gke : (ke == 0) = false := by rw [beq_eq_false_iff_ne]; exact hke
        have nke : (ke != 0) = true := by rw [bne, gke]; rfl
        have HRR := Lib.hid (show RR = ⟨[], i, ke⟩ by rw [← Hsc.out, scanR_bad hlt (by rw [HSk.out]; exact hke), HSk.out])
        clear hke
        obtain ⟨e0, e1, e2⟩ := cell3 KA3.out
        obtain ⟨g0, g1, g2⟩ := set3_cells KA3.out (.slice none 0 0) (.int .i64 (i : Int)) (.int .i64 ke)
        have fr0 := KA3.out.free 0
        have fr1 := KA3.out.free 1
        have fr2 := KA3.out.free 2
        go_wp2_with fail
        try clear e0 e1 e2
        refine bodyPost_ret (v := .agg #[.slice none 0 0, .int .i64 (i : Int), .int .i64 ke]) (by simp [results, Try.results5, go_sem, g0, g1, g2, hsz]) rfl ⟨_, by rw [HR.out, HRR.out], by rw [HR.out, HRR.out]; exact own_nil _ _, (set3_below B3.out _ _ _).alloc (by simp; omega) _⟩
      subst hke
      have hsk := skip_le (s := s) hlt (by rw [HSk.out])
      rw [HSk.out] at hsk
      simp only at hsk
      cases kl
      · by_cases hik2 : i < ks
        · have HNX := Lib.hid (show scanR s ks l = RR by rw [← Hsc.out, scanR_skip hlt (by rw [HSk.out]) (by rw [HSk.out]; exact hik2), HSk.out, lineT_no])
          have hgt : (i : Int) < (ks : Int) := by omega
          go_wp2_with fail
          go_roundg (s.size - ks)
          case rel => exact ⟨ks, l, by omega, rfl, by omega, HNX, HO4, KA4, B4⟩
          case measure => omega
        · have hgt : ¬ (i : Int) < (ks : Int) := by omega
          obtain ⟨⟨tk, ts, te⟩, ht⟩ : ∃ g, tokT s i = g := ⟨_, rfl⟩
          have HTk := Lib.hid ht
          have HT0 := fun w' => reftoken_any s i w' (by omega) hlt
          rw [ht] at HT0
          unfold gotV at HT0
          simp only at HT0
          have HT1 := Lib.hid HT0
          clear HT0 ht
          go_wp2_with fail
          refine (HT1.out _).mono ?_
          rintro x w3 ⟨rfl, bb⟩
          have B5 := Lib.hid (B4.out.trans (bb.mono B4.out.size))
          have KA5 := Lib.hid (KA4.out.below bb)
          have HO5 := Lib.hid (HO4.out.kept bb)
          have hlt2 : w2.heap.size < w3.heap.size := by have := (KS4.out.below bb).lt; exact this
          clear bb HT1 B4 KA4 HO4 KS4
          have bq : Below w3.heap.size w3 (w3.alloc (.cells #[.int .i64 tk, .int .i64 (ts : Int), .int .i64 te] 46)) := (Below.refl _ _).alloc (Nat.le_refl _) _
          have B6 := Lib.hid (B5.out.trans (bq.mono B5.out.size))
          have KA6 := Lib.hid (KA5.out.below bq)
          have HO6 := Lib.hid (HO5.out.kept bq)
          have hsz3 : w.heap.size < w3.heap.size := KA5.out.lt
          have HOR := Lib.hid HO5.out
          have KT6 := Lib.hid (BlockAt.new w3 #[.int .i64 tk, .int .i64 (ts : Int), .int .i64 te] 46)
          clear bq HO5
          by_cases hte : te = 0
          rotate_left
          · have gte : (te == 0) = false := by rw [beq_eq_false_iff_ne]; exact hte
            have nte : (te != 0) = true := by rw [bne, gte]; rfl
            have HRR := Lib.hid (show RR = ⟨[], i, te⟩ by rw [← Hsc.out, scanR_wrong hlt (by rw [HSk.out]) (by rw [HSk.out]; exact hik2) (by rw [HTk.out]; exact hte), HTk.out])
            clear hte
            obtain ⟨e0, e1, e2⟩ := cell3 KA5.out
            obtain ⟨g0, g1, g2⟩ := set3_cells KA5.out (.slice none 0 0) (.int .i64 (i : Int)) (.int .i64 te)
            have fr0 := KA5.out.free 0
            have fr1 := KA5.out.free 1
            have fr2 := KA5.out.free 2
            go_wp2_with fail
            try clear e0 e1 e2
            refine bodyPost_ret (v := .agg #[.slice none 0 0, .int .i64 (i : Int), .int .i64 te]) (by simp [results, Try.results5, go_sem, g0, g1, g2, hsz3]) rfl ⟨_, by rw [HR.out, HRR.out], by rw [HR.out, HRR.out]; exact own_nil _ _, (set3_below B5.out _ _ _).alloc (by simp; omega) _⟩
          subst hte
          have htr := tok_rise (s := s) hlt (by rw [HTk.out])
          rw [HTk.out] at htr
          simp only at htr
          obtain ⟨ht1, ht2⟩ := htr
          have HNX := Lib.hid (show scanR s ts (l ++ [⟨tk, s.extract i ts, i⟩]) = RR by rw [← Hsc.out, scanR_tok hlt (by rw [HSk.out]) (by rw [HSk.out]; exact hik2) (by rw [HTk.out]), HTk.out, HSk.out, lineT_no])
          have htsI : (ts : Int) ≤ (s.size : Int) := by omega
          have hitI : (i : Int) ≤ (ts : Int) := by omega
          go_wp2_with fail
          generalize w3.alloc (.cells #[.int .i64 tk, .int .i64 (ts : Int), .int .i64 0] 46) = w4 at *
          obtain ⟨x0, x1, x2⟩ := cell3 KT6.out
          refine GoG.start [(12, ⟨w3.heap.size, 0, none⟩, .int .i64 tk), (12, ⟨w3.heap.size, 1, none⟩, .int .i64 (ts : Int))] (by kernel_rfl) ?_ ?_
          · exact Keeps.cons (by first | assumption | simp [*]) (Keeps.cons (by first | assumption | simp [*]) (Keeps.nil))
          refine GoG.take (i := 0) (v := ?_) [] rfl (by kernel_rfl) (by kernel_rfl) (by kernel_rfl) (by kernel_rfl) (by kernel_rfl) (by kernel_rfl) (fun _ _ _ h => h) (yields_free (by rfl) (fun w => ?_)) ?_
          rotate_left
          · go_simp; try (with_reducible rfl)
          try simp only [Act.put, List.setIfInBounds_toArray, List.set_cons_zero, List.set_cons_succ]
          refine GoG.take (i := 1) (v := ?_) [] rfl (by kernel_rfl) (by kernel_rfl) (by kernel_rfl) (by kernel_rfl) (by kernel_rfl) (by kernel_rfl) (fun _ _ _ h => h) (yields_free (by rfl) (fun w => ?_)) ?_
          rotate_left
          · go_simp; try (with_reducible rfl)
          try simp only [Act.put, List.setIfInBounds_toArray, List.set_cons_zero, List.set_cons_succ]
          refine GoG.take (i := 2) (v := ?_) [12] rfl (by kernel_rfl) (by kernel_rfl) (by kernel_rfl) (by kernel_rfl) (by kernel_rfl) (by kernel_rfl) (fun _ _ _ h => h) (yields_load 12 ⟨w3.heap.size, 0, none⟩ (.int .i64 tk) (by simp) (by decide) (by rfl) (fun w hw => ?_)) ?_
          rotate_left
          · go_simp; try (with_reducible rfl)
          try simp only [Act.put, List.setIfInBounds_toArray, List.set_cons_zero, List.set_cons_succ]
          refine GoG.take (i := 3) (v := ?_) [] rfl (by kernel_rfl) (by kernel_rfl) (by kernel_rfl) (by kernel_rfl) (by kernel_rfl) (by kernel_rfl) (fun _ _ _ h => h) (yields_free (by rfl) (fun w => ?_)) ?_
          rotate_left
          · go_simp; try (with_reducible rfl)
          try simp only [Act.put, List.setIfInBounds_toArray, List.set_cons_zero, List.set_cons_succ]
          refine GoG.take (i := 4) (v := ?_) [] rfl (by kernel_rfl) (by kernel_rfl) (by kernel_rfl) (by kernel_rfl) (by kernel_rfl) (by kernel_rfl) (fun _ _ _ h => h) (yields_free (by rfl) (fun w => ?_)) ?_
          rotate_left
          · go_simp; try (with_reducible rfl)
          try simp only [Act.put, List.setIfInBounds_toArray, List.set_cons_zero, List.set_cons_succ]
          refine GoG.take (i := 5) (v := ?_) [] rfl (by kernel_rfl) (by kernel_rfl) (by kernel_rfl) (by kernel_rfl) (by kernel_rfl) (by kernel_rfl) (fun _ _ _ h => h) (yields_free (by rfl) (fun w => ?_)) ?_
          rotate_left
          · go_simp; try (with_reducible rfl)
          try simp only [Act.put, List.setIfInBounds_toArray, List.set_cons_zero, List.set_cons_succ]
          refine GoG.take (i := 6) (v := ?_) [12] rfl (by kernel_rfl) (by kernel_rfl) (by kernel_rfl) (by kernel_rfl) (by kernel_rfl) (by kernel_rfl) (fun _ _ _ h => h) (yields_load 12 ⟨w3.heap.size, 1, none⟩ (.int .i64 (ts : Int)) (by simp) (by decide) (by rfl) (fun w hw => ?_)) ?_
          rotate_left
          · go_simp; try (with_reducible rfl)
          try simp only [Act.put, List.setIfInBounds_toArray, List.set_cons_zero, List.set_cons_succ]
          refine GoG.take (i := 7) (v := ?_) [] rfl (by kernel_rfl) (by kernel_rfl) (by kernel_rfl) (by kernel_rfl) (by kernel_rfl) (by kernel_rfl) (fun _ _ _ h => h) (yields_free (by rfl) (fun w => ?_)) ?_
          rotate_left
          · go_simp; try (with_reducible rfl)
          try simp only [Act.put, List.setIfInBounds_toArray, List.set_cons_zero, List.set_cons_succ]
          refine GoG.take (i := 8) (v := ?_) [] rfl (by kernel_rfl) (by kernel_rfl) (by kernel_rfl) (by kernel_rfl) (by kernel_rfl) (by kernel_rfl) (fun _ _ _ h => h) (yields_free (by rfl) (fun w => ?_)) ?_
          rotate_left
          · go_simp; try (with_reducible rfl)
          try simp only [Act.put, List.setIfInBounds_toArray, List.set_cons_zero, List.set_cons_succ]
          refine GoG.take (i := 9) (v := ?_) [] rfl (by kernel_rfl) (by kernel_rfl) (by kernel_rfl) (by kernel_rfl) (by kernel_rfl) (by kernel_rfl) (fun _ _ _ h => h) (yields_free (by rfl) (fun w => ?_)) ?_
          rotate_left
          · go_simp; try (with_reducible rfl)
          try simp only [Act.put, List.setIfInBounds_toArray, List.set_cons_zero, List.set_cons_succ]
          have bd : Below w4.heap.size w4 w4.drew := (Below.refl _ _).drew
          have B7 := Lib.hid (B6.out.trans (bd.mono B6.out.size))
          have KA7 := Lib.hid (KA6.out.below bd)
          have HO7 := Lib.hid (HO6.out.kept bd)
          have KT7 := Lib.hid (KT6.out.below bd)
          have hkt : w3.heap.size < w4.drew.heap.size := KT7.out.lt
          have hkt4 : w3.heap.size < w4.heap.size := KT6.out.lt
          clear B6 KA6 HO6 KT6 bd x0 x1 x2
          have HTB := Lib.hid (own_not HOR.out (.inr (Nat.le_refl _)))
          have hbw := B7.out.size
          have hbq : Below w4.drew.heap.size w4.drew (w4.drew.alloc (.cells #[.int .i64 tk, .string (s.extract i ts), .int .i64 (i : Int)] 39)) := (Below.refl _ _).alloc (Nat.le_refl _) _
          obtain ⟨x0, x1, x2⟩ := cell3 (KT7.out.below hbq)
          refine GoG.one (i := 10) rfl (by kernel_rfl) (fun K hK => ?_)
          go_simp
          refine hK.out _ _ (Keeps.cons (by first | assumption | exact x0) (Keeps.cons (by first | assumption | exact x1) Keeps.nil)) ?_
          clear hK K x0 x1 x2 hbq
          refine GoG.append (i := 11) rfl (by kernel_rfl) rfl _ _ 22 rfl (w.heap.size + 1) 39 i0 (.agg #[.int .i64 0, .string ⟨#[]⟩, .int .i64 0]) 3 32 Try.underlying22 hi0 hz0 hz1 hz2 rfl (by decide) u3 l.length (tkC l) rfl (World.ownsRow.alloc HO7.out _) ⟨w4.drew.heap.size, 0, none⟩ 1 1 [.int .i64 tk, .string (s.extract i ts), .int .i64 (i : Int)] rfl rfl (cell_new3 _ _ _ _ _) (by simp [Value.oneCell']) (by unfold maxLen; omega) (by omega) (by simp; omega) (fun v2 wn hown1 hgrow hob => ?_)
          have hpush := push_all (t := ⟨tk, s.extract i ts, i⟩) rfl (Nat.le_succ _) HO7.out B7.out hown1 hgrow
          have HO8 := Lib.hid hpush.1
          have B8 := Lib.hid hpush.2.1
          have KA8 := Lib.hid (hpush.2.2 _ _ _ KA7.out (own_not HO7.out (.inl (Nat.lt_succ_self _))))
          have KT8 := hpush.2.2 _ _ _ KT7.out HTB.out
          obtain ⟨x0, x1, x2⟩ := cell3 KT8
          clear hpush hown1 hgrow HO7 B7 KA7 KT7 KT8 HOR hob
          refine ⟨Keeps.cons x0 (Keeps.cons x1 Keeps.nil), ?_⟩
          refine GoG.one (i := 12) rfl (by kernel_rfl) (fun K hK => ?_)
          go_simp
          refine hK.out _ _ (Keeps.up (by rfl) (Keeps.up (by rfl) Keeps.nil)) ?_
          clear hK K
          refine GoG.done (by kernel_rfl) ?_ _
          go_wp2_with fail
          go_roundg (s.size - ts)
          case rel => exact ⟨ts, _, by omega, rfl, by rw [List.length_append]; show l.length + 1 ≤ 2 * ts; omega, HNX, HO8, KA8, B8⟩
          case measure => omega
      · have hik2 : i < ks := by
          rcases Nat.lt_or_ge i ks with h1 | h1
          · exact h1
          · have := skip_line (s := s) (i := i) (by rw [HSk.out]) (by rw [HSk.out]; show ¬ i < ks; omega)
            rw [HSk.out] at this
            cases this
        have hgt : (i : Int) < (ks : Int) := by omega
        have HSC := Lib.hid (show scanR s ks (lineT true i l) = RR by rw [← Hsc.out, scanR_skip hlt (by rw [HSk.out]) (by rw [HSk.out]; exact hik2), HSk.out])
        obtain ⟨ao, cap, hv, hrow⟩ := own_row HO4.out
        subst hv
        have HE := fun w' (h : Below w2.heap.size w2 w') (hr : TRow w' ao l) => refends_any ao cap l w' hr (by omega)
        have HRW := Lib.hid hrow
        cases heb : endsT l
        · have HNX := Lib.hid (show scanR s ks l = RR by rw [← HSC.out, lineT_not heb])
          have HE2 := refends_any ao cap l (w2.alloc (.cells #[.int .i64 (ks : Int), .bool true, .int .i64 0] 42)) HRW.out (by omega)
          rw [heb] at HE2
          have HE3 := Lib.hid HE2
          clear HE HE2 heb hrow HSC
          go_wp2_with fail
          refine HE3.out.mono ?_
          rintro x w3 ⟨rfl, bb⟩
          have B5 := Lib.hid (B4.out.trans (bb.mono B4.out.size))
          have KA5 := Lib.hid (KA4.out.below bb)
          have HO5 := Lib.hid (HO4.out.kept bb)
          obtain ⟨x0, x1, x2⟩ := cell3 (KS4.out.below bb)
          clear bb HE3
          go_wp2_with fail
          go_roundg (s.size - ks)
          case rel => exact ⟨ks, l, by omega, rfl, by omega, HNX, HO5, KA5, B5⟩
          case measure => omega
        · have HNX := Lib.hid (show scanR s ks (l ++ [nlT i]) = RR by rw [← HSC.out, lineT_yes heb])
          have HE2 := refends_any ao cap l (w2.alloc (.cells #[.int .i64 (ks : Int), .bool true, .int .i64 0] 42)) HRW.out (by omega)
          rw [heb] at HE2
          have HE3 := Lib.hid HE2
          clear HE HE2 heb hrow HSC
          go_wp2_with fail
          refine HE3.out.mono ?_
          rintro x w3 ⟨rfl, bb⟩
          have B5 := Lib.hid (B4.out.trans (bb.mono B4.out.size))
          have KA5 := Lib.hid (KA4.out.below bb)
          have HO5 := Lib.hid (HO4.out.kept bb)
          have KS5 := Lib.hid (KS4.out.below bb)
          obtain ⟨x0, x1, x2⟩ := cell3 KS5.out
          have hbw := B5.out.size
          have hsz4 : w.heap.size < w3.heap.size := KA5.out.lt
          clear bb HE3
          go_wp2_with (at_builtin; refine wpList_append_own_at _ rfl _ _ 22 rfl (w.heap.size + 1) 39 i0 (.agg #[.int .i64 0, .string ⟨#[]⟩, .int .i64 0]) 3 32 Try.underlying22 hi0 hz0 hz1 hz2 rfl (by decide) (.slice ao l.length cap) l.length (tkC l) rfl (World.ownsRow.alloc HO5.out _) ⟨w3.heap.size, 0, none⟩ 1 1 [.int .i64 6, .string ⟨#[10]⟩, .int .i64 (i : Int)] rfl rfl ?c1 ?c2 ?c3 ?c4 ?c5 ?_)
          try case c1 => exact cell_new3 _ _ _ _ _
          case c2 => simp [Value.oneCell']
          case c3 => unfold maxLen; omega
          case c4 => omega
          case c5 => simp; omega
          intro v2 wn hown1 hgrow _ _
          have hpush := push_all (t := nlT i) rfl (Nat.le_succ _) HO5.out B5.out hown1 hgrow
          have HO8 := Lib.hid hpush.1
          have B8 := Lib.hid hpush.2.1
          have KA8 := Lib.hid (hpush.2.2 _ _ _ KA5.out (own_not HO5.out (.inl (Nat.lt_succ_self _))))
          have KS8 := hpush.2.2 _ _ _ KS5.out HSB.out
          clear x0 x1 x2
          obtain ⟨x0, x1, x2⟩ := cell3 KS8
          clear hpush hown1 hgrow
          go_wp2_with fail
          go_roundg (s.size - ks)
          case rel => exact ⟨ks, _, by omega, rfl, by rw [List.length_append]; show l.length + 1 ≤ 2 * ks; omega, HNX, HO8, KA8, B8⟩
          case measure => omega
    · obtain rfl : i = s.size := by omega
      have HRR := Lib.hid (show RR = closeT s l by rw [← Hsc.out]; exact scanR_end (Nat.le_refl _))
      obtain ⟨ao, cap, hv, hrow⟩ := own_row HO.out
      subst hv
      have HE2 := refends_any ao cap l wr hrow (by omega)
      clear hrow
      cases heb : endsT l <;> rw [heb] at HE2 <;> have HE3 := Lib.hid HE2 <;> clear HE2
      · have HRS := Lib.hid (show RR = if 1500 < (l ++ [(⟨0, ⟨#[]⟩, s.size⟩ : Tk)]).length then ⟨[], 0, 7⟩ else ⟨l ++ [⟨0, ⟨#[]⟩, s.size⟩], 0, 0⟩ by rw [HRR.out]; unfold closeT; rw [lineT_not heb])
        clear heb
        go_wp2_with fail
        refine HE3.out.mono ?_
        rintro x w3 ⟨rfl, bb⟩
        have B5 := Lib.hid (BR.out.trans (bb.mono BR.out.size))
        have KA5 := Lib.hid (KA.out.below bb)
        have HO5 := Lib.hid (HO.out.kept bb)
        have hbw := B5.out.size
        have hsz4 : w.heap.size < w3.heap.size := KA5.out.lt
        clear bb HE3
        go_wp2_with (at_builtin; refine wpList_append_own_at _ rfl _ _ 22 rfl (w.heap.size + 1) 39 i0 (.agg #[.int .i64 0, .string ⟨#[]⟩, .int .i64 0]) 3 32 Try.underlying22 hi0 hz0 hz1 hz2 rfl (by decide) (.slice ao l.length cap) l.length (tkC l) rfl (World.ownsRow.alloc HO5.out _) ⟨w3.heap.size, 0, none⟩ 1 1 [.int .i64 0, .string ⟨#[]⟩, .int .i64 (s.size : Int)] rfl rfl ?c1 ?c2 ?c3 ?c4 ?c5 ?_)
        try case c1 => exact cell_new3 _ _ _ _ _
        case c2 => simp [Value.oneCell']
        case c3 => unfold maxLen; omega
        case c4 => omega
        case c5 => simp; omega
        intro v2 wn hown1 hgrow _ _
        have hpush := push_all (l := l) (t := ⟨0, ⟨#[]⟩, s.size⟩) rfl (Nat.le_succ _) HO5.out B5.out hown1 hgrow
        have hll3 : (l ++ [(⟨0, ⟨#[]⟩, s.size⟩ : Tk)]).length = l.length + 1 := by simp
        obtain ⟨ao2, cap2, hv2, -⟩ := own_row hpush.1
        rw [hll3] at hv2
        subst hv2
        have HO8 := Lib.hid hpush.1
        have B8 := Lib.hid hpush.2.1
        have KA8 := Lib.hid (hpush.2.2 _ _ _ KA5.out (own_not HO5.out (.inl (Nat.lt_succ_self _))))
        clear hpush hown1 hgrow
        have H27 := HRS.out
        rw [hll3] at H27
        by_cases hbig : 1500 < l.length + 1
        · rw [if_pos hbig] at H27
          have HRZ := Lib.hid H27
          have hbI : (1500 : Int) < (l.length : Int) + 1 := by omega
          clear H27
          obtain ⟨e0, e1, e2⟩ := cell3 KA8.out
          obtain ⟨g0, g1, g2⟩ := set3_cells KA8.out (.slice none 0 0) (.int .i64 0) (.int .i64 7)
          have fr0 := KA8.out.free 0
          have fr1 := KA8.out.free 1
          have fr2 := KA8.out.free 2
          go_wp2_with fail
          try clear e0 e1 e2
          refine bodyPost_ret (v := .agg #[.slice none 0 0, .int .i64 0, .int .i64 7]) (by simp [results, Try.results5, go_sem, g0, g1, g2]) rfl ⟨_, by rw [HR.out, HRZ.out], by rw [HR.out, HRZ.out]; exact own_nil _ _, (set3_below B8.out _ _ _)⟩
        · rw [if_neg hbig] at H27
          have HRZ := Lib.hid H27
          have hbI : ¬ (1500 : Int) < (l.length : Int) + 1 := by omega
          clear H27
          obtain ⟨e0, e1, e2⟩ := cell3 KA8.out
          obtain ⟨g0, g1, g2⟩ := set3_cells KA8.out (.slice ao2 (l.length + 1) cap2) (.int .i64 0) (.int .i64 0)
          have fr0 := KA8.out.free 0
          have fr1 := KA8.out.free 1
          have fr2 := KA8.out.free 2
          go_wp2_with fail
          try clear e0 e1 e2
          refine bodyPost_ret (v := .agg #[.slice ao2 (l.length + 1) cap2, .int .i64 0, .int .i64 0]) (by simp [results, Try.results5, go_sem, g0, g1, g2]) rfl ⟨_, by rw [HR.out, HRZ.out], by rw [HR.out, HRZ.out]; exact (own_set3 HO8.out (Nat.lt_succ_self _) _ _ _).lower (Nat.le_succ _), (set3_below B8.out _ _ _)⟩
      · have HRS := Lib.hid (show RR = if 1500 < ((l ++ [nlT s.size]) ++ [(⟨0, ⟨#[]⟩, s.size⟩ : Tk)]).length then ⟨[], 0, 7⟩ else ⟨(l ++ [nlT s.size]) ++ [⟨0, ⟨#[]⟩, s.size⟩], 0, 0⟩ by rw [HRR.out]; unfold closeT; rw [lineT_yes heb])
        clear heb
        go_wp2_with fail
        refine HE3.out.mono ?_
        rintro x w3 ⟨rfl, bb⟩
        have B4 := Lib.hid (BR.out.trans (bb.mono BR.out.size))
        have KA4 := Lib.hid (KA.out.below bb)
        have HO4 := Lib.hid (HO.out.kept bb)
        have hbw := B4.out.size
        have hsz4 : w.heap.size < w3.heap.size := KA4.out.lt
        clear bb HE3
        go_wp2_with (at_builtin; refine wpList_append_own_at _ rfl _ _ 22 rfl (w.heap.size + 1) 39 i0 (.agg #[.int .i64 0, .string ⟨#[]⟩, .int .i64 0]) 3 32 Try.underlying22 hi0 hz0 hz1 hz2 rfl (by decide) (.slice ao l.length cap) l.length (tkC l) rfl (World.ownsRow.alloc HO4.out _) ⟨w3.heap.size, 0, none⟩ 1 1 [.int .i64 6, .string ⟨#[10]⟩, .int .i64 (s.size : Int)] rfl rfl ?c1 ?c2 ?c3 ?c4 ?c5 ?_)
        try case c1 => exact cell_new3 _ _ _ _ _
        case c2 => simp [Value.oneCell']
        case c3 => unfold maxLen; omega
        case c4 => omega
        case c5 => simp; omega
        intro v6 w6 hown1 hgrow _ _
        have hpush := push_all (t := nlT s.size) rfl (Nat.le_succ _) HO4.out B4.out hown1 hgrow
        have HO5 := Lib.hid hpush.1
        have B5 := Lib.hid hpush.2.1
        have KA5 := Lib.hid (hpush.2.2 _ _ _ KA4.out (own_not HO4.out (.inl (Nat.lt_succ_self _))))
        have hbw2 := B5.out.size
        have hsz5 : w.heap.size < w6.heap.size := KA5.out.lt
        have hl2 : (l ++ [nlT s.size]).length = l.length + 1 := by rw [List.length_append]; rfl
        have HOL := HO5.out
        unfold Own at HOL
        rw [hl2] at HOL
        have HOLL := Lib.hid HOL
        clear hpush hown1 hgrow HO4 B4 KA4 HOL
        go_wp2_with (at_builtin; refine wpList_append_own_at _ rfl _ _ 22 rfl (w.heap.size + 1) 39 i0 (.agg #[.int .i64 0, .string ⟨#[]⟩, .int .i64 0]) 3 32 Try.underlying22 hi0 hz0 hz1 hz2 rfl (by decide) v6 (l.length + 1) (tkC (l ++ [nlT s.size])) rfl (World.ownsRow.alloc HOLL.out _) ⟨w6.heap.size, 0, none⟩ 1 1 [.int .i64 0, .string ⟨#[]⟩, .int .i64 (s.size : Int)] rfl rfl ?c1 ?c2 ?c3 ?c4 ?c5 ?_)
        try case c1 => exact cell_new3 _ _ _ _ _
        case c2 => simp [Value.oneCell']
        case c3 => unfold maxLen; omega
        case c4 => omega
        case c5 => simp; omega
        intro v2 wn hown1 hgrow _ _
        have hpush := push_all (l := (l ++ [nlT s.size])) (t := ⟨0, ⟨#[]⟩, s.size⟩) (by rw [hl2]) (Nat.le_succ _) HO5.out B5.out hown1 hgrow
        have hll3 : ((l ++ [nlT s.size]) ++ [(⟨0, ⟨#[]⟩, s.size⟩ : Tk)]).length = l.length + 2 := by simp
        obtain ⟨ao2, cap2, hv2, -⟩ := own_row hpush.1
        rw [hll3] at hv2
        subst hv2
        have HO8 := Lib.hid hpush.1
        have B8 := Lib.hid hpush.2.1
        have KA8 := Lib.hid (hpush.2.2 _ _ _ KA5.out (own_not HO5.out (.inl (Nat.lt_succ_self _))))
        clear hpush hown1 hgrow
        have H27 := HRS.out
        rw [hll3] at H27
        by_cases hbig : 1500 < l.length + 2
        · rw [if_pos hbig] at H27
          have HRZ := Lib.hid H27
          have hbI : (1500 : Int) < (l.length : Int) + 1 + 1 := by omega
          clear H27
          obtain ⟨e0, e1, e2⟩ := cell3 KA8.out
          obtain ⟨g0, g1, g2⟩ := set3_cells KA8.out (.slice none 0 0) (.int .i64 0) (.int .i64 7)
          have fr0 := KA8.out.free 0
          have fr1 := KA8.out.free 1
          have fr2 := KA8.out.free 2
          go_wp2_with fail
          try clear e0 e1 e2
          refine bodyPost_ret (v := .agg #[.slice none 0 0, .int .i64 0, .int .i64 7]) (by simp [results, Try.results5, go_sem, g0, g1, g2]) rfl ⟨_, by rw [HR.out, HRZ.out], by rw [HR.out, HRZ.out]; exact own_nil _ _, (set3_below B8.out _ _ _)⟩
        · rw [if_neg hbig] at H27
          have HRZ := Lib.hid H27
          have hbI : ¬ (1500 : Int) < (l.length : Int) + 1 + 1 := by omega
          clear H27
          obtain ⟨e0, e1, e2⟩ := cell3 KA8.out
          obtain ⟨g0, g1, g2⟩ := set3_cells KA8.out (.slice ao2 (l.length + 2) cap2) (.int .i64 0) (.int .i64 0)
          have fr0 := KA8.out.free 0
          have fr1 := KA8.out.free 1
          have fr2 := KA8.out.free 2
          go_wp2_with fail
          try clear e0 e1 e2
          refine bodyPost_ret (v := .agg #[.slice ao2 (l.length + 2) cap2, .int .i64 0, .int .i64 0]) (by simp [results, Try.results5, go_sem, g0, g1, g2]) rfl ⟨_, by rw [HR.out, HRZ.out], by rw [HR.out, HRZ.out]; exact (own_set3 HO8.out (Nat.lt_succ_self _) _ _ _).lower (Nat.le_succ _), (set3_below B8.out _ _ _)⟩
theorem refscan_any (s : ByteArray) (w : World) (hs : s.size ≤ 4010) : Calls Try.prog 5 #[.string s] w fun e w' => ResAt w w' e (scanT s) := by
  by_cases hm : 4000 < s.size
  · exact refscan_many s w hs hm
  · by_cases hp : spoil s = -1
    · exact refscan_good s w (by omega) hp
    · exact refscan_spoilt s w (by omega) hp
end Go.Proofs.Ytjhgibdebcapfaa
