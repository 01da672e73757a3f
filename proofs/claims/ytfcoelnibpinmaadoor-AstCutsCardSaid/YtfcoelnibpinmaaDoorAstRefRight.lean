/- The reference's Right. -/
import Derived.Test.YtfcoelnibpinmaaDoorAstRight
import Derived.Maps.AppendAt
import Derived.Laws.AppendOwn
namespace Go.Proofs.YtfcoelnibpinmaaDoor
open Go.RowKit

theorem info_int : (Tryd.prog.info? 3).map (fun i => (i.zero, i.size, i.bytes)) = some (some (.int .i64 0), 1, 8) := by kernel_rfl
theorem info_parts {t : TypeId} {z : Value} {s b : Nat} (h : (Tryd.prog.info? t).map (fun i => (i.zero, i.size, i.bytes)) = some (some z, s, b)) : ∃ i, Tryd.prog.info? t = some i ∧ i.zero = some z ∧ i.size = s ∧ i.bytes = b := by
  obtain ⟨i, hi, hz⟩ := Option.map_eq_some_iff.1 h
  simp only [Prod.mk.injEq] at hz
  exact ⟨i, hi, hz.1, hz.2.1, hz.2.2⟩
theorem own_push {w0 wr w2 : World} {vo : Value} {n : Nat} {xs : List Value} {x : Value} (hown : wr.ownsRow w0.heap.size 3 1 vo n xs) (hbl : Below w0.heap.size w0 wr)
    (hg : (wr.alloc (.cells #[x] 3)).grownBy w2 vo.ownBlock) : Below w0.heap.size w0 w2 :=
  (hbl.alloc hbl.size _).grown hg (by have := hbl.size; simp; omega) (fun k hk => (hown.lt k hk).1)
theorem cell_new1 (w : World) (x : Value) (t : TypeId) : ∀ (j : Nat) (u : Value), [x][j]? = some u → (w.alloc (.cells #[x] t)).cell? ((⟨w.heap.size, 0, none⟩ : Addr).add j) = some u := by
  intro j u hu
  cases j with
  | zero =>
    simp at hu
    subst hu
    exact World.cell?_alloc_at _ _ _ _ rfl
  | succ j => simp at hu
/-- A row that counts how often a place is named. -/
def Cnt (w : World) (g L : Nat) (d : List Int) : Prop := ∃ cur, BlockAt w g cur 3 ∧ L ≤ cur.size ∧ ∀ j, j < L → cur[j]? = some (.int .i64 (List.count ((j : Nat) : Int) d))
theorem Cnt.below {w w' : World} {g L : Nat} {d : List Int} (h : Cnt w g L d) (hb : Below w.heap.size w w') : Cnt w' g L d := by
  obtain ⟨cur, h1, h2, h3⟩ := h
  exact ⟨cur, h1.below hb, h2, h3⟩
theorem Cnt.cell {w : World} {g L : Nat} {d : List Int} (h : Cnt w g L d) {j : Nat} (hj : j < L) : w.cell? ⟨g, j, none⟩ = some (.int .i64 (List.count ((j : Nat) : Int) d)) := by
  obtain ⟨cur, h1, h2, h3⟩ := h
  rw [h1.cell]
  exact h3 j hj
theorem Cnt.set {w : World} {g L : Nat} {d : List Int} (h : Cnt w g L d) {m : Nat} (hm : m < L) : Cnt (w.setCell ⟨g, m, none⟩ (.int .i64 ((List.count ((m : Nat) : Int) d : Nat) + 1))) g L (d ++ [((m : Nat) : Int)]) := by
  obtain ⟨cur, h1, h2, h3⟩ := h
  refine ⟨_, h1.set m _, by simpa using h2, fun j hj => ?_⟩
  rw [List.count_append]
  by_cases he : m = j
  · subst he
    rw [Array.getElem?_setIfInBounds_self_of_lt (by omega)]
    simp
  · rw [Array.getElem?_setIfInBounds_ne he, h3 j hj]
    have : List.count ((j : Nat) : Int) [((m : Nat) : Int)] = 0 := by
      rw [List.count_eq_zero]
      simp
      omega
    rw [this, Nat.add_zero]
theorem Cnt.free {w : World} {g L : Nat} {d : List Int} (h : Cnt w g L d) (k : Nat) : w.frozen? ⟨g, k, none⟩ = false := h.choose_spec.1.free k
theorem Cnt.lt {w : World} {g L : Nat} {d : List Int} (h : Cnt w g L d) : g < w.heap.size := h.choose_spec.1.lt
theorem own_cnt {w : World} {base n : Nat} {v : Value} (h : w.ownsRow base 3 1 v n (List.replicate n (.int .i64 0))) (hn : 0 < n) : ∃ g cap, v = .slice (some ⟨g, 0, none⟩) n cap ∧ base ≤ g ∧ Cnt w g n [] := by
  obtain ⟨h1, ⟨_, h2⟩ | ⟨g, cap, cur, h2, h3, h4, h5, h6, h7, h8⟩⟩ := h
  · omega
  · refine ⟨g, cap, h2, h3, cur, h4, by omega, fun j hj => ?_⟩
    have e : cur[j]? = (cur.toList.take (n * 1))[j]? := by
      rw [List.getElem?_take_of_lt (by omega)]
      simp
    rw [e, h8]
    simp [hj]
theorem kidsTo_len {ns : List Nd} (hk : ∀ n ∈ ns, n.kids.length ≤ 2000) : ∀ i, i ≤ ns.length → (kidsTo ns i).length ≤ i * 2000
  | 0, _ => by rw [kidsTo_zero]; simp
  | i + 1, h => by
    rw [kidsTo_succ (show i < ns.length from h), List.length_append]
    have h1 := kidsTo_len hk i (by omega)
    have h2 := hk _ (List.getElem_mem (show i < ns.length from h))
    omega
/-- Each place but the last is named once. -/
theorem tree_counts {ns : List Nd} (h1 : 0 < ns.length) (h2 : ns.length ≤ 2000) (h3 : ∀ i (h : i < ns.length), NodeOk ns[i] i) (h4 : ∀ j, j + 1 < ns.length → List.count ((j : Nat) : Int) (kidsTo ns ns.length) = 1) : TreeP ns := by
  refine ⟨h1, h2, h3, ?_, fun j hj => ?_⟩
  · rw [List.nodup_iff_count]
    intro a
    by_cases ha : a ∈ kidsTo ns ns.length
    · unfold kidsTo at ha
      rw [List.take_length] at ha
      obtain ⟨n, hn, hk⟩ := List.mem_flatMap.1 ha
      obtain ⟨i, hi, rfl⟩ := List.getElem_of_mem hn
      obtain ⟨b1, b2⟩ := (h3 i hi).2 a hk
      obtain ⟨m, rfl⟩ : ∃ m : Nat, a = (m : Int) := ⟨a.toNat, by omega⟩
      rw [h4 m (by omega)]
      exact Nat.le_refl _
    · rw [List.count_eq_zero.2 ha]
      omega
  · have := h4 j hj
    exact List.count_pos_iff.1 (by omega)
theorem tree_count {ns : List Nd} (h : TreeP ns) {j : Nat} (hj : j + 1 < ns.length) : List.count ((j : Nat) : Int) (kidsTo ns ns.length) = 1 := by
  rw [h.2.2.2.1.count, if_pos (h.2.2.2.2 j hj)]
set_option maxHeartbeats 16000000 in
set_option maxRecDepth 100000 in
theorem refright_any (ao : Option Addr) (cap : Nat) (ns : List Nd) (w : World) (hr : NRow w ao ns) (hk : ∀ n ∈ ns, n.kids.length ≤ 2000) (hl : ns.length ≤ 100000) :
    Calls Tryd.prog 9 #[.slice ao ns.length cap] w fun e w' => e = .returned (.bool (treeB ns)) ∧ Below w.heap.size w w' := by
  by_cases h0 : ns.length = 0
  · have Hn := Lib.hid (treeB_no (ns := ns) (fun h => by have := h.1; omega))
    rw [h0]
    clear hr hk hl
    go_enter Tryd.func9, Tryd.ntmps9
    go_wp2_with fail
    go_ret
    exact ⟨ret_bool Hn.out.symm, Below.refl _ _⟩
  by_cases h2 : 2000 < ns.length
  · have Hn := Lib.hid (treeB_no (ns := ns) (fun h => by have := h.2.1; omega))
    have hz : ((ns.length : Int) == 0) = false := by rw [beq_eq_false_iff_ne]; omega
    generalize ns.length = L at *
    clear hr hk hl
    go_enter Tryd.func9, Tryd.ntmps9
    go_wp2_with fail
    go_ret
    exact ⟨ret_bool Hn.out.symm, Below.refl _ _⟩
  obtain ⟨b, off, rfl, hlt, hc⟩ : ∃ b off, ao = some ⟨b, off, none⟩ ∧ b < w.heap.size ∧ ∀ i (h : i < ns.length), NdAt w b (off + i * 4) ns[i] := by
    rcases hr with h | h
    · rw [h] at h0; exact absurd rfl h0
    · exact h
  have hz : ((ns.length : Int) == 0) = false := by rw [beq_eq_false_iff_ne]; omega
  obtain ⟨L, hL⟩ : ∃ L, ns.length = L := ⟨_, rfl⟩
  have HL := Lib.hid hL
  have Hc := Lib.hid hc
  have Hk := Lib.hid hk
  rw [hL] at h0 h2 hz ⊢
  clear hr hc hk hl hL
  obtain ⟨i0, hi, hz0, hz1, hz2⟩ := info_parts info_int
  go_enter Tryd.func9, Tryd.ntmps9
  go_wp2_with fail
  go_loopw [3, 21] (fun vo i wr => ∃ k : Nat, k ≤ L ∧ i = .int .i64 k ∧ Hid (wr.ownsRow w.heap.size 3 1 vo k (List.replicate k (.int .i64 0))) ∧ Hid (Below w.heap.size w wr)) (fun _ i _ => L - (intOf i).toNat)
  case atStart => exact ⟨0, Nat.zero_le _, rfl, Lib.hid (World.ownsRow_made w #[] 0 (Nat.le_refl _) (by unfold maxLen; omega) rfl), Lib.hid ((Below.refl _ _).alloc (Nat.le_refl _) _)⟩
  case round =>
    obtain ⟨k, hk, rfl, hown, hbl⟩ := hrel
    by_cases hkl : k < L
    · have hown2 := Lib.hid (hown.out.alloc (.cells #[.int .i64 0] 3))
      go_wp2_with (at_builtin; refine wpList_append_own_at _ rfl _ _ 35 rfl w.heap.size 3 i0 (.int .i64 0) 1 8 Tryd.underlying35 hi hz0 hz1 hz2 rfl (by decide) u3 k (List.replicate k (.int .i64 0)) rfl hown2.out ⟨wr.heap.size, 0, none⟩ 1 1 [.int .i64 0] rfl ?c1 ?c2 ?c3 ?c4 ?c5 ?c6 ?_)
      case c1 => rfl
      case c2 => exact cell_new1 _ _ _
      case c3 =>
        intro u hu
        simp at hu
        subst hu
        rfl
      case c4 => unfold maxLen; omega
      case c5 => omega
      case c6 => have := hbl.out.size; simp; omega
      intro v' w2 hown3 hgrow _ hblk
      have hb2 := Lib.hid (own_push hown.out hbl.out hgrow)
      have ho2 := Lib.hid (show w2.ownsRow w.heap.size 3 1 v' (k + 1) (List.replicate (k + 1) (.int .i64 0)) by
        rw [List.replicate_succ']
        exact hown3)
      clear hown3 hgrow hblk
      go_wp2_with fail
      go_roundw
      case rel => exact ⟨k + 1, by omega, by go_num, ho2, hb2⟩
      case measure => simp [intOf]; omega
    · obtain rfl : k = L := by omega
      obtain ⟨g, cap2, rfl, hgb, hcn⟩ := own_cnt hown.out (by omega)
      have B := hbl.out
      have HcN := Lib.hid (show Cnt wr g k (kidsTo ns 0) by rw [kidsTo_zero]; exact hcn)
      clear hown hbl hcn
      go_wp2_with fail
      go_loopw [29] (fun i wr => ∃ m : Nat, m ≤ k ∧ i = .int .i64 m ∧ Hid (∀ j (h : j < ns.length), j < m → NodeOk ns[j] j) ∧ Hid (Cnt wr g k (kidsTo ns m)) ∧ Hid (Below w.heap.size w wr)) (fun i _ => k - (intOf i).toNat)
      case atStart => exact ⟨0, Nat.zero_le _, rfl, Lib.hid (fun j _ hj => absurd hj (Nat.not_lt_zero _)), HcN, Lib.hid B⟩
      case round =>
        clear B HcN
        generalize hLk : k = L at *
        obtain ⟨k, hk, rfl, Hseen, Ht, HB⟩ := hrel
        have ht := Ht.out
        have B := HB.out
        clear Ht HB
        by_cases hkl : k < L
        · skip
          obtain ⟨nd, hnd⟩ : ∃ nd, ns[k]'(by rw [HL.out]; exact hkl) = nd := ⟨_, rfl⟩
          have hda := Hc.out k (by rw [HL.out]; exact hkl)
          have hkk := Hk.out _ (List.getElem_mem (show k < ns.length by rw [HL.out]; exact hkl))
          rw [hnd] at hda hkk
          have Hnd := Lib.hid hnd
          clear hnd
          obtain ⟨kd, tx, ks, pl⟩ := nd
          have hdb := hda.below hlt B
          obtain ⟨d0, d1, ⟨ka, kc, d2, d3, -⟩, d5⟩ := hdb
          obtain ⟨-, -, ⟨ka2, kc2, e2, -, hrow⟩, -⟩ := hda
          have d2' := d2
          rw [B.cell (p := ⟨b, off + k * 4 + 2, none⟩) hlt, e2] at d2'
          obtain ⟨rfl, rfl⟩ : ka2 = ka ∧ kc2 = kc := by simpa using d2'
          have Hrow := Lib.hid hrow
          clear d2' e2 hrow
          simp only at d0 d1 d2 d3 d5 hkk
          rcases Hrow.out with hnil | ⟨kb, ko, hka, hkb, hkc0⟩
          · have Hnil := Lib.hid hnil
            clear hnil Hrow
            have b4 : Below wr.heap.size wr (wr.alloc (.cells #[.int .i64 kd, .string tx, .slice ka2 ks.length kc2, .int .i64 pl] 37)) := (Below.refl _ _).alloc (Nat.le_refl _) _
            have hn := BlockAt.new wr #[.int .i64 kd, .string tx, .slice ka2 ks.length kc2, .int .i64 pl] 37
            have ht := ht.below b4
            have B := B.trans (b4.mono B.size)
            obtain ⟨nb, enb⟩ : ∃ p, wr.heap.size = p := ⟨_, rfl⟩
            have c0 := hn.cell 0
            have c2 := hn.cell 2
            have c3 := hn.cell 3
            simp at c0 c2 c3
            clear b4
            have hno : ¬ (aloneB ⟨kd, tx, ks, pl⟩ = true) → treeB ns = false := fun h => treeB_no fun ht => by
              have h1 := (ht.2.2.1 k (by rw [HL.out]; exact hkl)).1
              rw [Hnd.out] at h1
              exact h h1
            have Hno := Lib.hid hno
            clear hno
            have ha : aloneB ⟨kd, tx, ks, pl⟩ = (decide (0 ≤ kd ∧ kd ≤ 32 ∧ 0 ≤ pl ∧ pl ≤ 4000) && kidsOk kd ks.length) := rfl
            have Ha := Lib.hid ha
            clear ha
            rcases Int.lt_or_le kd 0 with h1 | h1
            · have Hn := Lib.hid (Hno.out (by rw [Ha.out, decide_eq_false (by omega), Bool.false_and]; exact Bool.false_ne_true))
              clear ht
              go_wp2_with fail
              go_ret
              exact ⟨ret_bool Hn.out.symm, B⟩
            rcases Int.lt_or_le 32 kd with h2k | h2k
            · have Hn := Lib.hid (Hno.out (by rw [Ha.out, decide_eq_false (by omega), Bool.false_and]; exact Bool.false_ne_true))
              clear ht
              go_wp2_with fail
              go_ret
              exact ⟨ret_bool Hn.out.symm, B⟩
            rcases Int.lt_or_le pl 0 with h3 | h3
            · have Hn := Lib.hid (Hno.out (by rw [Ha.out, decide_eq_false (by omega), Bool.false_and]; exact Bool.false_ne_true))
              clear ht
              go_wp2_with fail
              go_ret
              exact ⟨ret_bool Hn.out.symm, B⟩
            rcases Int.lt_or_le 4000 pl with h4 | h4
            · have Hn := Lib.hid (Hno.out (by rw [Ha.out, decide_eq_false (by omega), Bool.false_and]; exact Bool.false_ne_true))
              clear ht
              go_wp2_with fail
              go_ret
              exact ⟨ret_bool Hn.out.symm, B⟩
            have HK := Lib.hid (fun (w : World) => kids_any kd ks.length w)
            go_wp2_with fail
            refine (HK.out _).mono ?_
            rintro e W1 ⟨rfl, bq⟩
            have hn := hn.below bq
            have ht := ht.below bq
            have B := B.trans (bq.mono B.size)
            clear bq HK d0 d1 d2 d5 c0 c2 c3
            cases hal : kidsOk kd ks.length
            · have Hn := Lib.hid (Hno.out (by rw [Ha.out, hal, Bool.and_false]; exact Bool.false_ne_true))
              clear ht hal
              go_wp2_with fail
              go_ret
              exact ⟨ret_bool Hn.out.symm, B⟩
            · have Hal := Lib.hid (show aloneB ⟨kd, tx, ks, pl⟩ = true by rw [Ha.out, hal, decide_eq_true ⟨h1, h2k, h3, h4⟩]; rfl)
              clear hal
              have d2 := hn.cell 2
              simp at d2
              have hn2 := hn.lt
              rw [enb] at hn d2 hn2
              go_wp2_with fail
              go_loopw [64] (fun p wr2 => ∃ q : Nat, q ≤ ks.length ∧ p = .int .i64 q ∧ Hid (∀ j (h : j < ks.length), j < q → 0 ≤ ks[j] ∧ ks[j] < (k : Int)) ∧ Hid (Cnt wr2 g L (kidsTo ns k ++ ks.take q)) ∧ Hid (Below w.heap.size w wr2)) (fun p _ => ks.length - (intOf p).toNat)
              case atStart =>
                refine ⟨0, Nat.zero_le _, rfl, Lib.hid (fun j _ hj => absurd hj (Nat.not_lt_zero _)), Lib.hid ?_, Lib.hid B⟩
                rw [List.take_zero, List.append_nil]; exact ht
              case round =>
                clear ht B hn d2 hn2
                obtain ⟨q, hq, rfl, Hin, Ht, HB⟩ := hrel
                have ht := Ht.out
                have B := HB.out
                clear Ht HB
                by_cases hql : q < ks.length
                · exfalso
                  have h9 := Hnil.out
                  rw [h9] at hql
                  exact absurd hql (by simp)
                · obtain rfl : q = ks.length := by omega
                  have hks : kidsTo ns (k + 1) = kidsTo ns k ++ ks := by
                    rw [kidsTo_succ (show k < ns.length by rw [HL.out]; exact hkl), Hnd.out]
                  rw [List.take_length, ← hks] at ht
                  have Hs := Lib.hid (show ∀ j (h : j < ns.length), j < k + 1 → NodeOk ns[j] j from fun j h hj => by
                    rcases Nat.lt_or_eq_of_le (Nat.le_of_lt_succ hj) with h4 | h4
                    · exact Hseen.out j h h4
                    · subst h4
                      rw [Hnd.out]
                      refine ⟨Hal.out, fun x hx => ?_⟩
                      obtain ⟨i, hi, rfl⟩ := List.getElem_of_mem hx
                      exact Hin.out i hi hi)
                  have Ht2 := Lib.hid ht
                  have B2 := Lib.hid B
                  clear ht hks
                  go_wp2_with fail
                  go_roundw
                  case rel => exact ⟨k + 1, by omega, by go_num, Hs, Ht2, B2⟩
                  case measure => simp [intOf]; omega
          · subst hka
            have Hkc0 := Lib.hid hkc0
            clear hkc0 Hrow
            have b4 : Below wr.heap.size wr (wr.alloc (.cells #[.int .i64 kd, .string tx, .slice (some ⟨kb, ko, none⟩) ks.length kc2, .int .i64 pl] 37)) := (Below.refl _ _).alloc (Nat.le_refl _) _
            have hn := BlockAt.new wr #[.int .i64 kd, .string tx, .slice (some ⟨kb, ko, none⟩) ks.length kc2, .int .i64 pl] 37
            have ht := ht.below b4
            have B := B.trans (b4.mono B.size)
            obtain ⟨nb, enb⟩ : ∃ p, wr.heap.size = p := ⟨_, rfl⟩
            have c0 := hn.cell 0
            have c2 := hn.cell 2
            have c3 := hn.cell 3
            simp at c0 c2 c3
            clear b4
            have hno : ¬ (aloneB ⟨kd, tx, ks, pl⟩ = true) → treeB ns = false := fun h => treeB_no fun ht => by
              have h1 := (ht.2.2.1 k (by rw [HL.out]; exact hkl)).1
              rw [Hnd.out] at h1
              exact h h1
            have Hno := Lib.hid hno
            clear hno
            have ha : aloneB ⟨kd, tx, ks, pl⟩ = (decide (0 ≤ kd ∧ kd ≤ 32 ∧ 0 ≤ pl ∧ pl ≤ 4000) && kidsOk kd ks.length) := rfl
            have Ha := Lib.hid ha
            clear ha
            rcases Int.lt_or_le kd 0 with h1 | h1
            · have Hn := Lib.hid (Hno.out (by rw [Ha.out, decide_eq_false (by omega), Bool.false_and]; exact Bool.false_ne_true))
              clear ht
              go_wp2_with fail
              go_ret
              exact ⟨ret_bool Hn.out.symm, B⟩
            rcases Int.lt_or_le 32 kd with h2k | h2k
            · have Hn := Lib.hid (Hno.out (by rw [Ha.out, decide_eq_false (by omega), Bool.false_and]; exact Bool.false_ne_true))
              clear ht
              go_wp2_with fail
              go_ret
              exact ⟨ret_bool Hn.out.symm, B⟩
            rcases Int.lt_or_le pl 0 with h3 | h3
            · have Hn := Lib.hid (Hno.out (by rw [Ha.out, decide_eq_false (by omega), Bool.false_and]; exact Bool.false_ne_true))
              clear ht
              go_wp2_with fail
              go_ret
              exact ⟨ret_bool Hn.out.symm, B⟩
            rcases Int.lt_or_le 4000 pl with h4 | h4
            · have Hn := Lib.hid (Hno.out (by rw [Ha.out, decide_eq_false (by omega), Bool.false_and]; exact Bool.false_ne_true))
              clear ht
              go_wp2_with fail
              go_ret
              exact ⟨ret_bool Hn.out.symm, B⟩
            have HK := Lib.hid (fun (w : World) => kids_any kd ks.length w)
            go_wp2_with fail
            refine (HK.out _).mono ?_
            rintro e W1 ⟨rfl, bq⟩
            have hn := hn.below bq
            have ht := ht.below bq
            have B := B.trans (bq.mono B.size)
            clear bq HK d0 d1 d2 d5 c0 c2 c3
            cases hal : kidsOk kd ks.length
            · have Hn := Lib.hid (Hno.out (by rw [Ha.out, hal, Bool.and_false]; exact Bool.false_ne_true))
              clear ht hal
              go_wp2_with fail
              go_ret
              exact ⟨ret_bool Hn.out.symm, B⟩
            · have Hal := Lib.hid (show aloneB ⟨kd, tx, ks, pl⟩ = true by rw [Ha.out, hal, decide_eq_true ⟨h1, h2k, h3, h4⟩]; rfl)
              clear hal
              have d2 := hn.cell 2
              simp at d2
              have hn2 := hn.lt
              rw [enb] at hn d2 hn2
              go_wp2_with fail
              go_loopw [64] (fun p wr2 => ∃ q : Nat, q ≤ ks.length ∧ p = .int .i64 q ∧ Hid (∀ j (h : j < ks.length), j < q → 0 ≤ ks[j] ∧ ks[j] < (k : Int)) ∧ Hid (Cnt wr2 g L (kidsTo ns k ++ ks.take q)) ∧ Hid (Below w.heap.size w wr2)) (fun p _ => ks.length - (intOf p).toNat)
              case atStart =>
                refine ⟨0, Nat.zero_le _, rfl, Lib.hid (fun j _ hj => absurd hj (Nat.not_lt_zero _)), Lib.hid ?_, Lib.hid B⟩
                rw [List.take_zero, List.append_nil]; exact ht
              case round =>
                clear ht B hn d2 hn2
                obtain ⟨q, hq, rfl, Hin, Ht, HB⟩ := hrel
                have ht := Ht.out
                have B := HB.out
                clear Ht HB
                by_cases hql : q < ks.length
                · have hkc := Hkc0.out
                  have hcell : wr.cell? ⟨kb, ko + q, none⟩ = some (.int .i64 (ks.getD q 0)) := by rw [B.cell (p := ⟨kb, ko + q, none⟩) hkb]; exact hkc q hql
                  have hg : ks.getD q 0 = ks[q] := by rw [List.getD_eq_getElem?_getD, List.getElem?_eq_getElem hql]; rfl
                  rw [hg] at hcell
                  obtain ⟨c, hc2⟩ : ∃ c, ks[q] = c := ⟨_, rfl⟩
                  rw [hc2] at hcell
                  have Hc2 := Lib.hid hc2
                  clear hkc hg hc2
                  have hno : ¬ (0 ≤ c ∧ c < (k : Int)) → treeB ns = false := fun h => treeB_no fun ht => by
                    have h1 := (ht.2.2.1 k (by rw [HL.out]; exact hkl)).2 c (by rw [Hnd.out, ← Hc2.out]; exact List.getElem_mem hql)
                    exact h h1
                  have Hno2 := Lib.hid hno
                  clear hno
                  rcases Int.lt_or_le c 0 with h5 | h5
                  · have Hn := Lib.hid (Hno2.out (by omega))
                    clear ht
                    go_wp2_with fail
                    go_ret
                    exact ⟨ret_bool Hn.out.symm, B⟩
                  rcases Int.lt_or_le c (k : Int) with h6 | h6
                  · obtain ⟨m, rfl⟩ : ∃ m : Nat, c = (m : Int) := ⟨c.toNat, by omega⟩
                    have hm : m < L := by omega
                    have tc := ht.cell hm
                    have hlen : List.count ((m : Nat) : Int) (kidsTo ns k ++ ks.take q) ≤ 8000000 := by
                      refine Nat.le_trans List.count_le_length ?_
                      rw [List.length_append, List.length_take]
                      have := kidsTo_len Hk.out k (by rw [HL.out]; omega)
                      have : k * 2000 ≤ 2000 * 2000 := Nat.mul_le_mul_right _ (by omega)
                      omega
                    have Hin3 := Lib.hid (show ∀ j (h : j < ks.length), j < q + 1 → 0 ≤ ks[j] ∧ ks[j] < (k : Int) from fun j h hj => by
                      rcases Nat.lt_or_eq_of_le (Nat.le_of_lt_succ hj) with h7 | h7
                      · exact Hin.out j h h7
                      · subst h7
                        rw [Hc2.out]
                        exact ⟨h5, h6⟩)
                    have ht2 := ht.set hm
                    have e9 : kidsTo ns k ++ ks.take (q + 1) = kidsTo ns k ++ ks.take q ++ [(m : Int)] := by rw [List.take_succ_eq_append_getElem hql, Hc2.out, ← List.append_assoc]
                    rw [← e9] at ht2
                    have tf := ht.free m
                    have tl := ht.lt
                    clear e9 ht Hno2
                    generalize List.count ((m : Nat) : Int) (kidsTo ns k ++ ks.take q) = cn at *
                    have Ht2 := Lib.hid ht2
                    have B2 := Lib.hid (B.setCell (p := ⟨g, m, none⟩) hgb (.int .i64 ((cn : Int) + 1)))
                    clear ht2
                    go_wp2_with fail
                    go_roundw
                    case rel => exact ⟨q + 1, by omega, by go_num, Hin3, Ht2, B2⟩
                    case measure => simp [intOf]; omega
                  · have Hn := Lib.hid (Hno2.out (by omega))
                    clear ht
                    go_wp2_with fail
                    go_ret
                    exact ⟨ret_bool Hn.out.symm, B⟩
                · obtain rfl : q = ks.length := by omega
                  have hks : kidsTo ns (k + 1) = kidsTo ns k ++ ks := by
                    rw [kidsTo_succ (show k < ns.length by rw [HL.out]; exact hkl), Hnd.out]
                  rw [List.take_length, ← hks] at ht
                  have Hs := Lib.hid (show ∀ j (h : j < ns.length), j < k + 1 → NodeOk ns[j] j from fun j h hj => by
                    rcases Nat.lt_or_eq_of_le (Nat.le_of_lt_succ hj) with h4 | h4
                    · exact Hseen.out j h h4
                    · subst h4
                      rw [Hnd.out]
                      refine ⟨Hal.out, fun x hx => ?_⟩
                      obtain ⟨i, hi, rfl⟩ := List.getElem_of_mem hx
                      exact Hin.out i hi hi)
                  have Ht2 := Lib.hid ht
                  have B2 := Lib.hid B
                  clear ht hks
                  go_wp2_with fail
                  go_roundw
                  case rel => exact ⟨k + 1, by omega, by go_num, Hs, Ht2, B2⟩
                  case measure => simp [intOf]; omega
        · obtain rfl : k = L := by omega
          go_wp2_with fail
          go_loopw [87] (fun i wr2 => ∃ m : Nat, m ≤ k ∧ i = .int .i64 m ∧ Hid (∀ j, j < m → j + 1 < k → List.count ((j : Nat) : Int) (kidsTo ns k) = 1) ∧ wr2 = wr) (fun i _ => k - (intOf i).toNat)
          case atStart => exact ⟨0, Nat.zero_le _, rfl, Lib.hid (fun j hj => absurd hj (Nat.not_lt_zero _)), rfl⟩
          case round =>
            obtain ⟨m, hm, rfl, Hall, rfl⟩ := hrel
            by_cases hml : m < k
            · have tc := ht.cell hml
              have hlen : List.count ((m : Nat) : Int) (kidsTo ns k) ≤ 8000000 := by
                refine Nat.le_trans List.count_le_length ?_
                have := kidsTo_len Hk.out k (by rw [HL.out]; omega)
                have : k * 2000 ≤ 2000 * 2000 := Nat.mul_le_mul_right _ (by omega)
                omega
              obtain ⟨cn, hcn⟩ : ∃ cn, List.count ((m : Nat) : Int) (kidsTo ns k) = cn := ⟨_, rfl⟩
              rw [hcn] at tc hlen
              have Hcn := Lib.hid hcn
              clear hcn
              by_cases hlast : m + 1 < k
              · by_cases h1c : cn = 1
                · subst h1c
                  have Hall2 := Lib.hid (show ∀ j, j < m + 1 → j + 1 < k → List.count ((j : Nat) : Int) (kidsTo ns k) = 1 from fun j hj h => by
                    rcases Nat.lt_or_eq_of_le (Nat.le_of_lt_succ hj) with h7 | h7
                    · exact Hall.out j h7 h
                    · rw [h7]; exact Hcn.out)
                  go_wp2_with fail
                  go_roundw
                  case rel => exact ⟨m + 1, by omega, by go_num, Hall2, by first | rfl | trivial⟩
                  case measure => simp [intOf]; omega
                · have Hn := Lib.hid (treeB_no (ns := ns) (fun h => by
                    have := tree_count h (j := m) (by rw [HL.out]; exact hlast)
                    rw [HL.out, Hcn.out] at this
                    exact h1c this))
                  have hz1 : ((cn : Int) == 1) = false := by rw [beq_eq_false_iff_ne]; omega
                  have hz2 : ((cn : Int) != 1) = true := by rw [bne, hz1]; rfl
                  go_wp2_with fail
                  go_ret
                  exact ⟨ret_bool Hn.out.symm, B⟩
              · have Hall2 := Lib.hid (show ∀ j, j < m + 1 → j + 1 < k → List.count ((j : Nat) : Int) (kidsTo ns k) = 1 from fun j hj h => Hall.out j (by omega) h)
                go_wp2_with fail
                go_roundw
                case rel => exact ⟨m + 1, by omega, by go_num, Hall2, by first | rfl | trivial⟩
                case measure => simp [intOf]; omega
            · obtain rfl : m = k := by omega
              have Hn := Lib.hid (treeB_yes (tree_counts (ns := ns) (by rw [HL.out]; omega) (by rw [HL.out]; omega) (fun i hi => Hseen.out i hi (by rw [HL.out] at hi; exact hi)) (fun j hj => by rw [HL.out] at hj ⊢; exact Hall.out j (by omega) hj)))
              go_wp2_with fail
              go_ret
              exact ⟨ret_bool Hn.out.symm, B⟩
end Go.Proofs.YtfcoelnibpinmaaDoor
