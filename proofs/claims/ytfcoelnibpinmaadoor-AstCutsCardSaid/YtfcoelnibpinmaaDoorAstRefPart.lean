/- The reference's Part. -/
import Derived.Test.YtfcoelnibpinmaaDoorAstRefDeep
namespace Go.Proofs.YtfcoelnibpinmaaDoor
open Go.RowKit

theorem own_below {w w' : World} {base e s : Nat} {v : Value} {n : Nat} {xs : List Value} (h : w.ownsRow base e s v n xs) (hb : Below w.heap.size w w') : w'.ownsRow base e s v n xs := by
  obtain ⟨h1, h2 | ⟨g, cap, cur, e1, hg, hh, r⟩⟩ := h
  · exact ⟨h1, .inl h2⟩
  · exact ⟨h1, .inr ⟨g, cap, cur, e1, hg, by rw [hb.block g (Array.getElem?_eq_some_iff.1 hh).1]; exact hh, r⟩⟩
theorem own_cells {w : World} {base : Nat} {e g n cap : Nat} {xs : List Value} (h : w.ownsRow base e 1 (.slice (some ⟨g, 0, none⟩) n cap) n xs) : ∀ (j : Nat) (u : Value), xs[j]? = some u → w.cell? ((⟨g, 0, none⟩ : Addr).add j) = some u :=
  h.cells rfl
theorem own_one (w : World) (x : Value) (t : TypeId) : (w.alloc (.cells #[x] t)).ownsRow w.heap.size t 1 (.slice (some ⟨w.heap.size, 0, none⟩) 1 1) 1 [x] :=
  ⟨rfl, .inr ⟨w.heap.size, 1, #[x], rfl, Nat.le_refl _, heap_alloc_new w _, Nat.le_refl _, by decide, rfl, rfl⟩⟩
theorem IV_one (l : List Nat) : ∀ u ∈ IV l, u.oneCell' = true := by
  intro u hu
  obtain ⟨j, _, rfl⟩ := List.mem_map.1 hu
  rfl
theorem IV_append (l m : List Nat) : IV l ++ IV m = IV (l ++ m) := by simp [IV]
theorem IV_length (l : List Nat) : (IV l).length = l.length := by simp [IV]
set_option maxHeartbeats 8000000 in
set_option maxRecDepth 100000 in
theorem refpart_any (ns : List Nd) (tp : TreeP ns) (w0 : World) (b off cap : Nat) (hb : b < w0.heap.size) (hc : ∀ i (h : i < ns.length), NdAt w0 b (off + i * 4) ns[i]) (hk : ∀ n ∈ ns, n.kids.length ≤ 2000) : ∀ (k : Nat), k < ns.length → ∀ (w : World), Below w0.heap.size w0 w →
    Calls Tryd.prog 26 #[.slice (some ⟨b, off, none⟩) ns.length cap, .int .i64 (k : Int)] w fun e w' => (∃ v, e = .returned v ∧ w'.ownsRow w.heap.size 3 1 v (part ns k).length (IV (part ns k))) ∧ Below w.heap.size w w' := by
  intro k
  induction k using Nat.strongRecOn with
  | _ k ih =>
  intro hkL w B
  obtain ⟨i0, hi, hz0, hz1, hz2⟩ := info_parts info_int
  have hpr := part_rec ns k (kids_in tp k)
  have hpl := part_len tp hkL
  have IH := Lib.hid ih
  have Hin := Lib.hid (kids_in tp k)
  have Htp := Lib.hid tp
  obtain ⟨nd, hnd⟩ : ∃ nd, ns[k] = nd := ⟨_, rfl⟩
  have hda := hc k hkL
  have hkk := hk _ (List.getElem_mem hkL)
  rw [hnd] at hda hkk
  have hnd2 : kidsAt ns k = nd.kids := by rw [kidsAt_get hkL, hnd]
  rw [hnd2] at hpr
  rw [hpr, List.length_cons] at hpl
  have Hnd := Lib.hid hnd2
  have Hpr := Lib.hid hpr
  obtain ⟨L, hL⟩ : ∃ L, ns.length = L := ⟨_, rfl⟩
  have HL := Lib.hid hL
  rw [hL] at hkL IH ⊢
  obtain ⟨kd, tx, ks, pl⟩ := nd
  have Hda := Lib.hid hda
  obtain ⟨-, -, ⟨ka, kc, d2, d3, hrow⟩, -⟩ := hda
  simp only at d2 d3 hkk Hnd Hpr hpl
  have hs0 := B.size
  have Hrow := Lib.hid (hrow.below B)
  have d2' : w.cell? ⟨b, off + k * 4 + 2, none⟩ = some (.slice ka ks.length kc) := by rw [B.cell (p := ⟨b, off + k * 4 + 2, none⟩) hb]; exact d2
  have HB := Lib.hid B
  have hbw : b < w.heap.size := Nat.lt_of_lt_of_le hb hs0
  have O0 := Lib.hid (own_one w (.int .i64 (k : Int)) 3)
  have B0 := Lib.hid (show Below w.heap.size w (w.alloc (.cells #[.int .i64 (k : Int)] 3)) from (Below.refl _ _).alloc (Nat.le_refl _) _)
  have Hpl := Lib.hid hpl
  clear hnd hnd2 hpr ih tp hc hk hL hrow B d2 hpl hs0
  go_enter Tryd.func26, Tryd.ntmps26
  go_wp2_with fail
  go_loopw [5, 16] (fun vo p wr => ∃ q : Nat, q ≤ ks.length ∧ p = .int .i64 q ∧ Hid (wr.ownsRow w.heap.size 3 1 vo (1 + ((ks.take q).flatMap fun k => part ns k.toNat).length) (IV (k :: (ks.take q).flatMap fun k => part ns k.toNat))) ∧ Hid (Below w.heap.size w wr)) (fun _ p _ => ks.length - (intOf p).toNat)
  case atStart => exact ⟨0, Nat.zero_le _, rfl, O0, B0⟩
  case round =>
    clear O0 B0 d2'
    obtain ⟨q, hq, rfl, Hown, HB1⟩ := hrel
    by_cases hql : q < ks.length
    · obtain ⟨kb, ko, rfl, hkb, hkc⟩ := Hrow.out.cells (by omega)
      have hcell : wr.cell? ⟨kb, ko + q, none⟩ = some (.int .i64 (ks.getD q 0)) := by rw [HB1.out.cell (p := ⟨kb, ko + q, none⟩) hkb]; exact hkc q hql
      clear hkc
      have hg : ks.getD q 0 = ks[q] := by rw [List.getD_eq_getElem?_getD, List.getElem?_eq_getElem hql]; rfl
      rw [hg] at hcell
      have hin := Hin.out ks[q] (by rw [Hnd.out]; exact List.getElem_mem hql)
      have hts : ks.take (q + 1) = ks.take q ++ [ks[q]] := List.take_succ_eq_append_getElem hql
      have hall : ks = ks.take (q + 1) ++ ks.drop (q + 1) := (List.take_append_drop _ _).symm
      obtain ⟨ci, hci⟩ : ∃ ci, ks[q] = ci := ⟨_, rfl⟩
      rw [hci] at hcell hin hts
      obtain ⟨c, rfl⟩ : ∃ c : Nat, ci = (c : Int) := ⟨ci.toNat, by omega⟩
      have hcL : c < ns.length := by rw [HL.out]; omega
      have hfl : ((ks.take (q + 1)).flatMap fun k => part ns k.toNat) = ((ks.take q).flatMap fun k => part ns k.toNat) ++ part ns c := by
        rw [hts, List.flatMap_append, List.flatMap_cons, List.flatMap_nil, List.append_nil, Int.toNat_natCast]
      have hpl2 := Hpl.out
      rw [hall, List.flatMap_append, hfl, List.length_append, List.length_append] at hpl2
      have Hfl := Lib.hid hfl
      have Hit := Lib.hid (IH.out c (by omega) (by omega) wr (HB.out.trans (HB1.out.mono HB.out.size)))
      have hpp := part_pos Htp.out c
      obtain ⟨n, hn⟩ : ∃ n, ((ks.take q).flatMap fun k => part ns k.toNat).length = n := ⟨_, rfl⟩
      have Hn := Lib.hid hn
      rw [hn] at Hown hpl2
      clear hg hci hts hin hall hfl hn
      go_wp2_with fail
      refine Hit.out.mono ?_
      rintro e w2 ⟨⟨v2, rfl, o2⟩, b2⟩
      obtain ⟨g2, c2, rfl⟩ : ∃ g2 c2, v2 = .slice (some ⟨g2, 0, none⟩) (part ns c).length c2 := by
        rcases o2.2 with ⟨_, h⟩ | ⟨g, cap, cur, e, _⟩
        · omega
        · exact ⟨g, cap, e⟩
      have O2 := Lib.hid o2
      have O1 := Lib.hid (own_below Hown.out b2)
      have B2 := Lib.hid (HB1.out.trans (b2.mono HB1.out.size))
      clear o2 b2 hcell
      go_wp2_with (at_builtin; refine wpList_append_own_at _ rfl _ _ 35 rfl w.heap.size 3 i0 (.int .i64 0) 1 8 Tryd.underlying35 hi hz0 hz1 hz2 rfl (by decide) u5 (1 + n) (IV (k :: (ks.take q).flatMap fun k => part ns k.toNat)) rfl O1.out ⟨g2, 0, none⟩ (part ns c).length c2 (IV (part ns c)) rfl ?c1 ?c2 ?c3 ?c4 ?c5 ?c6 ?_)
      case c1 => rw [IV_length]; omega
      case c2 => exact own_cells O2.out
      case c3 => exact IV_one _
      case c4 => unfold maxLen; omega
      case c5 => omega
      case c6 => exact B2.out.size
      intro v' w3 hown3 hgrow _ _
      have O3 := Lib.hid (show w3.ownsRow w.heap.size 3 1 v' (1 + ((ks.take (q + 1)).flatMap fun k => part ns k.toNat).length) (IV (k :: (ks.take (q + 1)).flatMap fun k => part ns k.toNat)) by
        rw [IV_append, List.cons_append, ← Hfl.out] at hown3
        rw [Hfl.out, List.length_append, Hn.out, ← Nat.add_assoc, ← Hfl.out]
        exact hown3)
      have B3 := Lib.hid (B2.out.grown hgrow B2.out.size (fun g hgk => (O1.out.lt g hgk).1))
      clear hown3 hgrow
      go_wp2_with fail
      go_roundw
      case rel => exact ⟨q + 1, by omega, by go_num, O3, B3⟩
      case measure => simp [intOf]; omega
    · obtain rfl : q = ks.length := by omega
      have Hres := Lib.hid (show wr.ownsRow w.heap.size 3 1 u5 (part ns k).length (IV (part ns k)) by
        have h := Hown.out
        rw [List.take_length, ← Hpr.out] at h
        have e : 1 + (ks.flatMap fun k => part ns k.toNat).length = (part ns k).length := by rw [Hpr.out, List.length_cons]; omega
        rw [e] at h
        exact h)
      clear Hown
      go_wp2_with fail
      go_ret
      exact ⟨⟨_, rfl, Hres.out⟩, HB1.out⟩
end Go.Proofs.YtfcoelnibpinmaaDoor
