/- The reference's Add. -/
import Derived.Test.YtleiaghegokjkaaGreatDoorTypMade
import Derived.Test.YtleiaghegokjkaaGreatDoorTypAt
import Derived.Test.YtleiaghegokjkaaGreatDoorTypStart
namespace Go.Proofs.YtleiaghegokjkaaGreatDoor
open Go.RowKit
set_option linter.unusedSimpArgs false
set_option linter.unusedVariables false

/-- What Add gives: the arena, the place, the error. -/
def addT (l : List Ty) (t : Ty) : List Ty × Int × Int :=
  if 0 ≤ atT l t then (l, atT l t, 0) else if madeB l t = false then ([], 0, 1) else if l.length = 400 then ([], 0, 7) else (l ++ [t], (l.length : Int), 0)
theorem arow_zs {w : World} {b off : Nat} {l : List Ty} (h : ∀ i (h : i < l.length), TyAt w b (off + i * 5) l[i]) : ∀ n, n ≤ l.length → ∃ zs : List Tz, zs.map (·.t) = l.take n ∧ zs.length = n ∧ (∀ z ∈ zs, InZ w z) ∧ ∀ j u, (tzC zs)[j]? = some u → w.cell? ⟨b, off + j, none⟩ = some u
  | 0, _ => ⟨[], by simp, rfl, by simp, fun j u hu => by simp [tzC] at hu⟩
  | n + 1, hn => by
    obtain ⟨zs, h1, h2, h3, h4⟩ := arow_zs h n (by omega)
    obtain ⟨wo, wc, ko, kc, c0, c1, c2, c3, c4, q1, q2, q3⟩ := h n (by omega)
    refine ⟨zs ++ [⟨l[n], wo, wc, ko, kc⟩], ?_, by rw [List.length_append, h2]; rfl, fun z hz => ?_, fun j u hu => ?_⟩
    · rw [List.map_append, h1, List.take_add_one, List.getElem?_eq_getElem (by omega)]; rfl
    · rcases List.mem_append.1 hz with hz | hz
      · exact h3 z hz
      · rw [List.mem_singleton.1 hz]; exact ⟨q1, q2, q3⟩
    · rw [tzC_add] at hu
      have hl := tzC_len zs
      rw [h2] at hl
      by_cases hj : j < n * 5
      · rw [List.getElem?_append_left (by omega)] at hu
        exact h4 j u hu
      · rw [List.getElem?_append_right (by omega), hl] at hu
        obtain ⟨r, hr⟩ : ∃ r, j = n * 5 + r := ⟨j - n * 5, by omega⟩
        subst hr
        rw [show n * 5 + r - n * 5 = r by omega] at hu
        rw [← Nat.add_assoc]
        match r, hu with
        | 0, hu => simp [tzC1] at hu; rw [← hu]; exact c0
        | 1, hu => simp [tzC1] at hu; rw [← hu]; exact c1
        | 2, hu => simp [tzC1] at hu; rw [← hu]; exact c2
        | 3, hu => simp [tzC1] at hu; rw [← hu]; exact c3
        | 4, hu => simp [tzC1] at hu; rw [← hu]; exact c4
        | r + 5, hu => simp [tzC1] at hu
theorem addr_add (b o j : Nat) : (⟨b, o, none⟩ : Addr).add j = ⟨b, o + j, none⟩ := by unfold Addr.add; split <;> simp_all
theorem cell3A {w : World} {b : Nat} {a0 a1 a2 : Value} {T : TypeId} (h : BlockAt w b #[a0, a1, a2] T) :
    w.cell? ⟨b, 0, none⟩ = some a0 ∧ w.cell? ⟨b, 1, none⟩ = some a1 ∧ w.cell? ⟨b, 2, none⟩ = some a2 := ⟨h.cell 0, h.cell 1, h.cell 2⟩
theorem ret_A {w : World} {a : Value} {i j : Int} {n m : Nat} : True := trivial
theorem push_all0 {W wr w1 : World} {base : Nat} {v v' : Value} {l r : List Tz} {n : Nat} (hn : n = l.length + r.length) (hW : W.heap.size ≤ base) (ho : OwnZ wr base v l) (hB : Below W.heap.size W wr)
    (h1 : w1.ownsRow base 41 5 v' n (tzC l ++ tzC r)) (hg : wr.grownBy w1 v.ownBlock) :
    OwnZ w1 base v' (l ++ r) ∧ Below W.heap.size W w1 := by
  refine ⟨?_, hB.grown hg (by have := hB.size; omega) (fun k hk => ?_)⟩
  · subst hn
    unfold OwnZ
    rw [tzC_app, List.length_append]
    exact h1
  · have := World.ownsRow.lt ho k hk
    omega
theorem own_set {w : World} {base : Nat} {v : Value} {l : List Tz} (h : OwnZ w base v l) {b : Nat} (hb : v.ownBlock ≠ some b) (j : Nat) (u : Value) : OwnZ (w.setCell ⟨b, j, none⟩ u) base v l := by
  obtain ⟨h1, h2⟩ := h
  refine ⟨h1, ?_⟩
  rcases h2 with h2 | ⟨g, cap, cur, rfl, hg, hcur, rest⟩
  · exact .inl h2
  · have hne : g ≠ b := fun e => hb (by rw [e]; rfl)
    exact .inr ⟨g, cap, cur, rfl, hg, (show BlockAt (w.setCell ⟨b, j, none⟩ u) g cur _ from BlockAt.other (show BlockAt w g cur _ from hcur) hne j u), rest⟩
/-- What Add gives, in memory. -/
def AddR (w : World) (R : List Ty × Int × Int) (e : Ending) (w' : World) : Prop := ∃ ao cap, e = .returned (.agg #[.slice ao R.1.length cap, .int .i64 R.2.1, .int .i64 R.2.2]) ∧ ARow w' ao R.1 ∧ Below w.heap.size w w'
set_option maxHeartbeats 16000000 in
set_option maxRecDepth 100000 in
theorem refadd_any (l : List Ty) (ao : Option Addr) (ac : Nat) (t : Ty) (wo ko : Option Addr) (wc kc : Nat) (w : World) (hl : ARow w ao l) (ht : TyC w wo ko t) (ll : l.length ≤ 1000) (l0 : 0 < l.length) (hwc : t.words.length ≤ wc) (hkc : t.kids.length ≤ kc) :
    Calls Tryz.prog 27 #[.slice ao l.length ac, tyV t wo wc ko kc] w (AddR w (addT l t)) := by
  obtain ⟨R, hR⟩ : ∃ R, addT l t = R := ⟨_, rfl⟩
  rw [hR]
  have HR := Lib.hid hR
  clear hR
  obtain ⟨n, hn⟩ : ∃ n, l.length = n := ⟨_, rfl⟩
  have HN := Lib.hid hn
  have HA := Lib.hid hl
  have HT := Lib.hid ht
  obtain ⟨w1, h1⟩ : ∃ w1, w.alloc (.cells #[.int .i64 t.kind, .string t.name, .int .i64 t.n, .slice wo t.words.length wc, .slice ko t.kids.length kc] 41) = w1 := ⟨_, rfl⟩
  obtain ⟨w2, h2⟩ : ∃ w2, w1.alloc (.cells #[.slice none 0 0, .int .i64 0, .int .i64 0] 33) = w2 := ⟨_, rfl⟩
  obtain ⟨k1, q1, z1⟩ := box_new h1
  obtain ⟨k2, q2, z2⟩ := box_new h2
  have BW := Lib.hid (q1.trans (q2.mono q1.size))
  have K1 := Lib.hid (k1.below q2)
  have K2 := Lib.hid k2
  have HAT0 := fun W (h : Below w2.heap.size w2 W) => at_any l ao ac t wo ko wc kc W ((hl.below BW.out).below h) ((ht.below BW.out).below h) ll
  have HMD0 := fun W (h : Below w2.heap.size w2 W) => made_any l ao ac t wo ko wc kc W ((hl.below BW.out).below h) ((ht.below BW.out).below h) ll hwc
  unfold tyV at HAT0 HMD0 ⊢
  rw [hn] at HAT0 HMD0 l0 ll ⊢
  obtain ⟨p, hp⟩ : ∃ p, atT l t = p := ⟨_, rfl⟩
  obtain ⟨mb, hmb⟩ : ∃ mb, madeB l t = mb := ⟨_, rfl⟩
  rw [hp] at HAT0
  rw [hmb] at HMD0
  have HP := Lib.hid hp
  have HMB := Lib.hid hmb
  have HAT := Lib.hid HAT0
  have HMD := Lib.hid HMD0
  obtain ⟨c0, c1, c2, c3, c4⟩ := cell5 K1.out
  have HW := Lib.hid (And.intro hwc hkc)
  have HZ := Lib.hid (And.intro z1 z2)
  clear hn hl ht k1 k2 q1 q2 z1 z2 HAT0 HMD0 hp hmb hwc hkc
  by_cases hge : 0 ≤ p
  · have HV := Lib.hid (show R = (l, p, 0) by rw [← HR.out]; unfold addT; rw [HP.out, if_pos hge])
    go_enter Tryz.func27, Tryz.ntmps27
    go_wp2_with fail
    refine (HAT.out _ (Below.refl _ _)).mono ?_
    rintro e w3 ⟨rfl, b3⟩
    clear h1 h2 c0 c1 c2 c3 c4
    obtain ⟨c0, c1, c2, c3, c4⟩ := cell5 (K1.out.below b3)
    have B3 := Lib.hid b3
    go_wp2_with fail
    refine (HAT.out _ B3.out).mono ?_
    rintro e w4 ⟨rfl, b4⟩
    have B4 := Lib.hid (b3.trans (b4.mono b3.size))
    clear b3 b4 c0 c1 c2 c3 c4
    have M := K2.out.below B4.out
    obtain ⟨e0, e1, e2⟩ := cell3A M
    have f0 := M.free 0
    have f1 := M.free 1
    have f2 := M.free 2
    clear M
    go_wp2_with fail
    have B5 := BW.out.trans (B4.out.mono BW.out.size)
    have BE := Lib.hid ((((B5.setCell (p := ⟨w1.heap.size, 0, none⟩) (by have := HZ.out; show w.heap.size ≤ w1.heap.size; omega) (.slice ao n ac)).setCell (p := ⟨w1.heap.size, 1, none⟩) (by have := HZ.out; show w.heap.size ≤ w1.heap.size; omega) (.int .i64 p)).setCell (p := ⟨w1.heap.size, 2, none⟩) (by have := HZ.out; show w.heap.size ≤ w1.heap.size; omega) (.int .i64 0)))
    refine bodyPost_ret (v := .agg #[.slice ao n ac, .int .i64 p, .int .i64 0]) (by simp [results, Tryz.results27, go_sem, e0, e1, e2]) rfl ?_
    rw [HV.out]
    exact ⟨ao, ac, by rw [show (l, p, (0 : Int)).1.length = n from HN.out], HA.out.below BE.out, BE.out⟩
  have hlt : p < 0 := by omega
  cases mb
  · have HV := Lib.hid (show R = ([], 0, 1) by rw [← HR.out]; unfold addT; rw [HP.out, if_neg hge, if_pos HMB.out])
    go_enter Tryz.func27, Tryz.ntmps27
    go_wp2_with fail
    refine (HAT.out _ (Below.refl _ _)).mono ?_
    rintro e w3 ⟨rfl, b3⟩
    clear h1 h2 c0 c1 c2 c3 c4
    obtain ⟨c0, c1, c2, c3, c4⟩ := cell5 (K1.out.below b3)
    have B3 := Lib.hid b3
    go_wp2_with fail
    refine (HMD.out _ B3.out).mono ?_
    rintro e w4 ⟨rfl, b4⟩
    have B4 := Lib.hid (b3.trans (b4.mono b3.size))
    clear b3 b4 c0 c1 c2 c3 c4
    have M := K2.out.below B4.out
    obtain ⟨e0, e1, e2⟩ := cell3A M
    have f0 := M.free 0
    have f1 := M.free 1
    have f2 := M.free 2
    clear M
    go_wp2_with fail
    have B5 := BW.out.trans (B4.out.mono BW.out.size)
    have BE := Lib.hid ((((B5.setCell (p := ⟨w1.heap.size, 0, none⟩) (by have := HZ.out; show w.heap.size ≤ w1.heap.size; omega) (.slice none 0 0)).setCell (p := ⟨w1.heap.size, 1, none⟩) (by have := HZ.out; show w.heap.size ≤ w1.heap.size; omega) (.int .i64 0)).setCell (p := ⟨w1.heap.size, 2, none⟩) (by have := HZ.out; show w.heap.size ≤ w1.heap.size; omega) (.int .i64 1)))
    refine bodyPost_ret (v := .agg #[.slice none 0 0, .int .i64 0, .int .i64 1]) (by simp [results, Tryz.results27, go_sem, e0, e1, e2]) rfl ?_
    rw [HV.out]
    exact ⟨none, 0, rfl, .inl rfl, BE.out⟩
  by_cases h400 : n = 400
  · have HV := Lib.hid (show R = ([], 0, 7) by rw [← HR.out]; unfold addT; rw [HP.out, if_neg hge, if_neg (by rw [HMB.out]; decide), if_pos (by rw [HN.out]; exact h400)])
    have hq : ((n : Int) == 400) = true := by rw [beq_iff_eq]; omega
    clear h400
    go_enter Tryz.func27, Tryz.ntmps27
    go_wp2_with fail
    refine (HAT.out _ (Below.refl _ _)).mono ?_
    rintro e w3 ⟨rfl, b3⟩
    clear h1 h2 c0 c1 c2 c3 c4
    obtain ⟨c0, c1, c2, c3, c4⟩ := cell5 (K1.out.below b3)
    have B3 := Lib.hid b3
    go_wp2_with fail
    refine (HMD.out _ B3.out).mono ?_
    rintro e w4 ⟨rfl, b4⟩
    have B4 := Lib.hid (b3.trans (b4.mono b3.size))
    clear b3 b4 c0 c1 c2 c3 c4
    have M := K2.out.below B4.out
    obtain ⟨e0, e1, e2⟩ := cell3A M
    have f0 := M.free 0
    have f1 := M.free 1
    have f2 := M.free 2
    clear M
    go_wp2_with fail
    have B5 := BW.out.trans (B4.out.mono BW.out.size)
    have BE := Lib.hid ((((B5.setCell (p := ⟨w1.heap.size, 0, none⟩) (by have := HZ.out; show w.heap.size ≤ w1.heap.size; omega) (.slice none 0 0)).setCell (p := ⟨w1.heap.size, 1, none⟩) (by have := HZ.out; show w.heap.size ≤ w1.heap.size; omega) (.int .i64 0)).setCell (p := ⟨w1.heap.size, 2, none⟩) (by have := HZ.out; show w.heap.size ≤ w1.heap.size; omega) (.int .i64 7)))
    refine bodyPost_ret (v := .agg #[.slice none 0 0, .int .i64 0, .int .i64 7]) (by simp [results, Tryz.results27, go_sem, e0, e1, e2]) rfl ?_
    rw [HV.out]
    exact ⟨none, 0, rfl, .inl rfl, BE.out⟩
  · have HV := Lib.hid (show R = (l ++ [t], (l.length : Int), 0) by rw [← HR.out]; unfold addT; rw [HP.out, if_neg hge, if_neg (by rw [HMB.out]; decide), if_neg (by rw [HN.out]; exact h400)])
    have hq : ((n : Int) == 400) = false := by rw [beq_eq_false_iff_ne]; omega
    obtain ⟨i0, hi, hz0, hz1, hz2⟩ := info_parts info_ty
    obtain ⟨lb, lo, rfl, hlb, hlc⟩ := HA.out.cells (by rw [HN.out]; exact l0)
    obtain ⟨zs, y1, y2, y3, y4⟩ := arow_zs hlc l.length (Nat.le_refl _)
    rw [List.take_length] at y1
    rw [HN.out] at y2
    have Y := Lib.hid (And.intro hlb (And.intro y1 (And.intro y2 (And.intro y3 y4))))
    clear hlb hlc y1 y2 y3 y4
    go_enter Tryz.func27, Tryz.ntmps27
    go_wp2_with fail
    refine (HAT.out _ (Below.refl _ _)).mono ?_
    rintro e w3 ⟨rfl, b3⟩
    clear h1 h2 c0 c1 c2 c3 c4
    obtain ⟨c0, c1, c2, c3, c4⟩ := cell5 (K1.out.below b3)
    have B3 := Lib.hid b3
    go_wp2_with fail
    refine (HMD.out _ B3.out).mono ?_
    rintro e w4 ⟨rfl, b4⟩
    have B4 := Lib.hid (b3.trans (b4.mono b3.size))
    clear b3 b4 c0 c1 c2 c3 c4
    have O0 := Lib.hid (show OwnZ (w4.alloc (.cells #[] 41)) w2.heap.size (.slice (some ⟨w4.heap.size, 0, none⟩) 0 0) [] from World.ownsRow_made w4 #[] 0 (B4.out.size) (by unfold maxLen; omega) rfl)
    have B5 := Lib.hid (show Below w2.heap.size w2 (w4.alloc (.cells #[] 41)) from B4.out.trans (((Below.refl _ _).alloc (Nat.le_refl _) _).mono B4.out.size))
    have BA := Lib.hid (BW.out.trans (B5.out.mono BW.out.size))
    have OO := Lib.hid (show (w4.alloc (.cells #[] 41)).ownsRow w2.heap.size 41 5 (.slice (some ⟨w4.heap.size, 0, none⟩) 0 0) 0 [] from O0.out)
    go_wp2_with (at_builtin; refine wpList_append_own_at _ rfl _ _ 22 rfl w2.heap.size 41 i0 (.agg #[.int .i64 0, .string ⟨#[]⟩, .int .i64 0, .slice none 0 0, .slice none 0 0]) 5 80 Tryz.underlying22 hi hz0 hz1 hz2 rfl (by decide) _ 0 [] rfl OO.out ⟨lb, lo, none⟩ n ac (tzC zs) rfl ?c1 ?c2 ?c3 ?c4 ?c5 ?c6 ?_)
    case c1 => rw [tzC_len, Y.out.2.2.1]
    case c2 => exact fun j u hu => by rw [addr_add]; exact (BA.out.cell Y.out.1).trans (Y.out.2.2.2.2 j u hu)
    case c3 => exact tzC_one _
    case c4 => unfold maxLen; omega
    case c5 => omega
    case c6 => exact B5.out.size
    intro v6 w6 hown6 hgrow6 _ hblk6
    have hp6 := push_all0 (r := zs) (by rw [Y.out.2.2.1]; exact (Nat.zero_add n).symm) (Nat.le_refl _) O0.out B5.out hown6 hgrow6
    have O6 := Lib.hid (show OwnZ w6 w2.heap.size v6 zs from hp6.1)
    have B6 := Lib.hid hp6.2
    have hO6 := O6.out
    unfold OwnZ at hO6
    rw [Y.out.2.2.1] at hO6
    have OO6 := Lib.hid hO6
    obtain ⟨c0, c1, c2, c3, c4⟩ := cell5 (K1.out.below B6.out)
    clear hown6 hgrow6 hblk6 hp6 hO6 O0 OO
    go_wp2_with (at_builtin; refine wpList_append_own_at _ rfl _ _ 22 rfl w2.heap.size 41 i0 (.agg #[.int .i64 0, .string ⟨#[]⟩, .int .i64 0, .slice none 0 0, .slice none 0 0]) 5 80 Tryz.underlying22 hi hz0 hz1 hz2 rfl (by decide) _ n (tzC zs) rfl (OO6.out.alloc _) ⟨w6.heap.size, 0, none⟩ 1 1 (tzC1 ⟨t, wo, wc, ko, kc⟩) rfl ?c1 ?c2 ?c3 ?c4 ?c5 ?c6 ?_)
    case c1 => rfl
    case c2 => exact cell_news _ _ _
    case c3 => exact tzC1_one _
    case c4 => unfold maxLen; omega
    case c5 => omega
    case c6 => have := B6.out.size; simp; omega
    intro v7 w7 hown7 hgrow7 _ hblk7
    have hp7 := push_all (r := [⟨t, wo, wc, ko, kc⟩]) (by first | (rw [Y.out.2.2.1]; done) | (rw [Y.out.2.2.1]; rfl)) (Nat.le_refl _) O6.out B6.out (by simpa [tzC] using hown7) hgrow7
    have B7 := Lib.hid hp7.2.1
    have B7w := Lib.hid (BW.out.trans (B7.out.mono BW.out.size))
    obtain ⟨ao7, cap7, rfl, r1, r2⟩ := own_arow hp7.1 (fun z hz => by
      rcases List.mem_append.1 hz with hz | hz
      · exact (Y.out.2.2.2.1 z hz).below B7w.out
      · rw [List.mem_singleton.1 hz]; exact ⟨HW.out.1, HW.out.2, HT.out.below B7w.out⟩)
    have O7 := Lib.hid hp7.1
    have hmap : (zs ++ [(⟨t, wo, wc, ko, kc⟩ : Tz)]).map (·.t) = l ++ [t] := by rw [List.map_append, Y.out.2.1]; rfl
    have HMAP := Lib.hid hmap
    rw [hmap] at r1 r2 O7 ⊢
    have R1 := Lib.hid r1
    have hlen : (l ++ [t]).length = n + 1 := by rw [List.length_append, HN.out]; rfl
    rw [hlen] at O7 ⊢
    have HLEN := Lib.hid hlen
    clear hown7 hgrow7 hblk7 hp7 r1 r2 hmap hlen c0 c1 c2 c3 c4
    have M := K2.out.below B7.out
    obtain ⟨e0, e1, e2⟩ := cell3A M
    have f0 := M.free 0
    have f1 := M.free 1
    have f2 := M.free 2
    clear M
    go_wp2_with fail
    have hz1 := HZ.out
    have BE := Lib.hid ((((B7w.out.setCell (p := ⟨w1.heap.size, 0, none⟩) (by show w.heap.size ≤ w1.heap.size; omega) (.slice ao7 (n + 1) cap7)).setCell (p := ⟨w1.heap.size, 1, none⟩) (by show w.heap.size ≤ w1.heap.size; omega) (.int .i64 n)).setCell (p := ⟨w1.heap.size, 2, none⟩) (by show w.heap.size ≤ w1.heap.size; omega) (.int .i64 0)))
    refine bodyPost_ret (v := .agg #[.slice ao7 (n + 1) cap7, .int .i64 n, .int .i64 0]) (by simp [results, Tryz.results27, go_sem, e0, e1, e2]) rfl ?_
    rw [HV.out, HN.out]
    refine ⟨ao7, cap7, by rw [show (l ++ [t], (n : Int), (0 : Int)).1.length = n + 1 from HLEN.out], ?_, BE.out⟩
    have hne : (Value.slice ao7 (n + 1) cap7).ownBlock ≠ some w1.heap.size := own_not O7.out (.inl (by omega))
    have O8 := own_set (own_set (own_set O7.out hne 0 (.slice ao7 (n + 1) cap7)) hne 1 (.int .i64 n)) hne 2 (.int .i64 0)
    obtain ⟨ao8, cap8, e8, s1, s2⟩ := own_arow O8 (fun z hz => by
      rcases List.mem_append.1 hz with hz | hz
      · exact (Y.out.2.2.2.1 z hz).below BE.out
      · rw [List.mem_singleton.1 hz]; exact ⟨HW.out.1, HW.out.2, HT.out.below BE.out⟩)
    injection e8 with e8 _ _
    rw [HMAP.out] at s1
    rw [← e8] at s1
    exact s1
end Go.Proofs.YtleiaghegokjkaaGreatDoor
