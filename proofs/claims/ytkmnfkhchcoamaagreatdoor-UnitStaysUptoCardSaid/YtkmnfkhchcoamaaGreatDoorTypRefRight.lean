import Derived.Test.YtkmnfkhchcoamaaGreatDoorTypMade
import Derived.Test.YtkmnfkhchcoamaaGreatDoorTypAt
import Derived.Test.YtkmnfkhchcoamaaGreatDoorTyB
import Derived.StillTailTactics
import Derived.Deep.RegionHeld3
import Derived.Test.YtkmnfkhchcoamaaGreatDoorRegG
/- The reference's Right: may an arena be? -/
namespace Go.Proofs.YtkmnfkhchcoamaaGreatDoor
open Go.RowKit
set_option linter.unusedSimpArgs false
set_option linter.unusedVariables false

theorem rightT_short {l : List Ty} (h : ¬ (22 ≤ l.length ∧ l.length ≤ 400)) : rightT l = false := by
  unfold rightT
  rw [decide_eq_false h]; rfl
theorem rightT_no {l : List Ty} {k : Nat} (hk : k < l.length) (h : stepB l k l[k] = false) : rightT l = false := by
  unfold rightT
  rw [Bool.and_eq_false_iff]
  right
  rw [Bool.eq_false_iff]
  intro ha
  rw [List.all_eq_true] at ha
  have := ha k (List.mem_range.2 hk)
  rw [List.getElem?_eq_getElem hk] at this
  simp only at this
  rw [h] at this
  cases this
theorem rightT_yes {l : List Ty} (h0 : 22 ≤ l.length ∧ l.length ≤ 400) (h : ∀ k (hk : k < l.length), stepB l k l[k] = true) : rightT l = true := by
  unfold rightT
  rw [decide_eq_true h0, Bool.true_and, List.all_eq_true]
  intro k hk
  have hk := List.mem_range.1 hk
  rw [List.getElem?_eq_getElem hk]
  exact h k hk
theorem step_low {l : List Ty} {k : Nat} {t : Ty} (h : k < 22) : stepB l k t = decide (t = basics[k]'(by rw [basics_len]; exact h)) := by
  unfold stepB
  rw [if_pos h, List.getElem?_eq_getElem (by rw [basics_len]; exact h)]
  simp
theorem step_made {l : List Ty} {k : Nat} {t : Ty} (h : ¬ k < 22) (hm : madeB (l.take k) t = false) : stepB l k t = false := by
  unfold stepB
  rw [if_neg h, hm]; rfl
theorem step_at {l : List Ty} {k : Nat} {t : Ty} (h : ¬ k < 22) (hm : 0 ≤ atT (l.take k) t) : stepB l k t = false := by
  unfold stepB
  rw [if_neg h, Bool.and_eq_false_iff]
  right
  rw [decide_eq_false_iff_not]
  intro g
  have := atT_neg.2 g
  omega
theorem step_yes {l : List Ty} {k : Nat} {t : Ty} (h : ¬ k < 22) (hm : madeB (l.take k) t = true) (ha : atT (l.take k) t < 0) : stepB l k t = true := by
  unfold stepB
  rw [if_neg h, hm, decide_eq_true (atT_neg.1 ha)]; rfl
theorem s5_below {W w' : World} {p0 p1 p2 p3 p4 : Prop} (h : p0 ∧ p1 ∧ p2 ∧ p3 ∧ p4 ∧ Below W.heap.size W w') : Below W.heap.size W w' := h.2.2.2.2.2
theorem s5_later {W w1 w2 : World} {b : Nat} {v0 v1 v2 v3 v4 : Value} (hb : b < W.heap.size)
    (h : w1.cell? ⟨b, 0, none⟩ = some v0 ∧ w1.cell? ⟨b, 1, none⟩ = some v1 ∧ w1.cell? ⟨b, 2, none⟩ = some v2 ∧ w1.cell? ⟨b, 3, none⟩ = some v3 ∧ w1.cell? ⟨b, 4, none⟩ = some v4 ∧ Below W.heap.size W w1) (hq : Below w1.heap.size w1 w2) :
    w2.cell? ⟨b, 0, none⟩ = some v0 ∧ w2.cell? ⟨b, 1, none⟩ = some v1 ∧ w2.cell? ⟨b, 2, none⟩ = some v2 ∧ w2.cell? ⟨b, 3, none⟩ = some v3 ∧ w2.cell? ⟨b, 4, none⟩ = some v4 ∧ Below W.heap.size W w2 := by
  obtain ⟨h0, h1, h2, h3, h4, h5⟩ := h
  have hlt : b < w1.heap.size := Nat.lt_of_lt_of_le hb h5.size
  exact ⟨(hq.cell hlt).trans h0, (hq.cell hlt).trans h1, (hq.cell hlt).trans h2, (hq.cell hlt).trans h3, (hq.cell hlt).trans h4, h5.trans (hq.mono h5.size)⟩
set_option maxHeartbeats 16000000 in
set_option maxRecDepth 100000 in
theorem refright_any (l : List Ty) (ao : Option Addr) (ac : Nat) (w : World) (hl : ARow w ao l) (ll : l.length ≤ 1000) (hac : l.length ≤ ac) :
    Calls Tryz.prog 19 #[.slice ao l.length ac] w fun e w' => e = .returned (.bool (rightT l)) ∧ Below w.heap.size w w' := by
  obtain ⟨r, hr⟩ : ∃ r, rightT l = r := ⟨_, rfl⟩
  rw [hr]
  have HR := Lib.hid hr
  clear hr
  obtain ⟨n, hn⟩ : ∃ n, l.length = n := ⟨_, rfl⟩
  have HN := Lib.hid hn
  have HA := Lib.hid hl
  rw [hn] at ll hac ⊢
  clear hn hl
  have HST := Lib.hid (start_any w)
  go_enter Tryz.func19, Tryz.ntmps19
  go_wp2_with fail
  refine HST.out.mono ?_
  rintro e w1 ⟨⟨fo, fc, rfl, hf, hfc⟩, b1⟩
  have BW := Lib.hid b1
  have HF := Lib.hid hf
  clear hf hfc b1 HST
  by_cases c1 : n < 22
  · have Hn := Lib.hid (show false = r by rw [← HR.out]; exact (rightT_short (by rw [HN.out]; omega)).symm)
    go_wp2_with fail
    go_ret
    exact ⟨ret_bool Hn.out, BW.out⟩
  by_cases c2 : 400 < n
  · have Hn := Lib.hid (show false = r by rw [← HR.out]; exact (rightT_short (by rw [HN.out]; omega)).symm)
    go_wp2_with fail
    go_ret
    exact ⟨ret_bool Hn.out, BW.out⟩
  obtain ⟨fb, fof, rfl, hfb, hfcl⟩ := HF.out.cells (by rw [basics_len]; decide)
  have FC := Lib.hid (And.intro hfb hfcl)
  clear hfb hfcl HF
  go_wp2_with fail
  go_loopw [19] (fun i wr => ∃ k : Nat, k ≤ n ∧ i = .int .i64 k ∧ Hid (∀ j (hj : j < l.length), j < k → stepB l j l[j] = true) ∧ Hid (Below w1.heap.size w1 wr)) (fun i _ => n - (intOf i).toNat)
  case atStart => exact ⟨0, Nat.zero_le _, rfl, Lib.hid (fun j _ hj => absurd hj (Nat.not_lt_zero _)), Lib.hid (Below.refl _ _)⟩
  case round =>
    obtain ⟨k, hk, rfl, Hall, HB⟩ := hrel
    have BB := Lib.hid (BW.out.trans (HB.out.mono BW.out.size))
    by_cases hkl : k < n
    · have hkx : k < l.length := by rw [HN.out]; exact hkl
      obtain ⟨ab, aof, rfl, hab, hcl⟩ := (HA.out.below BB.out).cells (by omega)
      have hat := hcl k hkx
      obtain ⟨x, hx⟩ : ∃ x, l[k] = x := ⟨_, rfl⟩
      rw [hx] at hat
      have HX := Lib.hid hx
      obtain ⟨xw, xwc, xk, xkc, a0, a1, a2, a3, a4, hcap, -, hxc⟩ := hat
      clear hx hcl hab
      obtain ⟨wn, hwn⟩ : ∃ wn, wr.alloc (.cells #[.int .i64 x.kind, .string x.name, .int .i64 x.n, .slice xw x.words.length xwc, .slice xk x.kids.length xkc] 38) = wn := ⟨_, rfl⟩
      obtain ⟨k2, q2, z2⟩ := box_new hwn
      obtain ⟨c0, c1, c2, c3, c4⟩ := cell5 k2
      have BN := Lib.hid (HB.out.trans (q2.mono HB.out.size))
      have HXC := Lib.hid (And.intro hcap (hxc.below q2))
      have ZL := Lib.hid (show wr.heap.size < wn.heap.size by omega)
      have KN := Lib.hid k2
      clear k2 q2 z2 hxc hcap
      by_cases hk22 : k < 22
      · obtain ⟨yw, ywc, yk, ykc, b0, b1, b2, b3, b4, -, -, hyc⟩ := (FC.out.2 k (by rw [basics_len]; exact hk22)).below FC.out.1 BN.out
        obtain ⟨y, hy⟩ : ∃ y, basics[k]'(by rw [basics_len]; exact hk22) = y := ⟨_, rfl⟩
        rw [hy] at b0 b1 b2 b3 b4 hyc
        have HL := Lib.hid (like_any x y xw xk yw yk xwc xkc ywc ykc wn.drew (HXC.out.2.below (Below.refl _ _).drew) (hyc.below (Below.refl _ _).drew))
        unfold tyV at HL
        have HE := Lib.hid (show stepB l k l[k] = decide (x = y) by rw [step_low hk22, HX.out, hy])
        clear hy hyc
        go_wp2_with fail
        go_still_tail 5, (by kernel_rfl)
        clear hwn a0 a1 a2 a3 a4 b0 b1 b2 b3 b4 c0 c1 c2 c3 c4
        change wpList _ _ _ _ _ wn.drew
        have BD := Lib.hid (show Below w1.heap.size w1 wn.drew from BN.out.drew)
        generalize wn.drew = w3 at *
        by_cases he : x = y
        · rw [decide_eq_true he] at HL HE
          have Hx := Lib.hid (show ∀ j (hj : j < l.length), j < k + 1 → stepB l j l[j] = true from fun j h1 hj => by
            rcases Nat.lt_or_eq_of_le (Nat.le_of_lt_succ hj) with h3 | h3
            · exact Hall.out j h1 h3
            · subst h3; exact HE.out)
          clear he
          go_wp2_with fail
          refine HL.out.mono ?_
          rintro e w' ⟨rfl, b⟩
          have B2 := Lib.hid (BD.out.trans (b.mono BD.out.size))
          clear b
          go_wp2_with fail
          go_roundw
          case rel => exact ⟨k + 1, by omega, by go_num, Hx, B2⟩
          case measure => first | (simp [intOf]; done) | (simp [intOf]; omega)
        · rw [decide_eq_false he] at HL HE
          have Hn := Lib.hid (show false = r by rw [← HR.out]; exact (rightT_no hkx HE.out).symm)
          clear he
          go_wp2_with fail
          refine HL.out.mono ?_
          rintro e w' ⟨rfl, b⟩
          have B2 := Lib.hid (BD.out.trans (b.mono BD.out.size))
          clear b
          go_wp2_with fail
          go_ret
          exact ⟨ret_bool Hn.out, BW.out.trans (B2.out.mono BW.out.size)⟩
      · have hlt : (l.take k).length = k := by rw [List.length_take]; omega
        have HMD0 := fun W (h : Below wn.heap.size wn W) => made_any (l.take k) (some ⟨ab, aof, none⟩) ac x xw xk xwc xkc W (((HA.out.below BW.out).below BN.out |>.below h).take k) (HXC.out.2.below h) (by omega) HXC.out.1
        have HAT0 := fun W (h : Below wn.heap.size wn W) => at_any (l.take k) (some ⟨ab, aof, none⟩) ac x xw xk xwc xkc W (((HA.out.below BW.out).below BN.out |>.below h).take k) (HXC.out.2.below h) (by omega)
        unfold tyV at HMD0 HAT0
        rw [hlt] at HMD0 HAT0
        obtain ⟨mb, hmb⟩ : ∃ mb, madeB (l.take k) x = mb := ⟨_, rfl⟩
        obtain ⟨at0, hat0⟩ : ∃ z, atT (l.take k) x = z := ⟨_, rfl⟩
        rw [hmb] at HMD0
        rw [hat0] at HAT0
        have HMB := Lib.hid hmb
        have HAB := Lib.hid hat0
        have HMD := Lib.hid HMD0
        have HAT := Lib.hid HAT0
        have hka : k ≤ ac := by omega
        clear HMD0 HAT0 hmb hat0 hlt
        cases mb
        · have Hn := Lib.hid (show false = r by rw [← HR.out]; exact (rightT_no hkx (by rw [HX.out]; exact step_made hk22 HMB.out)).symm)
          go_wp2_with fail
          clear hwn a0 a1 a2 a3 a4
          have hB0 : Below wn.heap.size wn wn.drew := (Below.refl _ _).drew
          refine GoG.start [(4, ⟨wr.heap.size, 0, none⟩, .int .i64 x.kind), (4, ⟨wr.heap.size, 1, none⟩, .string x.name), (4, ⟨wr.heap.size, 2, none⟩, .int .i64 x.n), (4, ⟨wr.heap.size, 3, none⟩, .slice xw x.words.length xwc), (4, ⟨wr.heap.size, 4, none⟩, .slice xk x.kids.length xkc)] (by kernel_rfl) ?_ ?_
          · exact Keeps.cons (by first | exact c0 | assumption | simp [*]) (Keeps.cons (by first | exact c1 | assumption | simp [*]) (Keeps.cons (by first | exact c2 | assumption | simp [*]) (Keeps.cons (by first | exact c3 | assumption | simp [*]) (Keeps.cons (by first | exact c4 | assumption | simp [*]) (Keeps.nil)))))
          refine GoG.take (i := 0) (v := ?_) [] rfl (by kernel_rfl) (by kernel_rfl) (by kernel_rfl) (by kernel_rfl) (by kernel_rfl) (by kernel_rfl) (fun _ _ _ h => h) (yields_free (by rfl) (fun w => ?_)) ?_
          rotate_left
          · go_simp; try (with_reducible rfl)
          try simp only [Act.put, List.getElem_toArray, List.getElem_cons_succ, List.getElem_cons_zero, List.setIfInBounds_toArray, List.set_cons_zero, List.set_cons_succ]
          refine GoG.take (i := 1) (v := ?_) [] rfl (by kernel_rfl) (by kernel_rfl) (by kernel_rfl) (by kernel_rfl) (by kernel_rfl) (by kernel_rfl) (fun _ _ _ h => h) (yields_free (by rfl) (fun w => ?_)) ?_
          rotate_left
          · go_simp; try (with_reducible rfl)
          try simp only [Act.put, List.getElem_toArray, List.getElem_cons_succ, List.getElem_cons_zero, List.setIfInBounds_toArray, List.set_cons_zero, List.set_cons_succ]
          refine GoG.take (i := 2) (v := ?_) [] rfl (by kernel_rfl) (by kernel_rfl) (by kernel_rfl) (by kernel_rfl) (by kernel_rfl) (by kernel_rfl) (fun _ _ _ h => h) (yields_free (by rfl) (fun w => ?_)) ?_
          rotate_left
          · go_simp; try (with_reducible rfl)
          try simp only [Act.put, List.getElem_toArray, List.getElem_cons_succ, List.getElem_cons_zero, List.setIfInBounds_toArray, List.set_cons_zero, List.set_cons_succ]
          refine GoG.take (i := 3) (v := ?_) [4] rfl (by kernel_rfl) (by kernel_rfl) (by kernel_rfl) (by kernel_rfl) (by kernel_rfl) (by kernel_rfl) (fun _ _ _ h => h) (.inl ⟨by rfl, fun w hS => ?_⟩) ?_
          rotate_left
          · have g0 : w.cell? ⟨wr.heap.size, 0, none⟩ = some (.int .i64 x.kind) := hS (4, ⟨wr.heap.size, 0, none⟩, .int .i64 x.kind) (by simp) (by simp)
            have g1 : w.cell? ⟨wr.heap.size, 1, none⟩ = some (.string x.name) := hS (4, ⟨wr.heap.size, 1, none⟩, .string x.name) (by simp) (by simp)
            have g2 : w.cell? ⟨wr.heap.size, 2, none⟩ = some (.int .i64 x.n) := hS (4, ⟨wr.heap.size, 2, none⟩, .int .i64 x.n) (by simp) (by simp)
            have g3 : w.cell? ⟨wr.heap.size, 3, none⟩ = some (.slice xw x.words.length xwc) := hS (4, ⟨wr.heap.size, 3, none⟩, .slice xw x.words.length xwc) (by simp) (by simp)
            have g4 : w.cell? ⟨wr.heap.size, 4, none⟩ = some (.slice xk x.kids.length xkc) := hS (4, ⟨wr.heap.size, 4, none⟩, .slice xk x.kids.length xkc) (by simp) (by simp)
            clear hS
            go_simp; try (with_reducible rfl)
          try simp only [Act.put, List.getElem_toArray, List.getElem_cons_succ, List.getElem_cons_zero, List.setIfInBounds_toArray, List.set_cons_zero, List.set_cons_succ]
          refine GoG.one (i := 4) rfl (by kernel_rfl) (fun K hK => ?_)
          go_simp
          refine (HMD.out _ hB0).mono ?_
          rintro e w' ⟨rfl, bq⟩
          have hS2 := hB0.trans (bq.mono hB0.size)
          refine hK.out _ _ (Keeps.up (by rfl) (Keeps.up (by rfl) (Keeps.up (by rfl) (Keeps.up (by rfl) (Keeps.up (by rfl) (Keeps.nil)))))) ?_
          clear hK K
          try simp only [Act.put, List.getElem_toArray, List.getElem_cons_succ, List.getElem_cons_zero, List.setIfInBounds_toArray, List.set_cons_zero, List.set_cons_succ]
          refine GoG.take (i := 5) (v := ?_) [] rfl (by kernel_rfl) (by kernel_rfl) (by kernel_rfl) (by kernel_rfl) (by kernel_rfl) (by kernel_rfl) (fun _ _ _ h => h) (yields_free (by rfl) (fun w => ?_)) ?_
          rotate_left
          · go_simp; try (with_reducible rfl)
          try simp only [Act.put, List.getElem_toArray, List.getElem_cons_succ, List.getElem_cons_zero, List.setIfInBounds_toArray, List.set_cons_zero, List.set_cons_succ]
          refine GoG.take (i := 6) (v := ?_) [] rfl (by kernel_rfl) (by kernel_rfl) (by kernel_rfl) (by kernel_rfl) (by kernel_rfl) (by kernel_rfl) (fun _ _ _ h => h) (yields_free (by rfl) (fun w => ?_)) ?_
          rotate_left
          · go_simp; try (with_reducible rfl)
          try simp only [Act.put, List.getElem_toArray, List.getElem_cons_succ, List.getElem_cons_zero, List.setIfInBounds_toArray, List.set_cons_zero, List.set_cons_succ]
          refine GoG.take (i := 7) (v := undef) [] rfl (by kernel_rfl) (by kernel_rfl) (by kernel_rfl) (by kernel_rfl) (by kernel_rfl) (by kernel_rfl) (fun _ _ _ h => h) (.inr ⟨by rfl, rfl⟩) ?_
          try simp only [Act.put, List.getElem_toArray, List.getElem_cons_succ, List.getElem_cons_zero, List.setIfInBounds_toArray, List.set_cons_zero, List.set_cons_succ]
          refine GoG.take (i := 8) (v := undef) [] rfl (by kernel_rfl) (by kernel_rfl) (by kernel_rfl) (by kernel_rfl) (by kernel_rfl) (by kernel_rfl) (fun _ _ _ h => h) (.inr ⟨by rfl, rfl⟩) ?_
          try simp only [Act.put, List.getElem_toArray, List.getElem_cons_succ, List.getElem_cons_zero, List.setIfInBounds_toArray, List.set_cons_zero, List.set_cons_succ]
          refine GoG.take (i := 9) (v := undef) [] rfl (by kernel_rfl) (by kernel_rfl) (by kernel_rfl) (by kernel_rfl) (by kernel_rfl) (by kernel_rfl) (fun _ _ _ h => h) (.inr ⟨by rfl, rfl⟩) ?_
          try simp only [Act.put, List.getElem_toArray, List.getElem_cons_succ, List.getElem_cons_zero, List.setIfInBounds_toArray, List.set_cons_zero, List.set_cons_succ]
          refine GoG.take (i := 10) (v := undef) [] rfl (by kernel_rfl) (by kernel_rfl) (by kernel_rfl) (by kernel_rfl) (by kernel_rfl) (by kernel_rfl) (fun _ _ _ h => h) (.inr ⟨by rfl, rfl⟩) ?_
          try simp only [Act.put, List.getElem_toArray, List.getElem_cons_succ, List.getElem_cons_zero, List.setIfInBounds_toArray, List.set_cons_zero, List.set_cons_succ]
          refine GoG.take (i := 11) (v := undef) [] rfl (by kernel_rfl) (by kernel_rfl) (by kernel_rfl) (by kernel_rfl) (by kernel_rfl) (by kernel_rfl) (fun _ _ _ h => h) (.inr ⟨by rfl, rfl⟩) ?_
          try simp only [Act.put, List.getElem_toArray, List.getElem_cons_succ, List.getElem_cons_zero, List.setIfInBounds_toArray, List.set_cons_zero, List.set_cons_succ]
          refine GoG.take (i := 12) (v := undef) [] rfl (by kernel_rfl) (by kernel_rfl) (by kernel_rfl) (by kernel_rfl) (by kernel_rfl) (by kernel_rfl) (fun _ _ _ h => h) (.inr ⟨by rfl, rfl⟩) ?_
          try simp only [Act.put, List.getElem_toArray, List.getElem_cons_succ, List.getElem_cons_zero, List.setIfInBounds_toArray, List.set_cons_zero, List.set_cons_succ]
          refine GoG.take (i := 13) (v := ?_) [] rfl (by kernel_rfl) (by kernel_rfl) (by kernel_rfl) (by kernel_rfl) (by kernel_rfl) (by kernel_rfl) (fun _ _ _ h => h) (yields_free (by rfl) (fun w => ?_)) ?_
          rotate_left
          · go_simp; try (with_reducible rfl)
          try simp only [Act.put, List.getElem_toArray, List.getElem_cons_succ, List.getElem_cons_zero, List.setIfInBounds_toArray, List.set_cons_zero, List.set_cons_succ]
          refine GoG.done (by kernel_rfl) ?_ _
          have B2 := Lib.hid (BN.out.trans (hS2.mono BN.out.size))
          clear hS2 bq c0 c1 c2 c3 c4
          go_wp2_with fail
          go_ret
          exact ⟨ret_bool Hn.out, BW.out.trans (B2.out.mono BW.out.size)⟩
        · by_cases hneg : at0 < 0
          · have Hx := Lib.hid (show ∀ j (hj : j < l.length), j < k + 1 → stepB l j l[j] = true from fun j h1 hj => by
              rcases Nat.lt_or_eq_of_le (Nat.le_of_lt_succ hj) with h3 | h3
              · exact Hall.out j h1 h3
              · subst h3; rw [HX.out]; exact step_yes hk22 HMB.out (by rw [HAB.out]; exact hneg))
            have hge : ¬ (0 ≤ at0) := by omega
            go_wp2_with fail
            clear hwn a0 a1 a2 a3 a4
            go_region_held3 (fun w' => w'.cell? ⟨wr.heap.size, 0, none⟩ = some (.int .i64 x.kind) ∧ w'.cell? ⟨wr.heap.size, 1, none⟩ = some (.string x.name) ∧ w'.cell? ⟨wr.heap.size, 2, none⟩ = some (.int .i64 x.n) ∧ w'.cell? ⟨wr.heap.size, 3, none⟩ = some (.slice xw x.words.length xwc) ∧ w'.cell? ⟨wr.heap.size, 4, none⟩ = some (.slice xk x.kids.length xkc) ∧ Below wn.heap.size wn w')
              (first | exact ⟨c0, c1, c2, c3, c4, (Below.refl _ _).drew⟩ | assumption)
              (first | (go_at_call 42; refine (HMD.out _ (s5_below (by assumption))).mono ?_; rintro e w' ⟨rfl, bq⟩; have hS2 := s5_later ZL.out (by assumption) bq) | (go_at_call 43; refine (HAT.out _ (s5_below (by assumption))).mono ?_; rintro e w' ⟨rfl, bq3⟩; have hS3 := s5_later ZL.out (by assumption) bq3))
            have B2 := Lib.hid (BN.out.trans ((s5_below hS3).mono BN.out.size))
            clear hS2 bq hS3 bq3 c0 c1 c2 c3 c4
            go_wp2_with fail
            go_roundw
            case rel => exact ⟨k + 1, by omega, by go_num, Hx, B2⟩
            case measure => first | (simp [intOf]; done) | (simp [intOf]; omega)
          · have Hn := Lib.hid (show false = r by rw [← HR.out]; exact (rightT_no hkx (by rw [HX.out]; exact step_at hk22 (by rw [HAB.out]; omega))).symm)
            have hge : 0 ≤ at0 := by omega
            go_wp2_with fail
            clear hwn a0 a1 a2 a3 a4
            go_region_held3 (fun w' => w'.cell? ⟨wr.heap.size, 0, none⟩ = some (.int .i64 x.kind) ∧ w'.cell? ⟨wr.heap.size, 1, none⟩ = some (.string x.name) ∧ w'.cell? ⟨wr.heap.size, 2, none⟩ = some (.int .i64 x.n) ∧ w'.cell? ⟨wr.heap.size, 3, none⟩ = some (.slice xw x.words.length xwc) ∧ w'.cell? ⟨wr.heap.size, 4, none⟩ = some (.slice xk x.kids.length xkc) ∧ Below wn.heap.size wn w')
              (first | exact ⟨c0, c1, c2, c3, c4, (Below.refl _ _).drew⟩ | assumption)
              (first | (go_at_call 42; refine (HMD.out _ (s5_below (by assumption))).mono ?_; rintro e w' ⟨rfl, bq⟩; have hS2 := s5_later ZL.out (by assumption) bq) | (go_at_call 43; refine (HAT.out _ (s5_below (by assumption))).mono ?_; rintro e w' ⟨rfl, bq3⟩; have hS3 := s5_later ZL.out (by assumption) bq3))
            have B2 := Lib.hid (BN.out.trans ((s5_below hS3).mono BN.out.size))
            clear hS2 bq hS3 bq3 c0 c1 c2 c3 c4
            go_wp2_with fail
            go_ret
            exact ⟨ret_bool Hn.out, BW.out.trans (B2.out.mono BW.out.size)⟩
    · obtain rfl : k = n := by omega
      have Hn := Lib.hid (show true = r by
        rw [← HR.out]
        exact (rightT_yes (by rw [HN.out]; omega) (fun j hj => Hall.out j hj (by rw [← HN.out]; exact hj))).symm)
      go_wp2_with fail
      go_ret
      exact ⟨ret_bool Hn.out, BB.out⟩
end Go.Proofs.YtkmnfkhchcoamaaGreatDoor

