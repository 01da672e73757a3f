/- The program's Like: as the reference's, over slices.Equal (made of XSemLike's text). -/
import Derived.Test.YtbdhmelebedpiaaGreatDoorSemLike
namespace Go.Proofs.YtbdhmelebedpiaaGreatDoor
open Go.RowKit
set_option linter.unusedSimpArgs false
set_option linter.unusedVariables false

set_option maxHeartbeats 8000000 in
set_option maxRecDepth 100000 in
theorem equalS_any (ao bo : Option Addr) (ac bc : Nat) (xs ys : List ByteArray) (w : World) (ra : SRow w ao xs) (rb : SRow w bo ys) (la : xs.length ≤ 1000) (lb : ys.length ≤ 1000) :
    Calls Tryz.prog 32 #[.slice ao xs.length ac, .slice bo ys.length bc] w fun e w' => e = .returned (.bool (decide (xs = ys))) ∧ Below w.heap.size w w' := by
  have RA := Lib.hid ra
  have RB := Lib.hid rb
  clear ra rb
  by_cases hl : xs.length = ys.length
  · have HL := Lib.hid hl
    have hne : ((xs.length : Int) != (ys.length : Int)) = false := by rw [bne_eq_false_iff_eq]; omega
    have hne2 : (xs.length != ys.length) = false := by rw [bne_eq_false_iff_eq]; exact hl
    clear hl
    obtain ⟨r, hr⟩ : ∃ r, decide (xs = ys) = r := ⟨_, rfl⟩
    have HR := Lib.hid hr
    rw [hr]
    clear hr
    go_enter Tryz.func32, Tryz.ntmps32
    go_wp2_with fail
    clear hne hne2
    go_loopw [13] (fun i wr => ∃ k : Nat, k ≤ xs.length ∧ i = .int .i64 k ∧ Hid (∀ j (h1 : j < xs.length) (h2 : j < ys.length), j < k → xs[j] = ys[j]) ∧ Hid (Below w.heap.size w wr)) (fun i _ => xs.length - (intOf i).toNat)
    case atStart => exact ⟨0, Nat.zero_le _, rfl, Lib.hid (fun j _ _ hj => absurd hj (Nat.not_lt_zero _)), Lib.hid (Below.refl _ _)⟩
    case round =>
      obtain ⟨k, hk, rfl, Hok, HB⟩ := hrel
      by_cases hlt : k < xs.length
      · have hlt2 : k < ys.length := by have := HL.out; omega
        obtain ⟨ab, aoff, rfl, hab, hac⟩ := (RA.out.below HB.out).cells (by omega)
        obtain ⟨bb, boff, rfl, hbb, hbc⟩ := (RB.out.below HB.out).cells (by omega)
        have ca := hac k hlt
        have cb := hbc k hlt2
        obtain ⟨s, hs⟩ : ∃ s, xs[k] = s := ⟨_, rfl⟩
        obtain ⟨t, ht⟩ : ∃ s, ys[k] = s := ⟨_, rfl⟩
        rw [hs] at ca
        rw [ht] at cb
        have HS := Lib.hid (And.intro hs ht)
        clear hs ht hac hbc hab hbb
        go_wp2_with fail
        have BD := Lib.hid (show Below w.heap.size w wr.drew from HB.out.drew)
        refine GoG.start [(8, ⟨ab, aoff + k, none⟩, .string s), (8, ⟨bb, boff + k, none⟩, .string t)] (by kernel_rfl) ?_ ?_
        · exact Keeps.cons (by first | assumption | simp [*]) (Keeps.cons (by first | assumption | simp [*]) (Keeps.nil))
        refine GoG.take (i := 0) (v := ?_) [] rfl (by kernel_rfl) (by kernel_rfl) (by kernel_rfl) (by kernel_rfl) (by kernel_rfl) (by kernel_rfl) (fun _ _ _ h => h) (yields_free (by rfl) (fun w => ?_)) ?_
        rotate_left
        · go_simp; try (with_reducible rfl)
        try simp only [Act.put, List.setIfInBounds_toArray, List.set_cons_zero, List.set_cons_succ]
        refine GoG.take (i := 1) (v := ?_) [] rfl (by kernel_rfl) (by kernel_rfl) (by kernel_rfl) (by kernel_rfl) (by kernel_rfl) (by kernel_rfl) (fun _ _ _ h => h) (yields_free (by rfl) (fun w => ?_)) ?_
        rotate_left
        · go_simp; try (with_reducible rfl)
        try simp only [Act.put, List.setIfInBounds_toArray, List.set_cons_zero, List.set_cons_succ]
        refine GoG.take (i := 2) (v := ?_) [] rfl (by kernel_rfl) (by kernel_rfl) (by kernel_rfl) (by kernel_rfl) (by kernel_rfl) (by kernel_rfl) (fun _ _ _ h => h) (yields_free (by rfl) (fun w => ?_)) ?_
        rotate_left
        · go_simp; try (with_reducible rfl)
        try simp only [Act.put, List.setIfInBounds_toArray, List.set_cons_zero, List.set_cons_succ]
        refine GoG.take (i := 3) (v := ?_) [8] rfl (by kernel_rfl) (by kernel_rfl) (by kernel_rfl) (by kernel_rfl) (by kernel_rfl) (by kernel_rfl) (fun _ _ _ h => h) (yields_load 8 ⟨ab, aoff + k, none⟩ (.string s) (by simp) (by decide) (by rfl) (fun w hw => ?_)) ?_
        rotate_left
        · go_simp; try (with_reducible rfl)
        try simp only [Act.put, List.setIfInBounds_toArray, List.set_cons_zero, List.set_cons_succ]
        refine GoG.take (i := 4) (v := ?_) [] rfl (by kernel_rfl) (by kernel_rfl) (by kernel_rfl) (by kernel_rfl) (by kernel_rfl) (by kernel_rfl) (fun _ _ _ h => h) (yields_free (by rfl) (fun w => ?_)) ?_
        rotate_left
        · go_simp; try (with_reducible rfl)
        try simp only [Act.put, List.setIfInBounds_toArray, List.set_cons_zero, List.set_cons_succ]
        refine GoG.take (i := 5) (v := ?_) [] rfl (by kernel_rfl) (by kernel_rfl) (by kernel_rfl) (by kernel_rfl) (by kernel_rfl) (by kernel_rfl) (fun _ _ _ h => h) (yields_free (by rfl) (fun w => ?_)) ?_
        rotate_left
        · go_simp; try (with_reducible rfl)
        try simp only [Act.put, List.setIfInBounds_toArray, List.set_cons_zero, List.set_cons_succ]
        refine GoG.take (i := 6) (v := ?_) [] rfl (by kernel_rfl) (by kernel_rfl) (by kernel_rfl) (by kernel_rfl) (by kernel_rfl) (by kernel_rfl) (fun _ _ _ h => h) (yields_free (by rfl) (fun w => ?_)) ?_
        rotate_left
        · go_simp; try (with_reducible rfl)
        try simp only [Act.put, List.setIfInBounds_toArray, List.set_cons_zero, List.set_cons_succ]
        refine GoG.take (i := 7) (v := ?_) [8] rfl (by kernel_rfl) (by kernel_rfl) (by kernel_rfl) (by kernel_rfl) (by kernel_rfl) (by kernel_rfl) (fun _ _ _ h => h) (yields_load 8 ⟨bb, boff + k, none⟩ (.string t) (by simp) (by decide) (by rfl) (fun w hw => ?_)) ?_
        rotate_left
        · go_simp; try (with_reducible rfl)
        try simp only [Act.put, List.setIfInBounds_toArray, List.set_cons_zero, List.set_cons_succ]
        by_cases he : s = t
        · have hx := Lib.hid (show ∀ j (h1 : j < xs.length) (h2 : j < ys.length), j < k + 1 → xs[j] = ys[j] from fun j h1 h2 hj => by
            rcases Nat.lt_or_eq_of_le (Nat.le_of_lt_succ hj) with h3 | h3
            · exact Hok.out j h1 h2 h3
            · subst h3; rw [HS.out.1, HS.out.2]; exact he)
          subst he
          refine GoG.one (i := 8) rfl (by kernel_rfl) (fun K hK => ?_)
          go_simp
          refine hK.out _ _ (Keeps.up (by rfl) (Keeps.up (by rfl) Keeps.nil)) ?_
          clear hK K
          refine GoG.done (by kernel_rfl) ?_ _
          go_wp2_with fail
          go_roundw
          case rel => first | exact ⟨k + 1, by omega, by go_num, hx, BD⟩ | ((repeat apply Exists.intro); exact ⟨⟨k + 1, by omega, by go_num, hx, BD⟩, rfl⟩)
          case measure => simp [intOf]; omega
        · have hn1 : (s.toList == t.toList) = false := by rw [beq_eq_false_iff_ne]; exact fun e => he (toList_inj e)
          have hn2 : (s.toList != t.toList) = true := by rw [bne, hn1]; rfl
          have Hr := Lib.hid (show false = r by
            rw [← HR.out]
            symm
            rw [decide_eq_false_iff_not]
            intro e
            subst e
            exact he (HS.out.1.symm.trans HS.out.2))
          clear he
          refine GoG.one (i := 8) rfl (by kernel_rfl) (fun K hK => ?_)
          go_simp
          refine hK.out _ _ (Keeps.up (by rfl) (Keeps.up (by rfl) Keeps.nil)) ?_
          clear hK K
          refine GoG.done (by kernel_rfl) ?_ _
          go_wp2_with fail
          go_ret
          exact ⟨ret_bool Hr.out, BD.out⟩
      · obtain rfl : k = xs.length := by omega
        have Hr := Lib.hid (show true = r by
          rw [← HR.out]
          symm
          rw [decide_eq_true_iff]
          exact List.ext_getElem HL.out fun j h1 h2 => Hok.out j h1 h2 h1)
        go_wp2_with fail
        go_ret
        exact ⟨ret_bool Hr.out, HB.out⟩
  · have hne : ((xs.length : Int) != (ys.length : Int)) = true := by rw [bne_iff_ne]; omega
    have hne2 : (xs.length != ys.length) = true := by rw [bne_iff_ne]; exact hl
    have Hr := Lib.hid (show false = decide (xs = ys) by symm; rw [decide_eq_false_iff_not]; intro e; exact hl (by rw [e]))
    clear hl
    go_enter Tryz.func32, Tryz.ntmps32
    go_wp2_with fail
    go_ret
    exact ⟨ret_bool Hr.out, Below.refl _ _⟩
set_option maxHeartbeats 8000000 in
set_option maxRecDepth 100000 in
theorem plike_1 (A B : Vr) (ao bo co do_ : Option Addr) (ac bc cc dc : Nat) (w : World) (hA : VerC w ao bo A) (hB : VerC w co do_ B) (hma : A.ma ≠ B.ma) :
    Calls Tryz.prog 9 #[verV A ao ac bo bc, verV B co cc do_ dc] w fun e w' => e = .returned (.bool (likeVB A B)) ∧ Below w.heap.size w w' := by
  have Hres := Lib.hid (show likeVB A B = false by unfold likeVB; rw [decide_eq_false hma]; rfl)
  have gma : (A.ma == B.ma) = false := by rw [beq_eq_false_iff_ne]; exact hma
  clear hma
  obtain ⟨wa, ha⟩ : ∃ wa, w.alloc (.cells #[.int .i64 A.ma, .int .i64 A.mi, .int .i64 A.pa, .slice ao A.pre.length ac, .slice bo A.build.length bc] 24) = wa := ⟨_, rfl⟩
  obtain ⟨wb, hb⟩ : ∃ wb, wa.alloc (.cells #[.int .i64 B.ma, .int .i64 B.mi, .int .i64 B.pa, .slice co B.pre.length cc, .slice do_ B.build.length dc] 24) = wb := ⟨_, rfl⟩
  obtain ⟨k1, q1, -⟩ := box_new ha
  obtain ⟨k2, q2, -⟩ := box_new hb
  have BW := Lib.hid (q1.trans (q2.mono q1.size))
  have K1 := Lib.hid (k1.below q2)
  have K2 := Lib.hid k2
  have HA := Lib.hid (hA.below BW.out)
  have HB := Lib.hid (hB.below BW.out)
  obtain ⟨c0, c1, c2, c3, c4⟩ := cell5 K1.out
  obtain ⟨d0, d1, d2, d3, d4⟩ := cell5 K2.out
  unfold verV
  clear hA hB k1 k2 q1 q2
  go_enter Tryz.func9, Tryz.ntmps9
  go_wp2_with fail
  go_ret
  exact ⟨ret_bool (by rw [Hres.out]), BW.out⟩
set_option maxHeartbeats 8000000 in
set_option maxRecDepth 100000 in
theorem plike_2 (A B : Vr) (ao bo co do_ : Option Addr) (ac bc cc dc : Nat) (w : World) (hA : VerC w ao bo A) (hB : VerC w co do_ B) (hma : A.ma = B.ma) (hmi : A.mi ≠ B.mi) :
    Calls Tryz.prog 9 #[verV A ao ac bo bc, verV B co cc do_ dc] w fun e w' => e = .returned (.bool (likeVB A B)) ∧ Below w.heap.size w w' := by
  have Hres := Lib.hid (show likeVB A B = false by unfold likeVB; rw [decide_eq_false hmi, Bool.and_false]; rfl)
  have gma : (A.ma == B.ma) = true := by rw [beq_iff_eq]; exact hma
  clear hma
  have gmi : (A.mi == B.mi) = false := by rw [beq_eq_false_iff_ne]; exact hmi
  clear hmi
  obtain ⟨wa, ha⟩ : ∃ wa, w.alloc (.cells #[.int .i64 A.ma, .int .i64 A.mi, .int .i64 A.pa, .slice ao A.pre.length ac, .slice bo A.build.length bc] 24) = wa := ⟨_, rfl⟩
  obtain ⟨wb, hb⟩ : ∃ wb, wa.alloc (.cells #[.int .i64 B.ma, .int .i64 B.mi, .int .i64 B.pa, .slice co B.pre.length cc, .slice do_ B.build.length dc] 24) = wb := ⟨_, rfl⟩
  obtain ⟨k1, q1, -⟩ := box_new ha
  obtain ⟨k2, q2, -⟩ := box_new hb
  have BW := Lib.hid (q1.trans (q2.mono q1.size))
  have K1 := Lib.hid (k1.below q2)
  have K2 := Lib.hid k2
  have HA := Lib.hid (hA.below BW.out)
  have HB := Lib.hid (hB.below BW.out)
  obtain ⟨c0, c1, c2, c3, c4⟩ := cell5 K1.out
  obtain ⟨d0, d1, d2, d3, d4⟩ := cell5 K2.out
  unfold verV
  clear hA hB k1 k2 q1 q2
  go_enter Tryz.func9, Tryz.ntmps9
  go_wp2_with fail
  go_ret
  exact ⟨ret_bool (by rw [Hres.out]), BW.out⟩
set_option maxHeartbeats 8000000 in
set_option maxRecDepth 100000 in
theorem plike_3 (A B : Vr) (ao bo co do_ : Option Addr) (ac bc cc dc : Nat) (w : World) (hA : VerC w ao bo A) (hB : VerC w co do_ B) (hma : A.ma = B.ma) (hmi : A.mi = B.mi) (hpa : A.pa ≠ B.pa) :
    Calls Tryz.prog 9 #[verV A ao ac bo bc, verV B co cc do_ dc] w fun e w' => e = .returned (.bool (likeVB A B)) ∧ Below w.heap.size w w' := by
  have Hres := Lib.hid (show likeVB A B = false by unfold likeVB; rw [decide_eq_false hpa, Bool.and_false]; rfl)
  have gma : (A.ma == B.ma) = true := by rw [beq_iff_eq]; exact hma
  clear hma
  have gmi : (A.mi == B.mi) = true := by rw [beq_iff_eq]; exact hmi
  clear hmi
  have gpa : (A.pa == B.pa) = false := by rw [beq_eq_false_iff_ne]; exact hpa
  clear hpa
  obtain ⟨wa, ha⟩ : ∃ wa, w.alloc (.cells #[.int .i64 A.ma, .int .i64 A.mi, .int .i64 A.pa, .slice ao A.pre.length ac, .slice bo A.build.length bc] 24) = wa := ⟨_, rfl⟩
  obtain ⟨wb, hb⟩ : ∃ wb, wa.alloc (.cells #[.int .i64 B.ma, .int .i64 B.mi, .int .i64 B.pa, .slice co B.pre.length cc, .slice do_ B.build.length dc] 24) = wb := ⟨_, rfl⟩
  obtain ⟨k1, q1, -⟩ := box_new ha
  obtain ⟨k2, q2, -⟩ := box_new hb
  have BW := Lib.hid (q1.trans (q2.mono q1.size))
  have K1 := Lib.hid (k1.below q2)
  have K2 := Lib.hid k2
  have HA := Lib.hid (hA.below BW.out)
  have HB := Lib.hid (hB.below BW.out)
  obtain ⟨c0, c1, c2, c3, c4⟩ := cell5 K1.out
  obtain ⟨d0, d1, d2, d3, d4⟩ := cell5 K2.out
  unfold verV
  clear hA hB k1 k2 q1 q2
  go_enter Tryz.func9, Tryz.ntmps9
  go_wp2_with fail
  go_ret
  exact ⟨ret_bool (by rw [Hres.out]), BW.out⟩
set_option maxHeartbeats 8000000 in
set_option maxRecDepth 100000 in
theorem plike_4 (A B : Vr) (ao bo co do_ : Option Addr) (ac bc cc dc : Nat) (w : World) (hA : VerC w ao bo A) (hB : VerC w co do_ B) (hma : A.ma = B.ma) (hmi : A.mi = B.mi) (hpa : A.pa = B.pa) :
    Calls Tryz.prog 9 #[verV A ao ac bo bc, verV B co cc do_ dc] w fun e w' => e = .returned (.bool (likeVB A B)) ∧ Below w.heap.size w w' := by
  have Hres := Lib.hid (show likeVB A B = (decide (A.pre = B.pre) && decide (A.build = B.build)) by unfold likeVB; rw [decide_eq_true hma, decide_eq_true hmi, decide_eq_true hpa]; rfl)
  have gma : (A.ma == B.ma) = true := by rw [beq_iff_eq]; exact hma
  clear hma
  have gmi : (A.mi == B.mi) = true := by rw [beq_iff_eq]; exact hmi
  clear hmi
  have gpa : (A.pa == B.pa) = true := by rw [beq_iff_eq]; exact hpa
  clear hpa
  obtain ⟨wa, ha⟩ : ∃ wa, w.alloc (.cells #[.int .i64 A.ma, .int .i64 A.mi, .int .i64 A.pa, .slice ao A.pre.length ac, .slice bo A.build.length bc] 24) = wa := ⟨_, rfl⟩
  obtain ⟨wb, hb⟩ : ∃ wb, wa.alloc (.cells #[.int .i64 B.ma, .int .i64 B.mi, .int .i64 B.pa, .slice co B.pre.length cc, .slice do_ B.build.length dc] 24) = wb := ⟨_, rfl⟩
  obtain ⟨k1, q1, -⟩ := box_new ha
  obtain ⟨k2, q2, -⟩ := box_new hb
  have BW := Lib.hid (q1.trans (q2.mono q1.size))
  have K1 := Lib.hid (k1.below q2)
  have K2 := Lib.hid k2
  have HA := Lib.hid (hA.below BW.out)
  have HB := Lib.hid (hB.below BW.out)
  obtain ⟨c0, c1, c2, c3, c4⟩ := cell5 K1.out
  obtain ⟨d0, d1, d2, d3, d4⟩ := cell5 K2.out
  unfold verV
  clear hA hB k1 k2 q1 q2
  go_enter Tryz.func9, Tryz.ntmps9
  go_wp2_with fail
  refine (equalS_any ao co ac cc A.pre B.pre wb HA.out.pre HB.out.pre HA.out.pl HB.out.pl).mono ?_
  rintro e w1 ⟨rfl, bb⟩
  have B1 := Lib.hid (BW.out.trans (bb.mono BW.out.size))
  have HA1 := Lib.hid (HA.out.below bb)
  have HB1 := Lib.hid (HB.out.below bb)
  have K3 := Lib.hid (K1.out.below bb)
  have K4 := Lib.hid (K2.out.below bb)
  clear bb ha hb c0 c1 c2 c3 c4 d0 d1 d2 d3 d4
  obtain ⟨c0, c1, c2, c3, c4⟩ := cell5 K3.out
  obtain ⟨d0, d1, d2, d3, d4⟩ := cell5 K4.out
  cases hp : decide (A.pre = B.pre)
  · have Hres2 := Lib.hid (show likeVB A B = false by rw [Hres.out, hp]; rfl)
    clear hp
    go_wp2_with fail
    go_ret
    exact ⟨ret_bool Hres2.out.symm, B1.out⟩
  · have Hres2 := Lib.hid (show likeVB A B = decide (A.build = B.build) by rw [Hres.out, hp]; rfl)
    clear hp
    go_wp2_with fail
    refine (equalS_any bo do_ bc dc A.build B.build w1 HA1.out.build HB1.out.build HA1.out.bl HB1.out.bl).mono ?_
    rintro e w2 ⟨rfl, bb⟩
    have B2 := Lib.hid (B1.out.trans (bb.mono B1.out.size))
    clear bb
    go_wp2_with fail
    go_ret
    exact ⟨ret_bool Hres2.out.symm, B2.out⟩
theorem plike_any (A B : Vr) (ao bo co do_ : Option Addr) (ac bc cc dc : Nat) (w : World) (hA : VerC w ao bo A) (hB : VerC w co do_ B) :
    Calls Tryz.prog 9 #[verV A ao ac bo bc, verV B co cc do_ dc] w fun e w' => e = .returned (.bool (likeVB A B)) ∧ Below w.heap.size w w' := by
  by_cases h1 : A.ma = B.ma
  · by_cases h2 : A.mi = B.mi
    · by_cases h3 : A.pa = B.pa
      · exact plike_4 A B ao bo co do_ ac bc cc dc w hA hB h1 h2 h3
      · exact plike_3 A B ao bo co do_ ac bc cc dc w hA hB h1 h2 h3
    · exact plike_2 A B ao bo co do_ ac bc cc dc w hA hB h1 h2
  · exact plike_1 A B ao bo co do_ ac bc cc dc w hA hB h1
end Go.Proofs.YtbdhmelebedpiaaGreatDoor
