import Derived.Test.YtkmnfkhchcoamaaGreatDoorTypPA
import Derived.Test.YtkmnfkhchcoamaaGreatDoorTypAt
import Derived.StillTailTactics
/- The program's basic and basicPlace. -/
namespace Go.Proofs.YtkmnfkhchcoamaaGreatDoor
open Go.RowKit
set_option linter.unusedSimpArgs false
set_option linter.unusedVariables false

/-- The basic type of a place. -/
def bas (k : Nat) : Ty := if k < 20 then ⟨0, basicNames.getD k ⟨#[]⟩, 0, [], []⟩ else ⟨7, ⟨#[]⟩, (k : Int) - 20, [], []⟩
theorem bas_at : ∀ k, k < 22 → basics[k]? = some (bas k) := by decide
theorem bas_get {k : Nat} (h : k < basics.length) : basics[k] = bas k := by
  have := bas_at k (by rw [basics_len] at h; exact h)
  rw [List.getElem?_eq_getElem h] at this
  injection this
theorem names_size : ∀ k, k < 20 → (basicNames.getD k ⟨#[]⟩).size ≤ 50 := by decide
/-- The listed variable: the basic types' names. -/
def EnvB (w : World) : Prop := ∀ i, i < 20 → w.cell? ⟨0, i, none⟩ = some (.string (basicNames.getD i ⟨#[]⟩))
theorem cell_ltB {w : World} {b o : Nat} {v : Value} (h : w.cell? ⟨b, o, none⟩ = some v) : b < w.heap.size := by
  rcases Nat.lt_or_ge b w.heap.size with h1 | h1
  · exact h1
  · exfalso
    unfold World.cell? at h
    rw [Array.getElem?_eq_none (by simpa using h1)] at h
    cases h
theorem EnvB.below {w w' : World} (h : EnvB w) (hb : Below w.heap.size w w') : EnvB w' := fun i hi => by
  rw [hb.cell (p := ⟨0, i, none⟩) (cell_ltB (h i hi))]; exact h i hi
theorem basC (w : World) (k : Nat) (hk : k < 22) : TyC w none none (bas k) := by
  unfold bas
  split
  · rename_i h
    refine ⟨.inl rfl, .inl rfl, names_size k h, by simp, by simp, by simp, by simp, by simp⟩
  · exact ⟨.inl rfl, .inl rfl, by simp; decide, by simp, by simp, by simp, ⟨by simp, by simp; omega⟩, by simp⟩
set_option maxHeartbeats 1000000 in
set_option maxRecDepth 100000 in
theorem basic_any (t : Ty) (wo ko : Option Addr) (wc kc : Nat) (k : Nat) (hk : k < 22) (w : World) (ht : TyC w wo ko t) (hE : EnvB w) :
    Calls Tryz.prog 68 #[tyV t wo wc ko kc, .int .i64 k] w fun e w' => e = .returned (.bool (decide (t = bas k))) ∧ Below w.heap.size w w' := by
  obtain ⟨r, hr⟩ : ∃ r, decide (t = bas k) = r := ⟨_, rfl⟩
  rw [hr]
  obtain ⟨w1, h1⟩ : ∃ w1, w.alloc (.cells #[.int .i64 t.kind, .string t.name, .int .i64 t.n, .slice wo t.words.length wc, .slice ko t.kids.length kc] 38) = w1 := ⟨_, rfl⟩
  obtain ⟨k1, q1, z1⟩ := box_new h1
  obtain ⟨c0, c1, c2, c3, c4⟩ := cell5 k1
  have BW := Lib.hid q1
  have K1 := Lib.hid k1
  have HS := Lib.hid (fun W (h : Below w1.heap.size w1 W) => psame_any t (bas k) wo ko none none wc kc 0 0 W ((ht.below BW.out).below h) (basC W k hk))
  rw [hr] at HS
  have HE := hE.below q1
  clear hr ht k1 q1 z1 hE
  unfold tyV at HS ⊢
  by_cases h20 : k < 20
  · have hc := HE k h20
    clear HE
    unfold bas at HS
    rw [if_pos h20] at HS
    obtain ⟨s, hs⟩ : ∃ s, basicNames.getD k ⟨#[]⟩ = s := ⟨_, rfl⟩
    rw [hs] at HS hc
    clear hs
    go_enter Tryz.func68, Tryz.ntmps68
    go_wp2_with fail
    go_still_tail 5, (by kernel_rfl)
    clear c0 c1 c2 c3 c4 h1 hc
    change wpList _ _ _ _ _ w1.drew
    have BD := Lib.hid (show Below w1.heap.size w1 w1.drew from (Below.refl _ _).drew)
    generalize w1.drew = w2 at *
    go_wp2_with fail
    refine (HS.out _ BD.out).mono ?_
    rintro e w3 ⟨rfl, b3⟩
    have B3 := Lib.hid (BW.out.trans ((BD.out.trans (b3.mono BD.out.size)).mono BW.out.size))
    clear b3
    go_wp2_with fail
    go_ret
    exact ⟨rfl, B3.out⟩
  · unfold bas at HS
    rw [if_neg h20] at HS
    have hsub : IntKind.i64.wrap ((k : Int) - 20) = (k : Int) - 20 := IntWalk.i64_in _ (by omega)
    clear HE
    go_enter Tryz.func68, Tryz.ntmps68
    go_wp2_with fail
    clear h1
    refine (HS.out _ (Below.refl _ _)).mono ?_
    rintro e w3 ⟨rfl, b3⟩
    have B3 := Lib.hid (BW.out.trans (b3.mono BW.out.size))
    clear b3 c0 c1 c2 c3 c4
    go_wp2_with fail
    go_ret
    exact ⟨rfl, B3.out⟩
theorem bas_kind {k : Nat} (h : k < 22) : (bas k).kind = if k < 20 then 0 else 7 := by unfold bas; split <;> rfl
theorem at_bas {t : Ty} {k : Nat} (hk : k < 22) (h : t = bas k) (hno : ∀ j, j < k → t ≠ bas j) : atT basics t = (k : Int) := by
  have hl : k < basics.length := by rw [basics_len]; exact hk
  exact atT_some hl (by rw [bas_get hl, h]) (fun j hj hjk e => hno j hjk (by rw [← e, bas_get hj]))
theorem at_bas_none {t : Ty} (hno : ∀ j, j < 22 → t ≠ bas j) : atT basics t = -1 :=
  atT_none (fun j hj e => hno j (by rw [basics_len] at hj; exact hj) (by rw [← e, bas_get hj]))
set_option maxHeartbeats 1000000 in
set_option maxRecDepth 100000 in
theorem basicPlace_any (t : Ty) (wo ko : Option Addr) (wc kc : Nat) (w : World) (ht : TyC w wo ko t) (hE : EnvB w) :
    Calls Tryz.prog 69 #[tyV t wo wc ko kc] w fun e w' => e = .returned (.int .i64 (atT basics t)) ∧ Below w.heap.size w w' := by
  obtain ⟨r, hr⟩ : ∃ r, atT basics t = r := ⟨_, rfl⟩
  rw [hr]
  obtain ⟨w1, h1⟩ : ∃ w1, w.alloc (.cells #[.int .i64 t.kind, .string t.name, .int .i64 t.n, .slice wo t.words.length wc, .slice ko t.kids.length kc] 38) = w1 := ⟨_, rfl⟩
  obtain ⟨k1, q1, z1⟩ := box_new h1
  obtain ⟨c0, c1, c2, c3, c4⟩ := cell5 k1
  have BW := Lib.hid q1
  have K1 := Lib.hid k1
  have HS := Lib.hid (fun W (h : Below w1.heap.size w1 W) k (hk : k < 22) => basic_any t wo ko wc kc k hk W ((ht.below BW.out).below h) ((hE.below BW.out).below h))
  have HR := Lib.hid hr
  have HT := Lib.hid (show ∃ z, t = z from ⟨_, rfl⟩)
  clear hr ht k1 q1 z1 hE
  unfold tyV at HS ⊢
  by_cases h7 : t.kind = 7
  · have HR2 := Lib.hid (show (∀ k, 20 ≤ k → k < 22 → t = bas k → (∀ j, 20 ≤ j → j < k → t ≠ bas j) → (k : Int) = r) ∧ ((∀ j, 20 ≤ j → j < 22 → t ≠ bas j) → (-1 : Int) = r) from by
      have hlow : ∀ j, j < 20 → t ≠ bas j := fun j hj e => by
        have := bas_kind (k := j) (by omega)
        rw [if_pos hj, ← e, h7] at this
        exact absurd this (by decide)
      refine ⟨fun k h20 hk e hno => ?_, fun hno => ?_⟩
      · rw [← HR.out]
        exact (at_bas hk e (fun j hj => (Nat.lt_or_ge j 20).elim (hlow j) (fun g => hno j g hj))).symm
      · rw [← HR.out]
        exact (at_bas_none (fun j hj => (Nat.lt_or_ge j 20).elim (hlow j) (fun g => hno j g hj))).symm)
    rw [h7] at HS K1 h1 c0 ⊢
    clear h7
    go_enter Tryz.func69, Tryz.ntmps69
    go_wp2_with fail
    clear h1 c0 c1 c2 c3 c4
    go_loopw [5] (fun i wr => ∃ k : Nat, 20 ≤ k ∧ k ≤ 22 ∧ i = .int .i64 k ∧ Hid (∀ j, 20 ≤ j → j < k → t ≠ bas j) ∧ Hid (Below w1.heap.size w1 wr)) (fun i _ => 22 - (intOf i).toNat)
    case atStart => exact ⟨20, by omega, by omega, rfl, Lib.hid (fun j _ _ => by omega), Lib.hid (Below.refl _ _)⟩
    case round =>
      obtain ⟨k, hk0, hk, rfl, Hno, HB⟩ := hrel
      obtain ⟨c0, c1, c2, c3, c4⟩ := cell5 (K1.out.below HB.out)
      by_cases hkl : k < 22
      · have HC := Lib.hid (HS.out wr HB.out k hkl)
        by_cases he : t = bas k
        · rw [decide_eq_true he] at HC
          have HV := Lib.hid (HR2.out.1 k hk0 hkl he Hno.out)
          clear he
          go_wp2_with fail
          refine HC.out.mono ?_
          rintro e w3 ⟨rfl, b3⟩
          have B3 := Lib.hid (BW.out.trans ((HB.out.trans (b3.mono HB.out.size)).mono BW.out.size))
          clear b3 c0 c1 c2 c3 c4
          go_wp2_with fail
          go_ret
          exact ⟨ret_int HV.out, B3.out⟩
        · rw [decide_eq_false he] at HC
          have HN := Lib.hid (show ∀ j, 20 ≤ j → j < k + 1 → t ≠ bas j from fun j h20 hj => by
            rcases Nat.lt_or_eq_of_le (Nat.le_of_lt_succ hj) with h3 | h3
            · exact Hno.out j h20 h3
            · rw [h3]; exact he)
          clear he
          go_wp2_with fail
          refine HC.out.mono ?_
          rintro e w3 ⟨rfl, b3⟩
          have B3 := Lib.hid (HB.out.trans (b3.mono HB.out.size))
          clear b3 c0 c1 c2 c3 c4
          go_wp2_with fail
          go_roundw
          case rel => exact ⟨k + 1, by omega, by omega, by go_num, HN, B3⟩
          case measure => simp [intOf]; omega
      · obtain rfl : k = 22 := by omega
        have HV := Lib.hid (HR2.out.2 Hno.out)
        have BE := Lib.hid (BW.out.trans (HB.out.mono BW.out.size))
        clear c0 c1 c2 c3 c4
        go_wp2_with fail
        go_ret
        exact ⟨ret_int HV.out, BE.out⟩
  by_cases h0 : t.kind = 0
  · have HR2 := Lib.hid (show (∀ k, k < 20 → t = bas k → (∀ j, j < k → t ≠ bas j) → (k : Int) = r) ∧ ((∀ j, j < 20 → t ≠ bas j) → (-1 : Int) = r) from by
      have hhigh : ∀ j, 20 ≤ j → j < 22 → t ≠ bas j := fun j hj hj2 e => by
        have := bas_kind hj2
        rw [if_neg (by omega), ← e, h0] at this
        exact absurd this (by decide)
      refine ⟨fun k hk e hno => ?_, fun hno => ?_⟩
      · rw [← HR.out]
        exact (at_bas (by omega) e hno).symm
      · rw [← HR.out]
        exact (at_bas_none (fun j hj => (Nat.lt_or_ge j 20).elim (hno j) (fun g => hhigh j g hj))).symm)
    rw [h0] at HS K1 h1 c0 ⊢
    clear h0 h7
    go_enter Tryz.func69, Tryz.ntmps69
    go_wp2_with fail
    clear h1 c0 c1 c2 c3 c4
    go_loopw [5] (fun i wr => ∃ k : Nat, k ≤ 20 ∧ i = .int .i64 k ∧ Hid (∀ j, j < k → t ≠ bas j) ∧ Hid (Below w1.heap.size w1 wr)) (fun i _ => 20 - (intOf i).toNat)
    case atStart => exact ⟨0, by omega, rfl, Lib.hid (fun j _ => by omega), Lib.hid (Below.refl _ _)⟩
    case round =>
      obtain ⟨k, hk, rfl, Hno, HB⟩ := hrel
      obtain ⟨c0, c1, c2, c3, c4⟩ := cell5 (K1.out.below HB.out)
      by_cases hkl : k < 20
      · have HC := Lib.hid (HS.out wr HB.out k (by omega))
        by_cases he : t = bas k
        · rw [decide_eq_true he] at HC
          have HV := Lib.hid (HR2.out.1 k hkl he Hno.out)
          clear he
          go_wp2_with fail
          refine HC.out.mono ?_
          rintro e w3 ⟨rfl, b3⟩
          have B3 := Lib.hid (BW.out.trans ((HB.out.trans (b3.mono HB.out.size)).mono BW.out.size))
          clear b3 c0 c1 c2 c3 c4
          go_wp2_with fail
          go_ret
          exact ⟨ret_int HV.out, B3.out⟩
        · rw [decide_eq_false he] at HC
          have HN := Lib.hid (show ∀ j, j < k + 1 → t ≠ bas j from fun j hj => by
            rcases Nat.lt_or_eq_of_le (Nat.le_of_lt_succ hj) with h3 | h3
            · exact Hno.out j h3
            · rw [h3]; exact he)
          clear he
          go_wp2_with fail
          refine HC.out.mono ?_
          rintro e w3 ⟨rfl, b3⟩
          have B3 := Lib.hid (HB.out.trans (b3.mono HB.out.size))
          clear b3 c0 c1 c2 c3 c4
          go_wp2_with fail
          go_roundw
          case rel => exact ⟨k + 1, by omega, by go_num, HN, B3⟩
          case measure => simp [intOf]; omega
      · obtain rfl : k = 20 := by omega
        have HV := Lib.hid (HR2.out.2 Hno.out)
        have BE := Lib.hid (BW.out.trans (HB.out.mono BW.out.size))
        clear c0 c1 c2 c3 c4
        go_wp2_with fail
        go_ret
        exact ⟨ret_int HV.out, BE.out⟩
  · have HV := Lib.hid (show (-1 : Int) = r from by
      rw [← HR.out]
      exact (at_bas_none (fun j hj e => by
        have := bas_kind hj
        rw [← e] at this
        split at this <;> contradiction)).symm)
    have hq7 : (t.kind == 7) = false := by rw [beq_eq_false_iff_ne]; exact h7
    have hq0 : (t.kind != 0) = true := by rw [bne_iff_ne]; exact h0
    clear h7 h0
    generalize t.kind = kd at *
    go_enter Tryz.func69, Tryz.ntmps69
    go_wp2_with fail
    go_ret
    exact ⟨ret_int HV.out, BW.out⟩
end Go.Proofs.YtkmnfkhchcoamaaGreatDoor

