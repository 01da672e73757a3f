/- compare, compareWords, CompareFunc, Or. -/
import Derived.Test.YtbdhmelebedpiaaGreatDoorSemFewV
import Derived.WalkLawsBesides
namespace Go.Proofs.YtbdhmelebedpiaaGreatDoor
open Go.RowKit

set_option maxHeartbeats 1000000 in
theorem cmpInt_any (a b : Int) (w : World) :
    Calls Tryz.prog 18 #[.int .i64 a, .int .i64 b] w fun e w' => e = .returned (.int .i64 (sgn a b)) ∧ w = w' := by
  rcases Int.lt_trichotomy a b with h | h | h
  · have Hn := Lib.hid (sgn_neg h)
    go_enter Tryz.func18, Tryz.ntmps18
    go_wp2_with fail
    go_ret
    exact ⟨ret_int Hn.out.symm, rfl⟩
  · have Hn := Lib.hid (sgn_zero h)
    subst h
    go_enter Tryz.func18, Tryz.ntmps18
    go_wp2_with fail
    go_ret
    exact ⟨ret_int Hn.out.symm, rfl⟩
  · have Hn := Lib.hid (sgn_pos h)
    have h2 : decide (a < b) = false := decide_eq_false (by omega)
    have h3 : ¬ a < b := by omega
    go_enter Tryz.func18, Tryz.ntmps18
    go_wp2_with fail
    go_ret
    exact ⟨ret_int Hn.out.symm, rfl⟩
set_option maxHeartbeats 1000000 in
theorem cmpStr_any (a b : ByteArray) (w : World) :
    Calls Tryz.prog 43 #[.string a, .string b] w fun e w' => e = .returned (.int .i64 (cmpS a b)) ∧ w = w' := by
  cases h : Op.bytesLess a.toList b.toList
  · cases h2 : Op.bytesLess b.toList a.toList
    · have Hn := Lib.hid (show cmpS a b = 0 by unfold cmpS; rw [h, h2]; rfl)
      have he : (a.toList == b.toList) = true := by rw [less_tri _ _ h h2, beq_self_eq_true]
      go_enter Tryz.func43, Tryz.ntmps43
      go_wp2_with fail
      go_ret
      exact ⟨ret_int Hn.out.symm, rfl⟩
    · have Hn := Lib.hid (show cmpS a b = 1 by unfold cmpS; rw [h, h2]; rfl)
      have he : (a.toList == b.toList) = false := by
        rw [beq_eq_false_iff_ne]
        intro e
        rw [e, less_irr] at h2
        cases h2
      go_enter Tryz.func43, Tryz.ntmps43
      go_wp2_with fail
      go_ret
      exact ⟨ret_int Hn.out.symm, rfl⟩
  · have Hn := Lib.hid (show cmpS a b = -1 by unfold cmpS; rw [h]; rfl)
    go_enter Tryz.func43, Tryz.ntmps43
    go_wp2_with fail
    go_ret
    exact ⟨ret_int Hn.out.symm, rfl⟩
set_option maxHeartbeats 2000000 in
theorem compareWords_any (a b : ByteArray) (w : World) (ha : a.size ≤ 1000) (hb : b.size ≤ 1000) (hE : Errs w) :
    Calls Tryz.prog 20 #[.string a, .string b] w fun e w' => e = .returned (.int .i64 (cmpWord a b)) ∧ Below w.heap.size w w' := by
  have NA := fun w => Lib.hid (numeric_any a w (by omega))
  have NB := fun w => Lib.hid (numeric_any b w (by omega))
  have HA := Lib.hid (number_any a w (by omega) hE)
  have HB := fun w1 (h : Below w.heap.size w w1) => Lib.hid (number_any b w1 (by omega) (hE.below h))
  have HS := Lib.hid (cmpStr_any a b w)
  clear hE
  unfold cmpWord
  cases h1 : numB a <;> rw [h1] at NA <;> clear h1
  · cases h2 : numB b <;> rw [h2] at NB <;> clear h2
    · simp only [Bool.false_eq_true, if_false]
      go_enter Tryz.func20, Tryz.ntmps20
      go_wp2_with fail
      refine (NA _).out.mono ?_
      rintro e w' ⟨rfl, rfl⟩
      go_wp2_with fail
      refine (NA _).out.mono ?_
      rintro e w' ⟨rfl, rfl⟩
      go_wp2_with fail
      refine (NB _).out.mono ?_
      rintro e w' ⟨rfl, rfl⟩
      go_wp2_with fail
      refine HS.out.mono ?_
      rintro e w' ⟨rfl, rfl⟩
      go_wp2_with fail
      go_ret
      exact ⟨rfl, Below.refl _ _⟩
    · simp only [Bool.false_eq_true, if_false, if_true]
      go_enter Tryz.func20, Tryz.ntmps20
      go_wp2_with fail
      refine (NA _).out.mono ?_
      rintro e w' ⟨rfl, rfl⟩
      go_wp2_with fail
      refine (NA _).out.mono ?_
      rintro e w' ⟨rfl, rfl⟩
      go_wp2_with fail
      refine (NB _).out.mono ?_
      rintro e w' ⟨rfl, rfl⟩
      go_wp2_with fail
      go_ret
      exact ⟨rfl, Below.refl _ _⟩
  · cases h2 : numB b <;> rw [h2] at NB <;> clear h2
    · simp only [Bool.false_eq_true, if_false, if_true]
      go_enter Tryz.func20, Tryz.ntmps20
      go_wp2_with fail
      refine (NA _).out.mono ?_
      rintro e w' ⟨rfl, rfl⟩
      go_wp2_with fail
      refine (NB _).out.mono ?_
      rintro e w' ⟨rfl, rfl⟩
      go_wp2_with fail
      refine (NA _).out.mono ?_
      rintro e w' ⟨rfl, rfl⟩
      go_wp2_with fail
      go_ret
      exact ⟨rfl, Below.refl _ _⟩
    · simp only [if_true]
      obtain ⟨x, p, hx⟩ : ∃ x p, numRes a = (x, p) := ⟨_, _, rfl⟩
      obtain ⟨y, q, hy⟩ : ∃ y q, numRes b = (y, q) := ⟨_, _, rfl⟩
      rw [hx] at HA ⊢
      rw [hy] at HB ⊢
      clear hx hy
      simp only at HA HB ⊢
      go_enter Tryz.func20, Tryz.ntmps20
      go_wp2_with fail
      refine (NA _).out.mono ?_
      rintro e w' ⟨rfl, rfl⟩
      go_wp2_with fail
      refine (NB _).out.mono ?_
      rintro e w' ⟨rfl, rfl⟩
      go_wp2_with fail
      refine HA.out.mono ?_
      rintro e w1 ⟨rfl, b1⟩
      have HB' := HB _ b1
      have B1 := Lib.hid b1
      clear HB b1
      go_wp2_with fail
      refine HB'.out.mono ?_
      rintro e w2 ⟨rfl, b2⟩
      have B2 := Lib.hid (B1.out.trans (b2.mono B1.out.size))
      clear b2
      go_wp2_with fail
      refine (cmpInt_any _ _ _).mono ?_
      rintro e w' ⟨rfl, rfl⟩
      go_wp2_with fail
      go_ret
      exact ⟨rfl, B2.out⟩
theorem cmpL_cons {xs ys : List ByteArray} {k : Nat} (h1 : k < xs.length) (h2 : k < ys.length) : cmpL (xs.drop k) (ys.drop k) = if cmpWord xs[k] ys[k] = 0 then cmpL (xs.drop (k + 1)) (ys.drop (k + 1)) else cmpWord xs[k] ys[k] := by
  rw [List.drop_eq_getElem_cons h1, List.drop_eq_getElem_cons h2, cmpL]
theorem cmpL_gt {xs ys : List ByteArray} {k : Nat} (h1 : k < xs.length) (h2 : ys.length ≤ k) : cmpL (xs.drop k) (ys.drop k) = 1 := by
  rw [List.drop_eq_getElem_cons h1, List.drop_eq_nil_of_le h2, cmpL]
theorem cmpL_lt {xs ys : List ByteArray} {k : Nat} (h1 : xs.length ≤ k) (h2 : k < ys.length) : cmpL (xs.drop k) (ys.drop k) = -1 := by
  rw [List.drop_eq_getElem_cons h2, List.drop_eq_nil_of_le h1, cmpL]
theorem cmpL_eq {xs ys : List ByteArray} {k : Nat} (h1 : xs.length ≤ k) (h2 : ys.length ≤ k) : cmpL (xs.drop k) (ys.drop k) = 0 := by
  rw [List.drop_eq_nil_of_le h1, List.drop_eq_nil_of_le h2, cmpL]
set_option maxHeartbeats 4000000 in
theorem compareFunc_any (ao bo : Option Addr) (ac bc : Nat) (xs ys : List ByteArray) (w : World) (ra : SRow w ao xs) (rb : SRow w bo ys) (za : ∀ s ∈ xs, s.size ≤ 1000) (zb : ∀ s ∈ ys, s.size ≤ 1000) (la : xs.length ≤ 1000) (lb : ys.length ≤ 1000) (hE : Errs w) :
    Calls Tryz.prog 19 #[.slice ao xs.length ac, .slice bo ys.length bc, .func (.func 20) #[] #[]] w fun e w' => e = .returned (.int .i64 (cmpL xs ys)) ∧ Below w.heap.size w w' := by
  have RA := Lib.hid ra
  have RB := Lib.hid rb
  have ZA := Lib.hid za
  have ZB := Lib.hid zb
  have HE := Lib.hid hE
  obtain ⟨R, hR⟩ : ∃ R, cmpL xs ys = R := ⟨_, rfl⟩
  have HR := Lib.hid hR
  rw [hR]
  clear hR ra rb za zb hE
  go_enter Tryz.func19, Tryz.ntmps19
  go_wp2_with fail
  go_loopw [13] (fun i wr => ∃ k : Nat, k ≤ xs.length ∧ k ≤ ys.length ∧ i = .int .i64 k ∧ Hid (cmpL (xs.drop k) (ys.drop k) = R) ∧ Hid (Below w.heap.size w wr)) (fun i _ => xs.length - (intOf i).toNat)
  case atStart => exact ⟨0, Nat.zero_le _, Nat.zero_le _, rfl, HR, Lib.hid (Below.refl _ _)⟩
  case round =>
    obtain ⟨k, hk, hk2, rfl, Hok, HB⟩ := hrel
    by_cases hlt : k < xs.length
    · obtain ⟨b, off, rfl, hb, hc⟩ := (RA.out.below HB.out).cells (by omega)
      have hck := hc k hlt
      have zk := ZA.out _ (List.getElem_mem hlt)
      clear hc
      by_cases hlt2 : k < ys.length
      · obtain ⟨b2, off2, rfl, hb2, hc2⟩ := (RB.out.below HB.out).cells (by omega)
        have hck2 := hc2 k hlt2
        have zk2 := ZB.out _ (List.getElem_mem hlt2)
        clear hc2
        have Hnx := Lib.hid (cmpL_cons hlt hlt2)
        obtain ⟨s, hs⟩ : ∃ s, xs[k] = s := ⟨_, rfl⟩
        obtain ⟨t, ht⟩ : ∃ t, ys[k] = t := ⟨_, rfl⟩
        rw [hs] at hck zk Hnx
        rw [ht] at hck2 zk2 Hnx
        clear hs ht
        have HC := Lib.hid (compareWords_any s t wr zk zk2 (HE.out.below HB.out))
        obtain ⟨c, hc⟩ : ∃ c, cmpWord s t = c := ⟨_, rfl⟩
        rw [hc] at Hnx HC
        clear hc
        have hge : decide ((ys.length : Int) ≤ (k : Int)) = false := decide_eq_false (by omega)
        have hge' : decide (ys.length ≤ k) = false := decide_eq_false (by omega)
        by_cases h0 : c = 0
        · have Hn2 := Lib.hid (show cmpL (xs.drop (k + 1)) (ys.drop (k + 1)) = R by have := Hnx.out; rw [if_pos h0] at this; rw [← this]; exact Hok.out)
          subst h0
          go_wp2_with fail
          refine HC.out.mono ?_
          rintro e w1 ⟨rfl, b1⟩
          have B1 := Lib.hid (HB.out.trans (b1.mono HB.out.size))
          clear b1
          go_wp2_with fail
          go_roundw
          case rel => exact ⟨k + 1, by omega, by omega, by go_num, Hn2, B1⟩
          case measure => simp [intOf]; omega
        · have Hn2 := Lib.hid (show c = R by have := Hnx.out; rw [if_neg h0] at this; rw [← this]; exact Hok.out)
          have hne : (c != 0) = true := by rw [bne_iff_ne]; exact h0
          clear h0
          go_wp2_with fail
          refine HC.out.mono ?_
          rintro e w1 ⟨rfl, b1⟩
          have B1 := Lib.hid (HB.out.trans (b1.mono HB.out.size))
          clear b1
          go_wp2_with fail
          go_ret
          exact ⟨ret_int Hn2.out, B1.out⟩
      · have Hn2 := Lib.hid (show 1 = R by rw [← Hok.out]; exact (cmpL_gt hlt (by omega)).symm)
        obtain rfl : k = ys.length := by omega
        go_wp2_with fail
        go_ret
        exact ⟨ret_int Hn2.out, HB.out⟩
    · obtain rfl : k = xs.length := by omega
      by_cases hlt2 : xs.length < ys.length
      · have Hn2 := Lib.hid (show -1 = R by rw [← Hok.out]; exact (cmpL_lt (Nat.le_refl _) hlt2).symm)
        go_wp2_with fail
        go_ret
        exact ⟨ret_int Hn2.out, HB.out⟩
      · have Hn2 := Lib.hid (show 0 = R by rw [← Hok.out]; exact (cmpL_eq (Nat.le_refl _) (by omega)).symm)
        go_wp2_with fail
        go_ret
        exact ⟨ret_int Hn2.out, HB.out⟩
def OrUp (a b c : Int) (k : Nat) : Prop := (0 < k → a = 0) ∧ (1 < k → b = 0) ∧ (2 < k → c = 0)
set_option maxHeartbeats 2000000 in
theorem or_any (a b c : Int) (g : Nat) (cap : Nat) (w : World) (ha : w.cell? ⟨g, 0, none⟩ = some (.int .i64 a)) (hb : w.cell? ⟨g, 1, none⟩ = some (.int .i64 b)) (hc : w.cell? ⟨g, 2, none⟩ = some (.int .i64 c)) :
    Calls Tryz.prog 17 #[.slice (some ⟨g, 0, none⟩) 3 cap] w fun e w' => e = .returned (.int .i64 (orI a (orI b c))) ∧ w = w' := by
  unfold orI
  go_enter Tryz.func17, Tryz.ntmps17
  go_wp2_with fail
  go_loop [8] (fun i => ∃ k : Nat, k ≤ 3 ∧ i = .int .i64 k ∧ OrUp a b c k) (fun i => 3 - (intOf i).toNat)
  case atStart => exact ⟨0, by omega, rfl, ⟨by omega, by omega, by omega⟩⟩
  case round =>
    obtain ⟨k, hk, rfl, Hok⟩ := hrel
    have hways : k = 0 ∨ k = 1 ∨ k = 2 ∨ k = 3 := by omega
    rcases hways with rfl | rfl | rfl | rfl
    · by_cases h : a = 0
      · subst h
        go_wp2_with fail
        go_round
        case rel => exact ⟨1, by omega, by go_num, ⟨fun _ => rfl, by omega, by omega⟩⟩
        case measure => simp [intOf]
      · have hn : (a != 0) = true := by rw [bne_iff_ne]; exact h
        go_wp2_with fail
        go_ret
        exact ⟨ret_int rfl, rfl⟩
    · have h0 := Hok.1 (by omega)
      subst h0
      by_cases h : b = 0
      · subst h
        go_wp2_with fail
        go_round
        case rel => exact ⟨2, by omega, by go_num, ⟨fun _ => rfl, fun _ => rfl, by omega⟩⟩
        case measure => simp [intOf]
      · have hn : (b != 0) = true := by rw [bne_iff_ne]; exact h
        go_wp2_with fail
        go_ret
        exact ⟨ret_int rfl, rfl⟩
    · have h0 := Hok.1 (by omega)
      have h1 := Hok.2.1 (by omega)
      subst h0
      subst h1
      by_cases h : c = 0
      · subst h
        go_wp2_with fail
        go_round
        case rel => exact ⟨3, by omega, by go_num, ⟨fun _ => rfl, fun _ => rfl, fun _ => rfl⟩⟩
        case measure => simp [intOf]
      · have hn : (c != 0) = true := by rw [bne_iff_ne]; exact h
        go_wp2_with fail
        go_ret
        exact ⟨ret_int rfl, rfl⟩
    · have h0 := Hok.1 (by omega)
      have h1 := Hok.2.1 (by omega)
      have h2 := Hok.2.2 (by omega)
      subst h0
      subst h1
      subst h2
      go_wp2_with fail
      go_ret
      exact ⟨ret_int rfl, rfl⟩
end Go.Proofs.YtbdhmelebedpiaaGreatDoor
