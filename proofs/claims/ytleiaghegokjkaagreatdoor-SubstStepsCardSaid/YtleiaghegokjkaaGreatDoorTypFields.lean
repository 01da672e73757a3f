/- The reference's fields: a struct's words. -/
import Derived.Test.YtleiaghegokjkaaGreatDoorTypField
namespace Go.Proofs.YtleiaghegokjkaaGreatDoor
open Go.RowKit
set_option linter.unusedSimpArgs false
set_option linter.unusedVariables false

def clashB (x w : ByteArray) : Bool := (fieldT x).toList == (fieldT w).toList && !blankB (fieldT w)
theorem fieldB_eq (ws : List ByteArray) (i : Nat) (w : ByteArray) : fieldB ws i w = (nameB (fieldT w) && (ws.take i).all (fun x => !clashB x w)) := rfl
theorem fieldB_name {ws : List ByteArray} {i : Nat} {w : ByteArray} (h : nameB (fieldT w) = false) : fieldB ws i w = false := by
  rw [fieldB_eq, h]; rfl
theorem fieldB_clash {ws : List ByteArray} {i j : Nat} {w : ByteArray} (hj : j < i) (hi : i ≤ ws.length) (h : clashB (ws.getD j ⟨#[]⟩) w = true) : fieldB ws i w = false := by
  rw [fieldB_eq, Bool.and_eq_false_iff]
  right
  rw [Bool.eq_false_iff]
  intro ha
  rw [List.all_eq_true] at ha
  have hm : ws.getD j ⟨#[]⟩ ∈ ws.take i := by
    rw [getD_of (by omega)]
    rw [List.mem_take_iff_getElem]
    exact ⟨j, by omega, rfl⟩
  have := ha _ hm
  rw [h] at this
  cases this
theorem fieldB_yes {ws : List ByteArray} {i : Nat} {w : ByteArray} (hn : nameB (fieldT w) = true) (hi : i ≤ ws.length) (h : ∀ j, j < i → clashB (ws.getD j ⟨#[]⟩) w = false) : fieldB ws i w = true := by
  rw [fieldB_eq, hn, Bool.true_and, List.all_eq_true]
  intro x hx
  rw [List.mem_take_iff_getElem] at hx
  obtain ⟨j, hj, rfl⟩ := hx
  have := h j (by omega)
  rw [getD_of (by omega)] at this
  rw [this]; rfl
theorem fieldsB_no {ws : List ByteArray} {k : Nat} (hk : k < ws.length) (h : fieldB ws k (ws.getD k ⟨#[]⟩) = false) : fieldsB ws = false := by
  unfold fieldsB
  rw [Bool.eq_false_iff]
  intro ha
  rw [List.all_eq_true] at ha
  have := ha k (List.mem_range.2 hk)
  rw [h] at this
  cases this
theorem fieldsB_yes {ws : List ByteArray} (h : ∀ k, k < ws.length → fieldB ws k (ws.getD k ⟨#[]⟩) = true) : fieldsB ws = true := by
  unfold fieldsB
  rw [List.all_eq_true]
  intro k hk
  exact h k (List.mem_range.1 hk)
theorem field_size {s : ByteArray} : (fieldT s).size ≤ s.size := by
  unfold fieldT
  split
  · rw [ByteArray.size_extract]; omega
  · exact Nat.le_refl _
set_option maxHeartbeats 4000000 in
set_option maxRecDepth 100000 in
theorem fields_any (t : Ty) (wo ko : Option Addr) (wc kc : Nat) (w : World) (ht : TyC w wo ko t) (hwc : t.words.length ≤ wc) :
    Calls Tryz.prog 36 #[tyV t wo wc ko kc] w fun e w' => e = .returned (.bool (fieldsB t.words && decide (t.words.length = t.kids.length))) ∧ Below w.heap.size w w' := by
  obtain ⟨r, hr⟩ : ∃ r, (fieldsB t.words && decide (t.words.length = t.kids.length)) = r := ⟨_, rfl⟩
  rw [hr]
  have HR := Lib.hid hr
  clear hr
  unfold tyV
  obtain ⟨n, hn⟩ : ∃ n, t.words.length = n := ⟨_, rfl⟩
  obtain ⟨m, hm⟩ : ∃ m, t.kids.length = m := ⟨_, rfl⟩
  have HN := Lib.hid hn
  have HM := Lib.hid hm
  have l1 := ht.ok.wl
  have l2 := ht.ok.kl
  rw [hn] at l1 hwc ⊢
  rw [hm] at l2 ⊢
  have HT := Lib.hid ht
  clear hn hm ht
  obtain ⟨w1, h1⟩ : ∃ w1, w.alloc (.cells #[.int .i64 t.kind, .string t.name, .int .i64 t.n, .slice wo n wc, .slice ko m kc] 41) = w1 := ⟨_, rfl⟩
  obtain ⟨k1, q1, z1⟩ := box_new h1
  have BW := Lib.hid q1
  obtain ⟨x0, x1, x2, x3, x4⟩ := cell5 k1
  have X3 := Lib.hid x3
  have X4 := Lib.hid x4
  clear k1 q1 z1
  go_enter Tryz.func36, Tryz.ntmps36
  go_wp2_with fail
  clear h1 x0 x1 x2 x3 x4
  go_loopw [10] (fun i wr => ∃ k : Nat, k ≤ n ∧ i = .int .i64 k ∧ Hid (∀ j, j < k → fieldB t.words j (t.words.getD j ⟨#[]⟩) = true) ∧ wr = w1) (fun i _ => n - (intOf i).toNat)
  case atStart => exact ⟨0, Nat.zero_le _, rfl, Lib.hid (fun j hj => absurd hj (Nat.not_lt_zero _)), by first | rfl | trivial⟩
  case round =>
    obtain ⟨k, hk, rfl, Hall, rfl⟩ := hrel
    by_cases hkl : k < n
    · obtain ⟨b, o, rfl, hb, hc⟩ := (HT.out.below BW.out).words.cells (by rw [HN.out]; omega)
      have HC := Lib.hid hc
      have cx := hc k (by rw [HN.out]; exact hkl)
      have hsz := HT.out.ok.ws _ (getD_memS (show k < t.words.length by rw [HN.out]; exact hkl))
      obtain ⟨u, hu⟩ : ∃ u, t.words.getD k ⟨#[]⟩ = u := ⟨_, rfl⟩
      have HU := Lib.hid hu
      rw [hu] at cx hsz
      have HF := Lib.hid (field_any u wr (by omega))
      have hfs := field_size (s := u)
      obtain ⟨f, hf⟩ : ∃ f, fieldT u = f := ⟨_, rfl⟩
      have HFE := Lib.hid hf
      rw [hf] at HF hfs
      have HNM := Lib.hid (refName_any f wr (by omega))
      clear hu hc hb hf
      cases h3 : nameB f <;> rw [h3] at HNM <;> have H3 := Lib.hid h3 <;> clear h3
      · have Hn := Lib.hid (show false = r by
          rw [← HR.out, fieldsB_no (k := k) (by rw [HN.out]; exact hkl) (by rw [HU.out]; exact fieldB_name (by rw [HFE.out]; exact H3.out))]; rfl)
        go_wp2_with fail
        refine HF.out.mono ?_
        rintro e w' ⟨rfl, rfl⟩
        go_wp2_with fail
        refine HNM.out.mono ?_
        rintro e w' ⟨rfl, rfl⟩
        go_wp2_with fail
        go_ret
        exact ⟨ret_bool Hn.out, BW.out⟩
      · have x3 := X3.out
        go_wp2_with fail
        refine HF.out.mono ?_
        rintro e w' ⟨rfl, rfl⟩
        go_wp2_with fail
        refine HNM.out.mono ?_
        rintro e w' ⟨rfl, rfl⟩
        go_wp2_with fail
        clear x3 cx
        go_loopw [24] (fun i wr2 => ∃ j : Nat, j ≤ k ∧ i = .int .i64 j ∧ Hid (∀ h, h < j → clashB (t.words.getD h ⟨#[]⟩) u = false) ∧ wr2 = wr) (fun i _ => k - (intOf i).toNat)
        case atStart => exact ⟨0, Nat.zero_le _, rfl, Lib.hid (fun j hj => absurd hj (Nat.not_lt_zero _)), by first | rfl | trivial⟩
        case round =>
          obtain ⟨j, hj, rfl, Hno, rfl⟩ := hrel
          by_cases hjl : j < k
          · have cy := HC.out j (by rw [HN.out]; omega)
            have hsy := HT.out.ok.ws _ (getD_memS (show j < t.words.length by rw [HN.out]; omega))
            obtain ⟨v, hv⟩ : ∃ v, t.words.getD j ⟨#[]⟩ = v := ⟨_, rfl⟩
            have HV := Lib.hid hv
            rw [hv] at cy hsy
            have HG := Lib.hid (field_any v wr (by omega))
            obtain ⟨g, hg⟩ : ∃ g, fieldT v = g := ⟨_, rfl⟩
            have HGE := Lib.hid hg
            rw [hg] at HG
            clear hv hg
            have HCL := Lib.hid (show clashB v u = (g.toList == f.toList && !blankB f) by unfold clashB; rw [HGE.out, HFE.out])
            by_cases he : g.toList = f.toList
            · have hq : (g.toList == f.toList) = true := by rw [beq_iff_eq]; exact he
              by_cases hbl : f.toList = [95]
              · have Hx := Lib.hid (show ∀ h, h < j + 1 → clashB (t.words.getD h ⟨#[]⟩) u = false from fun h hh => by
                  rcases Nat.lt_or_eq_of_le (Nat.le_of_lt_succ hh) with h1 | h1
                  · exact Hno.out h h1
                  · rw [h1, HV.out, HCL.out, hq]; unfold blankB; rw [hbl]; rfl)
                have hq2 : (f.toList == [95]) = true := by rw [beq_iff_eq]; exact hbl
                clear hbl he
                go_wp2_with fail
                refine HG.out.mono ?_
                rintro e w' ⟨rfl, rfl⟩
                go_wp2_with fail
                refine HF.out.mono ?_
                rintro e w' ⟨rfl, rfl⟩
                go_wp2_with fail
                refine HF.out.mono ?_
                rintro e w' ⟨rfl, rfl⟩
                go_wp2_with fail
                go_roundw
                case rel => exact ⟨j + 1, by omega, by go_num, Hx, by first | rfl | trivial⟩
                case measure => simp [intOf]; omega
              · have Hn := Lib.hid (show false = r by
                  rw [← HR.out, fieldsB_no (k := k) (by rw [HN.out]; exact hkl) (by
                    rw [HU.out]
                    refine fieldB_clash hjl (by rw [HN.out]; omega) ?_
                    rw [HV.out, HCL.out, hq]
                    unfold blankB
                    rw [show (f.toList == [95]) = false by rw [beq_eq_false_iff_ne]; exact hbl]
                    rfl)]
                  rfl)
                have hq2 : (f.toList == [95]) = false := by rw [beq_eq_false_iff_ne]; exact hbl
                clear hbl he
                go_wp2_with fail
                refine HG.out.mono ?_
                rintro e w' ⟨rfl, rfl⟩
                go_wp2_with fail
                refine HF.out.mono ?_
                rintro e w' ⟨rfl, rfl⟩
                go_wp2_with fail
                refine HF.out.mono ?_
                rintro e w' ⟨rfl, rfl⟩
                go_wp2_with fail
                go_ret
                exact ⟨ret_bool Hn.out, BW.out⟩
            · have hq : (g.toList == f.toList) = false := by rw [beq_eq_false_iff_ne]; exact he
              have Hx := Lib.hid (show ∀ h, h < j + 1 → clashB (t.words.getD h ⟨#[]⟩) u = false from fun h hh => by
                rcases Nat.lt_or_eq_of_le (Nat.le_of_lt_succ hh) with h1 | h1
                · exact Hno.out h h1
                · rw [h1, HV.out, HCL.out, hq]; rfl)
              go_wp2_with fail
              refine HG.out.mono ?_
              rintro e w' ⟨rfl, rfl⟩
              go_wp2_with fail
              refine HF.out.mono ?_
              rintro e w' ⟨rfl, rfl⟩
              go_wp2_with fail
              go_roundw
              case rel => exact ⟨j + 1, by omega, by go_num, Hx, by first | rfl | trivial⟩
              case measure => simp [intOf]; omega
          · obtain rfl : j = k := by omega
            have Hall2 := Lib.hid (show ∀ h, h < j + 1 → fieldB t.words h (t.words.getD h ⟨#[]⟩) = true from fun h hh => by
              rcases Nat.lt_or_eq_of_le (Nat.le_of_lt_succ hh) with h1 | h1
              · exact Hall.out h h1
              · subst h1
                rw [HU.out]
                exact fieldB_yes (by rw [HFE.out]; exact H3.out) (by rw [HN.out]; omega) Hno.out)
            go_wp2_with fail
            go_roundw
            case rel => exact ⟨j + 1, by omega, by go_num, Hall2, by first | rfl | trivial⟩
            case measure => simp [intOf]; omega
    · obtain rfl : k = n := by omega
      have HF := Lib.hid (show fieldsB t.words = true from fieldsB_yes (fun j hj => Hall.out j (by rw [HN.out] at hj; exact hj)))
      have x3 := X3.out
      have x4 := X4.out
      by_cases hnm : k = m
      · have Hn := Lib.hid (show true = r by rw [← HR.out, HF.out, Bool.true_and, HN.out, HM.out, decide_eq_true hnm])
        have hq : ((k : Int) == (m : Int)) = true := by rw [beq_iff_eq]; omega
        go_wp2_with fail
        go_ret
        exact ⟨ret_bool Hn.out, BW.out⟩
      · have Hn := Lib.hid (show false = r by rw [← HR.out, HF.out, Bool.true_and, HN.out, HM.out, decide_eq_false hnm])
        have hq : ((k : Int) == (m : Int)) = false := by rw [beq_eq_false_iff_ne]; omega
        go_wp2_with fail
        go_ret
        exact ⟨ret_bool Hn.out, BW.out⟩
end Go.Proofs.YtleiaghegokjkaaGreatDoor
