import Derived.Test.YtkmnfkhchcoamaaGreatDoorUnA
import Derived.Test.YtkmnfkhchcoamaaGreatDoorTyA
import Derived.Test.YtkmnfkhchcoamaaGreatDoorSubRA
/- The reference's Twofold, At, Is, Asks. -/
namespace Go.Proofs.YtkmnfkhchcoamaaGreatDoor
open Go.RowKit
set_option linter.unusedSimpArgs false
set_option linter.unusedVariables false

theorem cell2 {w : World} {b : Nat} {a0 a1 : Value} {T : TypeId} (h : BlockAt w b #[a0, a1] T) : w.cell? ⟨b, 0, none⟩ = some a0 ∧ w.cell? ⟨b, 1, none⟩ = some a1 := ⟨h.cell 0, h.cell 1⟩
theorem cell4 {w : World} {b : Nat} {a0 a1 a2 a3 : Value} {T : TypeId} (h : BlockAt w b #[a0, a1, a2, a3] T) : w.cell? ⟨b, 0, none⟩ = some a0 ∧ w.cell? ⟨b, 1, none⟩ = some a1 ∧ w.cell? ⟨b, 2, none⟩ = some a2 ∧ w.cell? ⟨b, 3, none⟩ = some a3 := ⟨h.cell 0, h.cell 1, h.cell 2, h.cell 3⟩
def noU : Nm := ⟨⟨#[]⟩, [], 0, []⟩
set_option maxHeartbeats 1000000 in
theorem twofold_any (s : ByteArray) (w : World) (hs : s.size ≤ 1000) :
    Calls Tryz.prog 44 #[.string s] w fun e w' => e = .returned (.bool (namedB s)) ∧ w = w' := by
  go_enter Tryz.func44, Tryz.ntmps44
  go_wp2_with fail
  go_loopw [3] (fun i wr => ∃ k : Nat, k ≤ s.size ∧ i = .int .i64 k ∧ Hid (NoDot s k) ∧ wr = w) (fun i _ => s.size - (intOf i).toNat)
  case atStart => exact ⟨0, Nat.zero_le _, rfl, Lib.hid (fun j hj => absurd hj (Nat.not_lt_zero _)), rfl⟩
  case round =>
    obtain ⟨k, hk, rfl, Hno, rfl⟩ := hrel
    by_cases hkl : k < s.size
    · have hb := byteAt_eq hkl
      by_cases hq : byteAt s k = 46
      · have h2 : (s[k].toNat : Int) = 46 := by rw [← hb]; exact hq
        have H1 := Lib.hid (refName_any (s.extract 0 k) wr (by rw [ByteArray.size_extract]; omega))
        have H2 := Lib.hid (refName_any (s.extract (k + 1) s.size) wr (by rw [ByteArray.size_extract]; omega))
        have HR := Lib.hid (show (nameB (s.extract 0 k) && nameB (s.extract (k + 1) s.size)) = namedB s by unfold namedB; rw [dot_some hkl Hno.out hq])
        clear hq hb
        cases h3 : nameB (s.extract 0 k) <;> rw [h3] at H1 HR <;> clear h3
        · rw [Bool.false_and] at HR
          go_wp2_with fail
          refine H1.out.mono ?_
          rintro e w' ⟨rfl, rfl⟩
          go_wp2_with fail
          go_ret
          exact ⟨ret_bool HR.out, rfl⟩
        · rw [Bool.true_and] at HR
          go_wp2_with fail
          refine H1.out.mono ?_
          rintro e w' ⟨rfl, rfl⟩
          go_wp2_with fail
          refine H2.out.mono ?_
          rintro e w' ⟨rfl, rfl⟩
          go_wp2_with fail
          go_ret
          exact ⟨ret_bool HR.out, rfl⟩
      · have h2 : ¬ (s[k].toNat : Int) = 46 := by rw [← hb]; exact hq
        have Hno2 := Lib.hid (show NoDot s (k + 1) from fun j hj => by
          rcases Nat.lt_or_eq_of_le (Nat.le_of_lt_succ hj) with h1 | h1
          · exact Hno.out j h1
          · rw [h1]; exact hq)
        clear hq hb
        go_wp2_with fail
        go_roundw
        case rel => exact ⟨k + 1, by omega, by go_num, Hno2, by first | rfl | trivial⟩
        case measure => simp [intOf]; omega
    · obtain rfl : k = s.size := by omega
      have HR := Lib.hid (show false = namedB s by unfold namedB; rw [dot_none Hno.out])
      go_wp2_with fail
      go_ret
      exact ⟨ret_bool HR.out, rfl⟩
theorem atU_some {ns : List Nm} {s : ByteArray} {k : Nat} (hk : k < ns.length) (h : ns[k].name = s) (hno : ∀ j (hj : j < ns.length), j < k → ns[j].name ≠ s) : atU ns s = (k : Int) := by
  unfold atU
  have : ns.findIdx? (fun n => decide (n.name = s)) = some k := by
    rw [List.findIdx?_eq_some_iff_getElem]
    exact ⟨hk, decide_eq_true h, fun j hj => by simpa using hno j (by omega) hj⟩
  rw [this]
theorem atU_none {ns : List Nm} {s : ByteArray} (hno : ∀ j (hj : j < ns.length), ns[j].name ≠ s) : atU ns s = -1 := by
  unfold atU
  have : ns.findIdx? (fun n => decide (n.name = s)) = none := by
    rw [List.findIdx?_eq_none_iff]
    intro x hx
    obtain ⟨j, hj, rfl⟩ := List.getElem_of_mem hx
    simpa using hno j hj
  rw [this]
set_option maxHeartbeats 4000000 in
set_option maxRecDepth 100000 in
theorem refat_any (u : Un) (ao no : Option Addr) (ac nc : Nat) (s : ByteArray) (w : World) (hU : UnC w ao no ac nc u) :
    Calls Tryz.prog 12 #[unV u ao ac no nc, .string s] w fun e w' => e = .returned (.int .i64 (atU u.named s)) ∧ Below w.heap.size w w' := by
  unfold unV
  obtain ⟨R, hR⟩ : ∃ R, atU u.named s = R := ⟨_, rfl⟩
  rw [hR]
  have HR := Lib.hid hR
  have HU := Lib.hid hU
  have hnl := hU.nl
  obtain ⟨n, hn⟩ : ∃ n, u.named.length = n := ⟨_, rfl⟩
  have HN := Lib.hid hn
  rw [hn] at hnl ⊢
  obtain ⟨w1, h1⟩ : ∃ w1, w.alloc (.cells #[.slice ao u.types.length ac, .slice no n nc] 25) = w1 := ⟨_, rfl⟩
  obtain ⟨k1, q1, z1⟩ := box_new h1
  have B1 := Lib.hid q1
  obtain ⟨c0, c1⟩ := cell2 k1
  clear hU hn k1 q1 z1 hR
  go_enter Tryz.func12, Tryz.ntmps12
  go_wp2_with fail
  clear c0 c1 h1
  go_loopw [10] (fun i wr => ∃ k : Nat, k ≤ n ∧ i = .int .i64 k ∧ Hid (∀ j (hj : j < u.named.length), j < k → u.named[j].name ≠ s) ∧ Hid (Below w.heap.size w wr)) (fun i _ => n - (intOf i).toNat)
  case atStart => exact ⟨0, Nat.zero_le _, rfl, Lib.hid (fun j hj h => absurd h (Nat.not_lt_zero _)), B1⟩
  case round =>
    obtain ⟨k, hk, rfl, Hno, HB⟩ := hrel
    by_cases hkn : k < n
    · have hkI : (k : Int) < (n : Int) := by omega
      have hkl : k < u.named.length := by rw [HN.out]; exact hkn
      obtain ⟨b, o, rfl, hb, hc⟩ := HU.out.named.cells (by omega)
      obtain ⟨bo, bc, mo, mc, a0', a1', a2', a3', -, -, -⟩ := hc k hkl
      have a0 := (HB.out.cell hb).trans a0'
      have a1 := (HB.out.cell hb).trans a1'
      have a2 := (HB.out.cell hb).trans a2'
      have a3 := (HB.out.cell hb).trans a3'
      obtain ⟨x, hx⟩ : ∃ x, u.named[k] = x := ⟨_, rfl⟩
      rw [hx] at a0 a1 a2 a3
      have HX := Lib.hid hx
      obtain ⟨wn, hwn⟩ : ∃ wn, wr.alloc (.cells #[.string x.name, .slice bo x.bounds.length bc, .int .i64 x.under, .slice mo x.methods.length mc] 51) = wn := ⟨_, rfl⟩
      obtain ⟨kx, qx, zx⟩ := box_new hwn
      have BN := Lib.hid (HB.out.trans (qx.mono HB.out.size))
      obtain ⟨d0, d1, d2, d3⟩ := cell4 kx
      clear hc a0' a1' a2' a3' hx kx qx zx hb
      by_cases he : x.name = s
      · have HV := Lib.hid (show (k : Int) = R by rw [← HR.out]; exact (atU_some hkl (by rw [HX.out]; exact he) Hno.out).symm)
        have hq : (x.name.toList == s.toList) = true := (ty_str_eq x.name s).trans (decide_eq_true he)
        clear he
        go_wp2_with fail
        go_ret
        exact ⟨ret_int HV.out, BN.out⟩
      · have Hno2 := Lib.hid (show ∀ j (hj : j < u.named.length), j < k + 1 → u.named[j].name ≠ s from fun j hj h => by
          rcases Nat.lt_or_eq_of_le (Nat.le_of_lt_succ h) with g | g
          · exact Hno.out j hj g
          · subst g; rw [HX.out]; exact he)
        have hq : (x.name.toList == s.toList) = false := (ty_str_eq x.name s).trans (decide_eq_false he)
        clear he
        go_wp2_with fail
        go_roundw
        case rel => exact ⟨k + 1, by omega, by go_num, Hno2, BN⟩
        case measure => first | (simp [intOf]; done) | (simp [intOf]; omega)
    · obtain rfl : k = n := by omega
      have HV := Lib.hid (show (-1 : Int) = R by rw [← HR.out]; exact (atU_none (fun j hj => Hno.out j hj (by rw [HN.out] at hj; exact hj))).symm)
      go_wp2_with fail
      go_ret
      exact ⟨ret_int HV.out, HB.out⟩
end Go.Proofs.YtkmnfkhchcoamaaGreatDoor
/- The reference's Is, Asks. -/
namespace Go.Proofs.YtkmnfkhchcoamaaGreatDoor
open Go.RowKit
set_option linter.unusedSimpArgs false
set_option linter.unusedVariables false

set_option maxHeartbeats 4000000 in
set_option maxRecDepth 100000 in
theorem refis_any (u : Un) (ao no : Option Addr) (ac nc : Nat) (i k : Int) (w : World) (hU : UnC w ao no ac nc u) :
    Calls Tryz.prog 46 #[unV u ao ac no nc, .int .i64 i, .int .i64 k] w fun e w' => e = .returned (.bool (isB u.types i k)) ∧ Below w.heap.size w w' := by
  unfold unV
  obtain ⟨R, hR⟩ : ∃ R, isB u.types i k = R := ⟨_, rfl⟩
  rw [hR]
  have HR := Lib.hid hR
  have HU := Lib.hid hU
  have htl := hU.tl
  obtain ⟨n, hn⟩ : ∃ n, u.types.length = n := ⟨_, rfl⟩
  have HN := Lib.hid hn
  rw [hn] at htl ⊢
  obtain ⟨w1, h1⟩ : ∃ w1, w.alloc (.cells #[.slice ao n ac, .slice no u.named.length nc] 25) = w1 := ⟨_, rfl⟩
  obtain ⟨k1, q1, z1⟩ := box_new h1
  have B1 := Lib.hid q1
  obtain ⟨c0, c1⟩ := cell2 k1
  clear hU hn k1 q1 z1 hR
  by_cases h0 : 0 ≤ i
  · have hd0 : decide (0 ≤ i) = true := decide_eq_true h0
    obtain ⟨z, rfl⟩ : ∃ z : Nat, i = (z : Int) := ⟨i.toNat, by omega⟩
    by_cases hz : z < n
    · have hzl : z < u.types.length := by rw [HN.out]; exact hz
      have hI : (z : Int) < (n : Int) := by omega
      have hd1 : decide ((z : Int) < (n : Int)) = true := decide_eq_true hI
      obtain ⟨b, o, rfl, hb, hc⟩ := HU.out.types.cells (by omega)
      obtain ⟨xw, xwc, xk, xkc, a0', -, -, -, -, -⟩ := hc z hzl
      have a0 := (B1.out.cell hb).trans a0'
      obtain ⟨x, hx⟩ : ∃ x, u.types[z].kind = x := ⟨_, rfl⟩
      rw [hx] at a0
      have HV := Lib.hid (show decide (x = k) = R by
        rw [← HR.out]
        unfold isB inL
        rw [decide_eq_true (show 0 ≤ (z : Int) ∧ (z : Int) < (u.types.length : Int) by omega), Bool.true_and]
        unfold kindAt
        rw [Int.toNat_natCast, List.getElem?_eq_getElem hzl]
        simp [hx])
      have hq : (x == k) = decide (x = k) := by rw [Bool.eq_iff_iff, beq_iff_eq, decide_eq_true_eq]
      clear hc a0' hx hb
      go_enter Tryz.func46, Tryz.ntmps46
      go_wp2_with fail
      go_ret
      exact ⟨ret_bool HV.out, B1.out⟩
    · have hd1 : decide ((z : Int) < (n : Int)) = false := decide_eq_false (by omega)
      have HV := Lib.hid (show false = R by
        rw [← HR.out]
        unfold isB inL
        rw [decide_eq_false (by rw [HN.out]; omega), Bool.false_and])
      go_enter Tryz.func46, Tryz.ntmps46
      go_wp2_with fail
      go_ret
      exact ⟨ret_bool HV.out, B1.out⟩
  · have hd0 : decide (0 ≤ i) = false := decide_eq_false h0
    have HV := Lib.hid (show false = R by
      rw [← HR.out]
      unfold isB inL
      rw [decide_eq_false (by omega), Bool.false_and])
    go_enter Tryz.func46, Tryz.ntmps46
    go_wp2_with fail
    go_ret
    exact ⟨ret_bool HV.out, B1.out⟩
set_option maxHeartbeats 4000000 in
set_option maxRecDepth 100000 in
theorem refasksat_any (u : Un) (ao no : Option Addr) (ac nc : Nat) (i : Int) (most : Nat) (w : World) (hU : UnC w ao no ac nc u) (hr : rightT u.types = true) :
    Calls Tryz.prog 45 #[unV u ao ac no nc, .int .i64 i, .int .i64 most] w fun e w' => e = .returned (.bool (fitB u.types i most)) ∧ Below w.heap.size w w' := by
  unfold unV
  obtain ⟨R, hR⟩ : ∃ R, fitB u.types i most = R := ⟨_, rfl⟩
  rw [hR]
  have HR := Lib.hid hR
  have HU := Lib.hid hU
  have htl := hU.tl
  have HRT := Lib.hid hr
  obtain ⟨n, hn⟩ : ∃ n, u.types.length = n := ⟨_, rfl⟩
  have HN := Lib.hid hn
  rw [hn] at htl ⊢
  obtain ⟨w1, h1⟩ : ∃ w1, w.alloc (.cells #[.slice ao n ac, .slice no u.named.length nc] 25) = w1 := ⟨_, rfl⟩
  obtain ⟨k1, q1, z1⟩ := box_new h1
  have B1 := Lib.hid q1
  obtain ⟨c0, c1⟩ := cell2 k1
  clear hU hn k1 q1 z1 hR hr
  by_cases h0 : i < 0
  · have hd0 : decide (i < 0) = true := decide_eq_true h0
    have HV := Lib.hid (show false = R by
      rw [← HR.out]
      unfold fitB inL
      rw [decide_eq_false (by omega), Bool.false_and])
    go_enter Tryz.func45, Tryz.ntmps45
    go_wp2_with fail
    go_ret
    exact ⟨ret_bool HV.out, B1.out⟩
  · have hd0 : decide (i < 0) = false := decide_eq_false h0
    obtain ⟨z, rfl⟩ : ∃ z : Nat, i = (z : Int) := ⟨i.toNat, by omega⟩
    by_cases hz : z < n
    · have hzl : z < u.types.length := by rw [HN.out]; exact hz
      have hd1 : decide ((n : Int) ≤ (z : Int)) = false := decide_eq_false (by omega)
      have hzI : (z : Int) < ((z + 1 : Nat) : Int) := by omega
      have HAS0 := refasks_any u.types ao ac z w1 (HU.out.types.below B1.out) HRT.out HU.out.tc hzl
      rw [HN.out] at HAS0
      have HAS := Lib.hid HAS0
      obtain ⟨az, haz⟩ : ∃ az, askD (funT u.types) (z + 1) z = az := ⟨_, rfl⟩
      have HAZ := Lib.hid haz
      have HV := Lib.hid (show decide (az ≤ (most : Int)) = R by
        rw [← HR.out]
        unfold fitB inL askN
        rw [decide_eq_true (show 0 ≤ (z : Int) ∧ (z : Int) < (u.types.length : Int) by omega), Bool.true_and, Int.toNat_natCast, HAZ.out])
      clear HAS0 haz
      go_enter Tryz.func45, Tryz.ntmps45
      go_wp2_with fail
      refine HAS.out.mono ?_
      rintro e w2 ⟨bo, bc, rfl, hbr, hbc, b2⟩
      have B2 := Lib.hid (B1.out.trans (b2.mono B1.out.size))
      obtain ⟨ob, oof, rfl, hob, hocell⟩ := hbr.cells (by rw [valsI_len]; omega)
      have ca := hocell z (by rw [valsI_len]; omega)
      rw [valsI_get (by omega), HAZ.out] at ca
      clear b2 hbr hocell hob c0 c1 h1
      go_wp2_with fail
      go_ret
      exact ⟨ret_bool HV.out, B2.out⟩
    · have hd1 : decide ((n : Int) ≤ (z : Int)) = true := decide_eq_true (by omega)
      have HV := Lib.hid (show false = R by
        rw [← HR.out]
        unfold fitB inL
        rw [decide_eq_false (by rw [HN.out]; omega), Bool.false_and])
      go_enter Tryz.func45, Tryz.ntmps45
      go_wp2_with fail
      go_ret
      exact ⟨ret_bool HV.out, B1.out⟩
end Go.Proofs.YtkmnfkhchcoamaaGreatDoor

