import Derived.Test.YtkmnfkhchcoamaaGreatDoorUnB
import Derived.Test.YtkmnfkhchcoamaaGreatDoorTypPM
import Derived.Test.YtkmnfkhchcoamaaGreatDoorTypPB
import Derived.Test.YtkmnfkhchcoamaaGreatDoorSubB
import Derived.Test.YtkmnfkhchcoamaaGreatDoorUnA
/- The program's search among names. -/
namespace Go.Proofs.YtkmnfkhchcoamaaGreatDoor
open Go.RowKit
set_option linter.unusedSimpArgs false
set_option linter.unusedVariables false

def namesU (ns : List Nm) : List ByteArray := ns.map (·.name)
theorem namesU_len (ns : List Nm) : (namesU ns).length = ns.length := by simp [namesU]
theorem namesU_get {ns : List Nm} {i : Nat} (h : i < ns.length) : (namesU ns).getD i ⟨#[]⟩ = ns[i].name := by
  unfold namesU
  rw [getD_of (by rw [List.length_map]; exact h), List.getElem_map]
set_option maxHeartbeats 2000000 in
set_option maxRecDepth 100000 in
theorem find1_any (h : Nat) (ns : List Nm) (no : Option Addr) (nc ub sb : Nat) (s : ByteArray) (w : World) (hU : URow w no ns) (hc : ns.length ≤ nc) (hl : ns.length ≤ 1000) (h1 : w.cell? ⟨ub, 1, none⟩ = some (.slice no ns.length nc)) (h2 : w.cell? ⟨sb, 0, none⟩ = some (.string s)) (hh : h < ns.length) :
    Calls Tryz.prog 41 #[.int .i64 h, .pointer (some ⟨ub, 0, none⟩), .pointer (some ⟨sb, 0, none⟩)] w fun e w' => e = .returned (.bool (!lessB ((namesU ns).getD h ⟨#[]⟩) s)) ∧ ∃ n, w' = w.drewN n := by
  rw [namesU_get hh]
  obtain ⟨n, hn⟩ : ∃ n, ns.length = n := ⟨_, rfl⟩
  obtain ⟨b, o, rfl, hb, hcc⟩ := hU.cells (by omega)
  obtain ⟨bo, bc, mo, mc, a0, -, -, -, -, -, -⟩ := hcc h hh
  obtain ⟨x, hx⟩ : ∃ x, ns[h].name = x := ⟨_, rfl⟩
  rw [hx] at a0 ⊢
  rw [hn] at h1 hc hl
  have hhn : h < n := by omega
  have hI : (h : Int) < (n : Int) := by omega
  unfold lessB
  clear hU hcc hb hx hn hh
  go_enter Tryz.func41, Tryz.ntmps41
  go_wp2_with fail
  go_quiet (fail)
  rename_i nq
  go_wp2_with fail
  go_ret
  exact ⟨by first | rfl | (simp; done), _, rfl⟩
set_option maxHeartbeats 4000000 in
set_option maxRecDepth 100000 in
theorem search_any (ns : List Nm) (no : Option Addr) (nc ub sb : Nat) (s : ByteArray) (w : World) (hr : risesB (namesU ns) = true) (hU : URow w no ns) (hc : ns.length ≤ nc) (hl : ns.length ≤ 1000) (h1 : w.cell? ⟨ub, 1, none⟩ = some (.slice no ns.length nc)) (h2 : w.cell? ⟨sb, 0, none⟩ = some (.string s)) :
    Calls Tryz.prog 40 #[.int .i64 ns.length, .func (.func 41) #[] #[.pointer (some ⟨ub, 0, none⟩), .pointer (some ⟨sb, 0, none⟩)]] w fun e w' => e = .returned (.int .i64 (lowU (namesU ns) s : Nat)) ∧ Below w.heap.size w w' := by
  have HF := Lib.hid (fun (h : Nat) (hh : h < ns.length) W (hb : Below w.heap.size w W) => find1_any h ns no nc ub sb s W (hU.below hb) hc hl ((hb.cell (cell_ltB h1)).trans h1) ((hb.cell (cell_ltB h2)).trans h2) hh)
  have HY := Lib.hid (fun (i : Nat) (h : lowU (namesU ns) s ≤ i) (hi : i < (namesU ns).length) => low_yes hr h hi)
  have HNT := Lib.hid (fun (i : Nat) (h : i < lowU (namesU ns) s) => low_not h)
  have hle := low_le (namesU ns) s
  rw [namesU_len] at hle HY
  obtain ⟨lo, hlo⟩ : ∃ lo, lowU (namesU ns) s = lo := ⟨_, rfl⟩
  rw [hlo] at hle HY HNT ⊢
  obtain ⟨n, hn⟩ : ∃ n, ns.length = n := ⟨_, rfl⟩
  rw [hn] at hle HY HF hl hc ⊢
  clear hU h1 h2 hn hlo hr
  go_enter Tryz.func40, Tryz.ntmps40
  go_wp2_with fail
  go_loopw [5, 6] (fun vi vj wr => ∃ i j : Nat, i ≤ lo ∧ lo ≤ j ∧ j ≤ n ∧ vi = .int .i64 i ∧ vj = .int .i64 j ∧ Hid (Below w.heap.size w wr)) (fun vi vj _ => (intOf vj).toNat - (intOf vi).toNat)
  case atStart => exact ⟨0, n, Nat.zero_le _, hle, Nat.le_refl _, rfl, rfl, Lib.hid (Below.refl _ _)⟩
  case round =>
    obtain ⟨i, j, hi, hj, hjn, rfl, rfl, HB⟩ := hrel
    by_cases hij : i < j
    · have hIJ : (i : Int) < (j : Int) := by omega
      obtain ⟨h, hh⟩ : ∃ h : Nat, ((i : Int) + (j : Int)) / 2 = (h : Int) := ⟨(i + j) / 2, by omega⟩
      have g1 : i ≤ h := by omega
      have g2 : h < j := by omega
      have HC0 := HF.out h (by omega) wr HB.out
      by_cases c : h < lo
      · rw [HNT.out h c] at HC0
        have HC := Lib.hid HC0
        clear HC0
        go_wp2_with fail
        refine HC.out.mono ?_
        rintro e w2 ⟨rfl, nq, rfl⟩
        have HB2 := Lib.hid (below_drewN HB.out nq)
        clear hh
        go_wp2_with fail
        go_roundw
        case rel => exact ⟨h + 1, j, by omega, hj, hjn, by go_num, rfl, HB2⟩
        case measure => first | (simp [intOf]; done) | (simp [intOf]; omega)
      · rw [HY.out h (by omega) (by omega)] at HC0
        have HC := Lib.hid HC0
        clear HC0
        go_wp2_with fail
        refine HC.out.mono ?_
        rintro e w2 ⟨rfl, nq, rfl⟩
        have HB2 := Lib.hid (below_drewN HB.out nq)
        clear hh
        go_wp2_with fail
        go_roundw
        case rel => exact ⟨i, h, hi, by omega, by omega, rfl, rfl, HB2⟩
        case measure => first | (simp [intOf]; done) | (simp [intOf]; omega)
    · have hIJ : ¬ (i : Int) < (j : Int) := by omega
      have HV := Lib.hid (show (i : Int) = (lo : Int) by omega)
      go_wp2_with fail
      go_ret
      exact ⟨ret_int HV.out, HB.out⟩
end Go.Proofs.YtkmnfkhchcoamaaGreatDoor
/- The program's find. -/
namespace Go.Proofs.YtkmnfkhchcoamaaGreatDoor
open Go.RowKit
set_option linter.unusedSimpArgs false
set_option linter.unusedVariables false

/-- What the search gives. -/
def foundU (ns : List Nm) (s : ByteArray) : Bool := decide (lowU (namesU ns) s < ns.length ∧ (namesU ns).getD (lowU (namesU ns) s) ⟨#[]⟩ = s)
set_option maxHeartbeats 4000000 in
set_option maxRecDepth 100000 in
theorem ufind_any (u : Un) (ao no : Option Addr) (ac nc : Nat) (s : ByteArray) (w : World) (hU : UnC w ao no ac nc u) (hr : risesB (namesU u.named) = true) :
    Calls Tryz.prog 18 #[unV u ao ac no nc, .string s] w fun e w' => e = .returned (.tuple #[.int .i64 (lowU (namesU u.named) s : Nat), .bool (foundU u.named s)]) ∧ Below w.heap.size w w' := by
  unfold unV
  obtain ⟨R, hR⟩ : ∃ R, foundU u.named s = R := ⟨_, rfl⟩
  rw [hR]
  have HR := Lib.hid hR
  have HU := Lib.hid hU
  have hnl := hU.nl
  obtain ⟨w1, h1⟩ : ∃ w1, w.alloc (.cells #[.slice ao u.types.length ac, .slice no u.named.length nc] 25) = w1 := ⟨_, rfl⟩
  obtain ⟨k1, q1, z1⟩ := box_new h1
  obtain ⟨w2, h2⟩ : ∃ w2, w1.alloc (.cells #[.string s] 9) = w2 := ⟨_, rfl⟩
  obtain ⟨k2, q2, z2⟩ := box_new h2
  have K1 := Lib.hid (k1.below q2)
  have K2 := Lib.hid k2
  have B2 := Lib.hid (q1.trans (q2.mono q1.size))
  have HS0 := search_any u.named no nc w.heap.size w1.heap.size s w2 hr (hU.named.below B2.out) hU.nc hnl (show w2.cell? ⟨w.heap.size, 1, none⟩ = some (.slice no u.named.length nc) from K1.out.cell 1) (show w2.cell? ⟨w1.heap.size, 0, none⟩ = some (.string s) from K2.out.cell 0)
  obtain ⟨lo, hlo⟩ : ∃ lo, lowU (namesU u.named) s = lo := ⟨_, rfl⟩
  have HLO := Lib.hid hlo
  rw [hlo] at HS0 ⊢
  obtain ⟨n, hn⟩ : ∃ n, u.named.length = n := ⟨_, rfl⟩
  have HN := Lib.hid hn
  rw [hn] at HS0 h1 hnl ⊢
  have HS := Lib.hid HS0
  have c1 : w2.cell? ⟨w.heap.size, 1, none⟩ = some (.slice no n nc) := by rw [← hn]; exact K1.out.cell 1
  clear HS0 hlo hn hU hR k1 q1 k2 q2 hr z1 z2
  go_enter Tryz.func18, Tryz.ntmps18
  go_wp2_with fail
  refine HS.out.mono ?_
  rintro e w3 ⟨rfl, b3⟩
  have B3 := Lib.hid (B2.out.trans (b3.mono B2.out.size))
  have d1 := (b3.cell (p := ⟨w.heap.size, 1, none⟩) (cell_ltB c1)).trans c1
  have d2 := (b3.cell (p := ⟨w1.heap.size, 0, none⟩) K2.out.lt).trans (K2.out.cell 0)
  clear b3 c1 h1 h2
  by_cases hln : lo < n
  · have hI : (lo : Int) < (n : Int) := by omega
    have hlu : lo < u.named.length := by rw [HN.out]; exact hln
    obtain ⟨b, o, rfl, hb, hc⟩ := HU.out.named.cells (by omega)
    obtain ⟨bo, bc, mo, mc, a0', -, -, -, -, -, -⟩ := hc lo hlu
    have a0 := (B3.out.cell hb).trans a0'
    obtain ⟨x, hx⟩ : ∃ x, u.named[lo].name = x := ⟨_, rfl⟩
    rw [hx] at a0
    have hst := Lib.hid (ty_str_eq x s)
    have HV := Lib.hid (show decide (x = s) = R by
      rw [← HR.out]
      unfold foundU
      rw [HLO.out, namesU_get hlu, hx]
      rw [Bool.eq_iff_iff, decide_eq_true_eq, decide_eq_true_eq]
      exact ⟨fun g => ⟨hlu, g⟩, fun g => g.2⟩)
    clear hc a0' hx hb
    go_wp2_with fail
    go_quiet (fail)
    rename_i nq
    go_wp2_with fail
    go_ret2
    exact ⟨by rw [← HV.out, ← hst.out]; rfl, below_drewN B3.out nq⟩
  · have hI : ¬ (lo : Int) < (n : Int) := by omega
    have HV := Lib.hid (show false = R by
      rw [← HR.out]
      unfold foundU
      rw [decide_eq_false (by rw [HLO.out, HN.out]; omega)])
    go_wp2_with fail
    go_quiet (fail)
    rename_i nq
    go_wp2_with fail
    go_ret2
    exact ⟨by rw [← HV.out]; rfl, below_drewN B3.out nq⟩
end Go.Proofs.YtkmnfkhchcoamaaGreatDoor
/- The program's params, twoNames. -/
namespace Go.Proofs.YtkmnfkhchcoamaaGreatDoor
open Go.RowKit
set_option linter.unusedSimpArgs false
set_option linter.unusedVariables false

set_option maxHeartbeats 4000000 in
theorem utwoNames_any (s : ByteArray) (w : World) (hs : s.size ≤ 1000) (hm : MaxAt w) :
    Calls Tryz.prog 71 #[.string s] w fun e w' => e = .returned (.bool (namedB s)) ∧ Below w.heap.size w w' := by
  obtain ⟨m, hm⟩ := hm
  have HC := Tryz.strings_Cut s ⟨#[46]⟩ m w (by omega) hm
  obtain ⟨r, hr⟩ : ∃ r, namedB s = r := ⟨_, rfl⟩
  rw [hr]
  unfold namedB at hr
  have e46 : (⟨#[46]⟩ : ByteArray).data.toList = [46] := rfl
  rw [e46] at HC
  rcases cut_dot s with ⟨h1, h2⟩ | ⟨i, hi, h1, h2, h3, h4⟩
  · rw [h1] at hr
    rw [h2] at HC
    have Hr := Lib.hid (show false = r from hr)
    have HC := Lib.hid HC
    clear h1 h2 hr hm
    go_enter Tryz.func71, Tryz.ntmps71
    go_wp2_with fail
    refine HC.out.mono ?_
    rintro e w' ⟨rfl, n, rfl⟩
    go_wp2_with fail
    go_ret
    exact ⟨ret_bool Hr.out, below_drewN (Below.refl _ _) n⟩
  · rw [h1] at hr
    rw [h2, h3, h4] at HC
    have hr : (nameB (s.extract 0 i) && nameB (s.extract (i + 1) s.size)) = r := hr
    have hz1 : (s.extract 0 i).size ≤ 1000 := by rw [ByteArray.size_extract]; omega
    have hz2 : (s.extract (i + 1) s.size).size ≤ 1000 := by rw [ByteArray.size_extract]; omega
    obtain ⟨a, ha⟩ : ∃ a, s.extract 0 i = a := ⟨_, rfl⟩
    obtain ⟨b, hb⟩ : ∃ b, s.extract (i + 1) s.size = b := ⟨_, rfl⟩
    rw [ha, hb] at hr HC
    rw [ha] at hz1
    rw [hb] at hz2
    have HC := Lib.hid HC
    have HN1 := Lib.hid (fun W => name_any a W (by omega))
    have HN2 := Lib.hid (fun W => name_any b W (by omega))
    clear h1 h2 h3 h4 ha hb hz1 hz2 hm
    cases hna : nameB a
    · rw [hna] at hr HN1
      have Hr := Lib.hid (show false = r from hr)
      clear hr hna
      go_enter Tryz.func71, Tryz.ntmps71
      go_wp2_with fail
      refine HC.out.mono ?_
      rintro e w' ⟨rfl, n, rfl⟩
      go_wp2_with fail
      refine (HN1.out _).mono ?_
      rintro e w' ⟨rfl, rfl⟩
      go_wp2_with fail
      go_ret
      exact ⟨ret_bool Hr.out, below_drewN (Below.refl _ _) n⟩
    · rw [hna] at hr HN1
      have Hr := Lib.hid (show nameB b = r from hr)
      clear hr hna
      go_enter Tryz.func71, Tryz.ntmps71
      go_wp2_with fail
      refine HC.out.mono ?_
      rintro e w' ⟨rfl, n, rfl⟩
      go_wp2_with fail
      refine (HN1.out _).mono ?_
      rintro e w' ⟨rfl, rfl⟩
      go_wp2_with fail
      refine (HN2.out _).mono ?_
      rintro e w' ⟨rfl, rfl⟩
      go_wp2_with fail
      go_ret
      exact ⟨ret_bool Hr.out, below_drewN (Below.refl _ _) n⟩
set_option maxHeartbeats 16000000 in
set_option maxRecDepth 100000 in
theorem uparams_any (l : List Ty) (ao : Option Addr) (ac : Nat) (w : World) (hl : ARow w ao l) (hr : rightT l = true) (hac : l.length ≤ ac) :
    Calls Tryz.prog 49 #[.slice ao l.length ac] w (RowZP w l.length (askD (funT l) l.length)) := by
  have hlen := (right_step hr).1
  have HPO := Lib.hid (right_param hr)
  obtain ⟨f, hf⟩ : ∃ f : Nat → Ty, funT l = f := ⟨_, rfl⟩
  rw [hf] at HPO ⊢
  have HF := Lib.hid (show ∀ j (hj : j < l.length), f j = l[j] from fun j hj => by rw [← hf]; exact getD_of hj)
  have HK := Lib.hid (show ∀ j (hj : j < l.length), ∀ k ∈ (f j).kids, 0 ≤ k ∧ k < (j : Int) from fun j hj => by rw [HF.out j hj]; exact right_kids hr hj)
  obtain ⟨n, hn⟩ : ∃ n, l.length = n := ⟨_, rfl⟩
  have HN := Lib.hid hn
  have HA := Lib.hid hl
  rw [hn] at hlen hac ⊢
  obtain ⟨nb, hnb⟩ : ∃ nb, w.heap.size = nb := ⟨_, rfl⟩
  have HNB := Lib.hid (show w.heap.size ≤ nb by omega)
  have hmk := make_intsZ n (by omega) w
  obtain ⟨w2, h2⟩ : ∃ w2, w.alloc (.cells (rowZ n fun _ => 0) 3) = w2 := ⟨_, rfl⟩
  obtain ⟨k2, q2, z2⟩ := box_new h2
  rw [h2, hnb] at hmk
  rw [hnb] at k2
  have B2 := Lib.hid q2
  have K2 := Lib.hid (show BlockAt w2 nb (rowZ n (askD f 0)) 3 from k2)
  clear hl hr hf hn h2 k2 q2 z2 hnb
  go_enter Tryz.func49, Tryz.ntmps49
  go_wp2_with fail
  clear hmk
  go_loopw [13] (fun v wr => ∃ k : Nat, k ≤ n ∧ v = .int .i64 k ∧ Hid (BlockAt wr nb (rowZ n (askD f k)) 3) ∧ Hid (Below w.heap.size w wr)) (fun v _ => n - (intOf v).toNat)
  case atStart => exact ⟨0, Nat.zero_le _, rfl, K2, B2⟩
  case round =>
    obtain ⟨k, hk, rfl, KB, HB⟩ := hrel
    by_cases hkl : k < n
    · have hkx : k < l.length := by rw [HN.out]; omega
      have hkI : (k : Int) < (n : Int) := by omega
      obtain ⟨ab, aof, rfl, hab, hcl⟩ := HA.out.cells (by omega)
      have hat := hcl k hkx
      rw [← HF.out k hkx] at hat
      have HKP := Lib.hid (HK.out k hkx)
      have HP9 := Lib.hid (HPO.out k)
      have HA0 := Lib.hid (fun ks => askF_in HPO.out k k ks)
      have HAA := Lib.hid (fun m => askD_in HPO.out k m)
      have HN0 := Lib.hid (show askD f (k + 1) = updI (askD f k) k (askF (askD f k) (ask0 (f k)) (f k).kids) from rfl)
      obtain ⟨x, hx⟩ : ∃ x, f k = x := ⟨_, rfl⟩
      rw [hx] at hat HKP HP9 HA0 HN0
      have HX := Lib.hid hx
      obtain ⟨xw, xwc, xk, xkc, a0', a1', a2', a3', a4', hwc, hkc, hxc⟩ := hat
      have a0 := (HB.out.cell hab).trans a0'
      have a1 := (HB.out.cell hab).trans a1'
      have a2 := (HB.out.cell hab).trans a2'
      have a3 := (HB.out.cell hab).trans a3'
      have a4 := (HB.out.cell hab).trans a4'
      obtain ⟨A, hA⟩ : ∃ A, askD f k = A := ⟨_, rfl⟩
      have HZ := Lib.hid (show A k = 0 by rw [← hA]; exact askD_zero (Nat.le_refl _))
      rw [hA] at KB HA0 HN0 HAA
      clear hx hcl hab hA a0' a1' a2' a3' a4'
      obtain ⟨wn, hwn⟩ : ∃ wn, wr.alloc (.cells #[.int .i64 x.kind, .string x.name, .int .i64 x.n, .slice xw x.words.length xwc, .slice xk x.kids.length xkc] 38) = wn := ⟨_, rfl⟩
      obtain ⟨kx, qx, zx⟩ := box_new hwn
      obtain ⟨c0, c1, c2, c3, c4⟩ := cell5 kx
      have BN := Lib.hid (HB.out.trans (qx.mono HB.out.size))
      have KN := Lib.hid (KB.out.below qx)
      have HKR := Lib.hid hxc.kids
      have hml := hxc.ok.kl
      have KX := Lib.hid kx
      have HNE := Lib.hid (show nb ≠ wr.heap.size by have := KB.out.lt; omega)
      clear kx qx zx hwc hkc hxc
      obtain ⟨m, hm⟩ : ∃ m, x.kids.length = m := ⟨_, rfl⟩
      have HM := Lib.hid hm
      rw [hm] at hml hwn c4 KX a4
      clear hm
      by_cases h9 : x.kind = 9
      · have hq : (x.kind == 9) = true := by rw [beq_iff_eq]; exact h9
        obtain ⟨g1, g2⟩ := HP9.out h9
        have HS0 := Lib.hid (show ask0 x = x.n + 1 by unfold ask0; rw [if_pos h9])
        have ck := KN.out.cell k
        rw [rowZ_get hkl] at ck
        have fk := KN.out.free k
        obtain ⟨w4, h4⟩ : ∃ w4, wn.setCell ⟨nb, k, none⟩ (.int .i64 (x.n + 1)) = w4 := ⟨_, rfl⟩
        have K4 := Lib.hid (show BlockAt w4 nb (rowZ n (updI A k (askF A (ask0 x) (x.kids.take 0)))) 3 from by
          rw [← h4, HS0.out, List.take_zero]
          have := KN.out.set k (.int .i64 (x.n + 1))
          rw [← updI_self A k 0 HZ.out, updI_set] at this
          exact this)
        have B4 := Lib.hid (show Below w.heap.size w w4 from by rw [← h4]; exact set_below BN.out HNB.out)
        have KX4 := Lib.hid (show BlockAt w4 wr.heap.size #[.int .i64 x.kind, .string x.name, .int .i64 x.n, .slice xw x.words.length xwc, .slice xk m xkc] 38 from by rw [← h4]; exact KX.out.other (fun e => HNE.out e.symm) k _)
        obtain ⟨e0, e1, e2, e3, e4⟩ := cell5 KX4.out
        clear h9
        go_wp2_with fail
        clear e0 e1 e2 e3 e4 hwn a0 a1 a2 a3 a4 ck fk c0 c1 c2 c3 c4 h4
        go_loopw [30] (fun v wq => ∃ q : Nat, q ≤ m ∧ v = .int .i64 q ∧ Hid (BlockAt wq nb (rowZ n (updI A k (askF A (ask0 x) (x.kids.take q)))) 3) ∧ Hid (Below w.heap.size w wq)) (fun v _ => m - (intOf v).toNat)
        case atStart => exact ⟨0, Nat.zero_le _, rfl, K4, B4⟩
        case round =>
          obtain ⟨q, hq, rfl, KQ, HQ⟩ := hrel
          by_cases hql : q < m
          · have hqx : q < x.kids.length := by rw [HM.out]; exact hql
            obtain ⟨kb, kof, rfl, hkb, hkcell⟩ := HKR.out.cells (by omega)
            have ck := hkcell q hqx
            obtain ⟨g1, g2⟩ := HKP.out _ (getD_mem hqx)
            obtain ⟨z, hz⟩ : ∃ z : Nat, x.kids.getD q 0 = (z : Int) := ⟨(x.kids.getD q 0).toNat, by omega⟩
            have hsn := askF_snoc (A := A) (n := ask0 x) hqx
            rw [hz] at ck g2 hsn
            rw [Int.toNat_natCast] at hsn
            have hzp : z < k := by omega
            have hzi : z < n := by omega
            have hzI : (z : Int) < (n : Int) := by omega
            have hck2 : ¬ k = z := by omega
            have ck2 : wr.cell? ⟨kb, kof + q, none⟩ = some (.int .i64 (z : Int)) := by rw [HQ.out.cell (p := ⟨kb, kof + q, none⟩) hkb]; exact ck
            obtain ⟨x1, hx1⟩ := HA0.out (x.kids.take q)
            obtain ⟨y1, hy1⟩ := HAA.out z
            have cx := KQ.out.cell k
            have cz := KQ.out.cell z
            rw [rowZ_get hkl, updI_at] at cx
            rw [rowZ_get hzi, updI_ne (by omega)] at cz
            have hff := KQ.out.free k
            obtain ⟨x0, hx0⟩ : ∃ v, askF A (ask0 x) (x.kids.take q) = v := ⟨_, rfl⟩
            obtain ⟨y0, hy0⟩ : ∃ v, A z = v := ⟨_, rfl⟩
            obtain ⟨z0, hz0⟩ : ∃ v, max x0 y0 = v := ⟨_, rfl⟩
            rw [hx0] at cx x1 hx1 hsn
            rw [hy0] at cz y1 hy1 hsn
            rw [hz0] at hsn
            have HSN := Lib.hid hsn
            have Hmax : ∀ (ts : Array TypeId) (t : TypeId) (W : World), (Builtin.max_ ts t #[.int .i64 x0, .int .i64 y0]).run Tryz.prog W = .ok (.int .i64 z0) W := fun ts t W => by rw [run_max_int2, show (if y0 > x0 then y0 else x0) = z0 by rw [← hz0]; split <;> omega]
            have KQ2 := Lib.hid (show BlockAt (wr.setCell ⟨nb, k, none⟩ (.int .i64 z0)).drew nb (rowZ n (updI A k (askF A (ask0 x) (x.kids.take (q + 1))))) 3 from by
              rw [HSN.out, ← updI_set (x := askF A (ask0 x) (x.kids.take q))]
              exact KQ.out.set k _)
            have BQ2 := Lib.hid (show Below w.heap.size w (wr.setCell ⟨nb, k, none⟩ (.int .i64 z0)).drew from (set_below HQ.out HNB.out).drew)
            clear hsn hz hx0 hy0 hz0 ck hkcell hkb g1
            go_upto_region 10 with fail
            refine GoG.start [(12, ⟨nb, k, none⟩, .int .i64 x0), (13, ⟨nb, z, none⟩, .int .i64 y0)] (by kernel_rfl) ?_ ?_
            · exact Keeps.cons (by first | assumption | simp [*]) (Keeps.cons (by first | assumption | simp [*]) (Keeps.nil))
            refine GoG.take (i := 0) (v := ?_) [] rfl (by kernel_rfl) (by kernel_rfl) (by kernel_rfl) (by kernel_rfl) (by kernel_rfl) (by kernel_rfl) (fun _ _ _ h => h) (yields_free (by rfl) (fun w => ?_)) ?_
            rotate_left
            · go_simp; try (with_reducible rfl)
            try simp only [Act.put, List.getElem_toArray, List.getElem_cons_succ, List.getElem_cons_zero, List.setIfInBounds_toArray, List.set_cons_zero, List.set_cons_succ]
            refine GoG.take (i := 1) (v := ?_) [] rfl (by kernel_rfl) (by kernel_rfl) (by kernel_rfl) (by kernel_rfl) (by kernel_rfl) (by kernel_rfl) (fun _ _ _ h => h) (yields_free (by rfl) (fun w => ?_)) ?_
            rotate_left
            · go_simp; try (with_reducible rfl)
            try simp only [Act.put, List.getElem_toArray, List.getElem_cons_succ, List.getElem_cons_zero, List.setIfInBounds_toArray, List.set_cons_zero, List.set_cons_succ]
            refine GoG.take (i := 2) (v := ?_) [] rfl (by kernel_rfl) (by kernel_rfl) (by kernel_rfl) (by kernel_rfl) (by kernel_rfl) (by kernel_rfl) (fun _ _ _ h => h) (yields_free (by rfl) (fun w => ?_)) ?_
            rotate_left
            · go_simp; try (with_reducible rfl)
            try simp only [Act.put, List.getElem_toArray, List.getElem_cons_succ, List.getElem_cons_zero, List.setIfInBounds_toArray, List.set_cons_zero, List.set_cons_succ]
            refine GoG.take (i := 3) (v := ?_) [] rfl (by kernel_rfl) (by kernel_rfl) (by kernel_rfl) (by kernel_rfl) (by kernel_rfl) (by kernel_rfl) (fun _ _ _ h => h) (yields_free (by rfl) (fun w => ?_)) ?_
            rotate_left
            · go_simp; try (with_reducible rfl)
            try simp only [Act.put, List.getElem_toArray, List.getElem_cons_succ, List.getElem_cons_zero, List.setIfInBounds_toArray, List.set_cons_zero, List.set_cons_succ]
            refine GoG.take (i := 4) (v := ?_) [] rfl (by kernel_rfl) (by kernel_rfl) (by kernel_rfl) (by kernel_rfl) (by kernel_rfl) (by kernel_rfl) (fun _ _ _ h => h) (yields_free (by rfl) (fun w => ?_)) ?_
            rotate_left
            · go_simp; try (with_reducible rfl)
            try simp only [Act.put, List.getElem_toArray, List.getElem_cons_succ, List.getElem_cons_zero, List.setIfInBounds_toArray, List.set_cons_zero, List.set_cons_succ]
            refine GoG.take (i := 5) (v := ?_) [10, 12] rfl (by kernel_rfl) (by kernel_rfl) (by kernel_rfl) (by kernel_rfl) (by kernel_rfl) (by kernel_rfl) (fun _ _ _ h => h) (yields_load 12 ⟨nb, k, none⟩ (.int .i64 x0) (by simp) (by decide) (by rfl) (fun w hw => ?_)) ?_
            rotate_left
            · go_simp; try (with_reducible rfl)
            try simp only [Act.put, List.getElem_toArray, List.getElem_cons_succ, List.getElem_cons_zero, List.setIfInBounds_toArray, List.set_cons_zero, List.set_cons_succ]
            refine GoG.take (i := 6) (v := ?_) [] rfl (by kernel_rfl) (by kernel_rfl) (by kernel_rfl) (by kernel_rfl) (by kernel_rfl) (by kernel_rfl) (fun _ _ _ h => h) (yields_free (by rfl) (fun w => ?_)) ?_
            rotate_left
            · go_simp; try (with_reducible rfl)
            try simp only [Act.put, List.getElem_toArray, List.getElem_cons_succ, List.getElem_cons_zero, List.setIfInBounds_toArray, List.set_cons_zero, List.set_cons_succ]
            refine GoG.take (i := 7) (v := ?_) [] rfl (by kernel_rfl) (by kernel_rfl) (by kernel_rfl) (by kernel_rfl) (by kernel_rfl) (by kernel_rfl) (fun _ _ _ h => h) (yields_free (by rfl) (fun w => ?_)) ?_
            rotate_left
            · go_simp; try (with_reducible rfl)
            try simp only [Act.put, List.getElem_toArray, List.getElem_cons_succ, List.getElem_cons_zero, List.setIfInBounds_toArray, List.set_cons_zero, List.set_cons_succ]
            refine GoG.take (i := 8) (v := ?_) [] rfl (by kernel_rfl) (by kernel_rfl) (by kernel_rfl) (by kernel_rfl) (by kernel_rfl) (by kernel_rfl) (fun _ _ _ h => h) (yields_free (by rfl) (fun w => ?_)) ?_
            rotate_left
            · go_simp; try (with_reducible rfl)
            try simp only [Act.put, List.getElem_toArray, List.getElem_cons_succ, List.getElem_cons_zero, List.setIfInBounds_toArray, List.set_cons_zero, List.set_cons_succ]
            refine GoG.take (i := 9) (v := ?_) [10, 12, 13] rfl (by kernel_rfl) (by kernel_rfl) (by kernel_rfl) (by kernel_rfl) (by kernel_rfl) (by kernel_rfl) (fun _ _ _ h => h) (yields_load 13 ⟨nb, z, none⟩ (.int .i64 y0) (by simp) (by decide) (by rfl) (fun w hw => ?_)) ?_
            rotate_left
            · go_simp; try (with_reducible rfl)
            try simp only [Act.put, List.getElem_toArray, List.getElem_cons_succ, List.getElem_cons_zero, List.setIfInBounds_toArray, List.set_cons_zero, List.set_cons_succ]
            refine GoG.take (i := 10) (v := ?_) [] rfl (by kernel_rfl) (by kernel_rfl) (by kernel_rfl) (by kernel_rfl) (by kernel_rfl) (by kernel_rfl) (fun _ _ _ h => h) (yields_free (by rfl) (fun w => ?_)) ?_
            rotate_left
            · go_simp; try (with_reducible rfl)
            try simp only [Act.put, List.getElem_toArray, List.getElem_cons_succ, List.getElem_cons_zero, List.setIfInBounds_toArray, List.set_cons_zero, List.set_cons_succ]
            refine GoG.take (i := 11) (v := ?_) [] rfl (by kernel_rfl) (by kernel_rfl) (by kernel_rfl) (by kernel_rfl) (by kernel_rfl) (by kernel_rfl) (fun _ _ _ h => h) (yields_free (by rfl) (fun w => ?_)) ?_
            rotate_left
            · go_simp; try (with_reducible rfl)
            try simp only [Act.put, List.getElem_toArray, List.getElem_cons_succ, List.getElem_cons_zero, List.setIfInBounds_toArray, List.set_cons_zero, List.set_cons_succ]
            refine GoG.one (i := 12) rfl (by kernel_rfl) (fun K hK => ?_)
            go_simp
            refine hK.out _ _ (Keeps.up (by rfl) (Keeps.cons (by go_simp) (Keeps.nil))) ?_
            clear hK K
            refine GoG.done (by kernel_rfl) ?_ _
            clear cx cz hff ck2 Hmax
            go_wp2_with fail
            go_roundw
            case rel => exact ⟨q + 1, by omega, by go_num, KQ2, BQ2⟩
            case measure => first | (simp [intOf]; done) | (simp [intOf]; omega)
          · have HQM := Lib.hid (show x.kids.take q = x.kids from List.take_of_length_le (by rw [HM.out]; omega))
            have KN2 := Lib.hid (show BlockAt wr nb (rowZ n (askD f (k + 1))) 3 from by
              rw [HN0.out, ← HQM.out]
              exact KQ.out)
            go_wp2_with fail
            go_roundw
            case rel => exact ⟨k + 1, by omega, by go_num, KN2, HQ⟩
            case measure => first | (simp [intOf]; done) | (simp [intOf]; omega)
      · have hq : (x.kind == 9) = false := by rw [beq_eq_false_iff_ne]; exact h9
        have HS0 := Lib.hid (show ask0 x = 0 by unfold ask0; rw [if_neg h9])
        have K4 := Lib.hid (show BlockAt wn nb (rowZ n (updI A k (askF A (ask0 x) (x.kids.take 0)))) 3 from by
          rw [HS0.out, List.take_zero]
          show BlockAt wn nb (rowZ n (updI A k 0)) 3
          rw [updI_self A k 0 HZ.out]
          exact KN.out)
        have B4 := BN
        clear h9
        go_wp2_with fail
        clear c0 c1 c2 c3 c4 hwn a0 a1 a2 a3 a4
        go_loopw [30] (fun v wq => ∃ q : Nat, q ≤ m ∧ v = .int .i64 q ∧ Hid (BlockAt wq nb (rowZ n (updI A k (askF A (ask0 x) (x.kids.take q)))) 3) ∧ Hid (Below w.heap.size w wq)) (fun v _ => m - (intOf v).toNat)
        case atStart => exact ⟨0, Nat.zero_le _, rfl, K4, B4⟩
        case round =>
          obtain ⟨q, hq, rfl, KQ, HQ⟩ := hrel
          by_cases hql : q < m
          · have hqx : q < x.kids.length := by rw [HM.out]; exact hql
            obtain ⟨kb, kof, rfl, hkb, hkcell⟩ := HKR.out.cells (by omega)
            have ck := hkcell q hqx
            obtain ⟨g1, g2⟩ := HKP.out _ (getD_mem hqx)
            obtain ⟨z, hz⟩ : ∃ z : Nat, x.kids.getD q 0 = (z : Int) := ⟨(x.kids.getD q 0).toNat, by omega⟩
            have hsn := askF_snoc (A := A) (n := ask0 x) hqx
            rw [hz] at ck g2 hsn
            rw [Int.toNat_natCast] at hsn
            have hzp : z < k := by omega
            have hzi : z < n := by omega
            have hzI : (z : Int) < (n : Int) := by omega
            have hck2 : ¬ k = z := by omega
            have ck2 : wr.cell? ⟨kb, kof + q, none⟩ = some (.int .i64 (z : Int)) := by rw [HQ.out.cell (p := ⟨kb, kof + q, none⟩) hkb]; exact ck
            obtain ⟨x1, hx1⟩ := HA0.out (x.kids.take q)
            obtain ⟨y1, hy1⟩ := HAA.out z
            have cx := KQ.out.cell k
            have cz := KQ.out.cell z
            rw [rowZ_get hkl, updI_at] at cx
            rw [rowZ_get hzi, updI_ne (by omega)] at cz
            have hff := KQ.out.free k
            obtain ⟨x0, hx0⟩ : ∃ v, askF A (ask0 x) (x.kids.take q) = v := ⟨_, rfl⟩
            obtain ⟨y0, hy0⟩ : ∃ v, A z = v := ⟨_, rfl⟩
            obtain ⟨z0, hz0⟩ : ∃ v, max x0 y0 = v := ⟨_, rfl⟩
            rw [hx0] at cx x1 hx1 hsn
            rw [hy0] at cz y1 hy1 hsn
            rw [hz0] at hsn
            have HSN := Lib.hid hsn
            have Hmax : ∀ (ts : Array TypeId) (t : TypeId) (W : World), (Builtin.max_ ts t #[.int .i64 x0, .int .i64 y0]).run Tryz.prog W = .ok (.int .i64 z0) W := fun ts t W => by rw [run_max_int2, show (if y0 > x0 then y0 else x0) = z0 by rw [← hz0]; split <;> omega]
            have KQ2 := Lib.hid (show BlockAt (wr.setCell ⟨nb, k, none⟩ (.int .i64 z0)).drew nb (rowZ n (updI A k (askF A (ask0 x) (x.kids.take (q + 1))))) 3 from by
              rw [HSN.out, ← updI_set (x := askF A (ask0 x) (x.kids.take q))]
              exact KQ.out.set k _)
            have BQ2 := Lib.hid (show Below w.heap.size w (wr.setCell ⟨nb, k, none⟩ (.int .i64 z0)).drew from (set_below HQ.out HNB.out).drew)
            clear hsn hz hx0 hy0 hz0 ck hkcell hkb g1
            go_upto_region 10 with fail
            refine GoG.start [(12, ⟨nb, k, none⟩, .int .i64 x0), (13, ⟨nb, z, none⟩, .int .i64 y0)] (by kernel_rfl) ?_ ?_
            · exact Keeps.cons (by first | assumption | simp [*]) (Keeps.cons (by first | assumption | simp [*]) (Keeps.nil))
            refine GoG.take (i := 0) (v := ?_) [] rfl (by kernel_rfl) (by kernel_rfl) (by kernel_rfl) (by kernel_rfl) (by kernel_rfl) (by kernel_rfl) (fun _ _ _ h => h) (yields_free (by rfl) (fun w => ?_)) ?_
            rotate_left
            · go_simp; try (with_reducible rfl)
            try simp only [Act.put, List.getElem_toArray, List.getElem_cons_succ, List.getElem_cons_zero, List.setIfInBounds_toArray, List.set_cons_zero, List.set_cons_succ]
            refine GoG.take (i := 1) (v := ?_) [] rfl (by kernel_rfl) (by kernel_rfl) (by kernel_rfl) (by kernel_rfl) (by kernel_rfl) (by kernel_rfl) (fun _ _ _ h => h) (yields_free (by rfl) (fun w => ?_)) ?_
            rotate_left
            · go_simp; try (with_reducible rfl)
            try simp only [Act.put, List.getElem_toArray, List.getElem_cons_succ, List.getElem_cons_zero, List.setIfInBounds_toArray, List.set_cons_zero, List.set_cons_succ]
            refine GoG.take (i := 2) (v := ?_) [] rfl (by kernel_rfl) (by kernel_rfl) (by kernel_rfl) (by kernel_rfl) (by kernel_rfl) (by kernel_rfl) (fun _ _ _ h => h) (yields_free (by rfl) (fun w => ?_)) ?_
            rotate_left
            · go_simp; try (with_reducible rfl)
            try simp only [Act.put, List.getElem_toArray, List.getElem_cons_succ, List.getElem_cons_zero, List.setIfInBounds_toArray, List.set_cons_zero, List.set_cons_succ]
            refine GoG.take (i := 3) (v := ?_) [] rfl (by kernel_rfl) (by kernel_rfl) (by kernel_rfl) (by kernel_rfl) (by kernel_rfl) (by kernel_rfl) (fun _ _ _ h => h) (yields_free (by rfl) (fun w => ?_)) ?_
            rotate_left
            · go_simp; try (with_reducible rfl)
            try simp only [Act.put, List.getElem_toArray, List.getElem_cons_succ, List.getElem_cons_zero, List.setIfInBounds_toArray, List.set_cons_zero, List.set_cons_succ]
            refine GoG.take (i := 4) (v := ?_) [] rfl (by kernel_rfl) (by kernel_rfl) (by kernel_rfl) (by kernel_rfl) (by kernel_rfl) (by kernel_rfl) (fun _ _ _ h => h) (yields_free (by rfl) (fun w => ?_)) ?_
            rotate_left
            · go_simp; try (with_reducible rfl)
            try simp only [Act.put, List.getElem_toArray, List.getElem_cons_succ, List.getElem_cons_zero, List.setIfInBounds_toArray, List.set_cons_zero, List.set_cons_succ]
            refine GoG.take (i := 5) (v := ?_) [10, 12] rfl (by kernel_rfl) (by kernel_rfl) (by kernel_rfl) (by kernel_rfl) (by kernel_rfl) (by kernel_rfl) (fun _ _ _ h => h) (yields_load 12 ⟨nb, k, none⟩ (.int .i64 x0) (by simp) (by decide) (by rfl) (fun w hw => ?_)) ?_
            rotate_left
            · go_simp; try (with_reducible rfl)
            try simp only [Act.put, List.getElem_toArray, List.getElem_cons_succ, List.getElem_cons_zero, List.setIfInBounds_toArray, List.set_cons_zero, List.set_cons_succ]
            refine GoG.take (i := 6) (v := ?_) [] rfl (by kernel_rfl) (by kernel_rfl) (by kernel_rfl) (by kernel_rfl) (by kernel_rfl) (by kernel_rfl) (fun _ _ _ h => h) (yields_free (by rfl) (fun w => ?_)) ?_
            rotate_left
            · go_simp; try (with_reducible rfl)
            try simp only [Act.put, List.getElem_toArray, List.getElem_cons_succ, List.getElem_cons_zero, List.setIfInBounds_toArray, List.set_cons_zero, List.set_cons_succ]
            refine GoG.take (i := 7) (v := ?_) [] rfl (by kernel_rfl) (by kernel_rfl) (by kernel_rfl) (by kernel_rfl) (by kernel_rfl) (by kernel_rfl) (fun _ _ _ h => h) (yields_free (by rfl) (fun w => ?_)) ?_
            rotate_left
            · go_simp; try (with_reducible rfl)
            try simp only [Act.put, List.getElem_toArray, List.getElem_cons_succ, List.getElem_cons_zero, List.setIfInBounds_toArray, List.set_cons_zero, List.set_cons_succ]
            refine GoG.take (i := 8) (v := ?_) [] rfl (by kernel_rfl) (by kernel_rfl) (by kernel_rfl) (by kernel_rfl) (by kernel_rfl) (by kernel_rfl) (fun _ _ _ h => h) (yields_free (by rfl) (fun w => ?_)) ?_
            rotate_left
            · go_simp; try (with_reducible rfl)
            try simp only [Act.put, List.getElem_toArray, List.getElem_cons_succ, List.getElem_cons_zero, List.setIfInBounds_toArray, List.set_cons_zero, List.set_cons_succ]
            refine GoG.take (i := 9) (v := ?_) [10, 12, 13] rfl (by kernel_rfl) (by kernel_rfl) (by kernel_rfl) (by kernel_rfl) (by kernel_rfl) (by kernel_rfl) (fun _ _ _ h => h) (yields_load 13 ⟨nb, z, none⟩ (.int .i64 y0) (by simp) (by decide) (by rfl) (fun w hw => ?_)) ?_
            rotate_left
            · go_simp; try (with_reducible rfl)
            try simp only [Act.put, List.getElem_toArray, List.getElem_cons_succ, List.getElem_cons_zero, List.setIfInBounds_toArray, List.set_cons_zero, List.set_cons_succ]
            refine GoG.take (i := 10) (v := ?_) [] rfl (by kernel_rfl) (by kernel_rfl) (by kernel_rfl) (by kernel_rfl) (by kernel_rfl) (by kernel_rfl) (fun _ _ _ h => h) (yields_free (by rfl) (fun w => ?_)) ?_
            rotate_left
            · go_simp; try (with_reducible rfl)
            try simp only [Act.put, List.getElem_toArray, List.getElem_cons_succ, List.getElem_cons_zero, List.setIfInBounds_toArray, List.set_cons_zero, List.set_cons_succ]
            refine GoG.take (i := 11) (v := ?_) [] rfl (by kernel_rfl) (by kernel_rfl) (by kernel_rfl) (by kernel_rfl) (by kernel_rfl) (by kernel_rfl) (fun _ _ _ h => h) (yields_free (by rfl) (fun w => ?_)) ?_
            rotate_left
            · go_simp; try (with_reducible rfl)
            try simp only [Act.put, List.getElem_toArray, List.getElem_cons_succ, List.getElem_cons_zero, List.setIfInBounds_toArray, List.set_cons_zero, List.set_cons_succ]
            refine GoG.one (i := 12) rfl (by kernel_rfl) (fun K hK => ?_)
            go_simp
            refine hK.out _ _ (Keeps.up (by rfl) (Keeps.cons (by go_simp) (Keeps.nil))) ?_
            clear hK K
            refine GoG.done (by kernel_rfl) ?_ _
            clear cx cz hff ck2 Hmax
            go_wp2_with fail
            go_roundw
            case rel => exact ⟨q + 1, by omega, by go_num, KQ2, BQ2⟩
            case measure => first | (simp [intOf]; done) | (simp [intOf]; omega)
          · have HQM := Lib.hid (show x.kids.take q = x.kids from List.take_of_length_le (by rw [HM.out]; omega))
            have KN2 := Lib.hid (show BlockAt wr nb (rowZ n (askD f (k + 1))) 3 from by
              rw [HN0.out, ← HQM.out]
              exact KQ.out)
            go_wp2_with fail
            go_roundw
            case rel => exact ⟨k + 1, by omega, by go_num, KN2, HQ⟩
            case measure => first | (simp [intOf]; done) | (simp [intOf]; omega)
    · obtain rfl : k = n := by omega
      go_wp2_with fail
      go_ret
      exact row_done KB.out HNB.out HB.out
end Go.Proofs.YtkmnfkhchcoamaaGreatDoor
/- The program's right (named's closure), nameless. -/
namespace Go.Proofs.YtkmnfkhchcoamaaGreatDoor
open Go.RowKit
set_option linter.unusedSimpArgs false
set_option linter.unusedVariables false

/-- How many params each type asks for, in a row of their own. -/
def AskC (w : World) (b : Nat) (l : List Ty) : Prop := ∀ i, i < l.length → w.cell? ⟨b, i, none⟩ = some (.int .i64 (askN l (i : Int)))
theorem AskC.below {w w' : World} {b : Nat} {l : List Ty} (h : AskC w b l) (hb : Below w.heap.size w w') : AskC w' b l := fun i hi => (hb.cell (cell_ltB (h i hi))).trans (h i hi)
theorem ask_row {w : World} {b : Nat} {l : List Ty} (h : BlockAt w b (rowZ l.length (askD (funT l) l.length)) 3) : AskC w b l := fun i hi => by
  have := h.cell i
  rw [rowZ_get hi] at this
  rw [this]
  unfold askN
  rw [Int.toNat_natCast, askD_stay (f := funT l) (m := i) (c := i + 1) (d := l.length) (by omega) (by omega)]
theorem fit_yes {l : List Ty} {z : Nat} {most : Nat} (hz : z < l.length) : fitB l (z : Int) most = decide (askN l (z : Int) ≤ (most : Int)) := by
  unfold fitB inL
  rw [decide_eq_true (by omega), Bool.true_and]
theorem fit_no {l : List Ty} {i : Int} {most : Nat} (hz : i < 0 ∨ (l.length : Int) ≤ i) : fitB l i most = false := by
  unfold fitB inL
  rw [decide_eq_false (by omega), Bool.false_and]
set_option maxHeartbeats 4000000 in
set_option maxRecDepth 100000 in
theorem named1_any (l : List Ty) (ao bo : Option Addr) (ac bc most lb ab nb qb : Nat) (i : Int) (w : World) (hac : l.length ≤ ac) (ll : l.length ≤ 1000) (hq : AskC w qb l) (h1 : w.cell? ⟨lb, 0, none⟩ = some (.slice ao l.length ac)) (h2 : w.cell? ⟨ab, 0, none⟩ = some (.slice (some ⟨qb, 0, none⟩) l.length l.length)) (h3 : w.cell? ⟨nb, 1, none⟩ = some (.slice bo most bc)) :
    Calls Tryz.prog 72 #[.int .i64 i, .pointer (some ⟨lb, 0, none⟩), .pointer (some ⟨ab, 0, none⟩), .pointer (some ⟨nb, 0, none⟩)] w fun e w' => e = .returned (.bool (fitB l i most)) ∧ ∃ n, w' = w.drewN n := by
  obtain ⟨R, hR⟩ : ∃ R, fitB l i most = R := ⟨_, rfl⟩
  rw [hR]
  have HR := Lib.hid hR
  obtain ⟨n, hn⟩ : ∃ n, l.length = n := ⟨_, rfl⟩
  have HN := Lib.hid hn
  rw [hn] at h1 h2 hac ll
  have HQ := Lib.hid hq
  clear hn hR hq
  by_cases h0 : 0 ≤ i
  · have hd0 : decide (0 ≤ i) = true := decide_eq_true h0
    obtain ⟨z, rfl⟩ : ∃ z : Nat, i = (z : Int) := ⟨i.toNat, by omega⟩
    have h0' : decide ((0 : Int) ≤ (z : Int)) = true := decide_eq_true h0
    by_cases hz : z < n
    · have hzl : z < l.length := by rw [HN.out]; exact hz
      have hI : (z : Int) < (n : Int) := by omega
      have hd1 : decide ((z : Int) < (n : Int)) = true := decide_eq_true hI
      have ca := HQ.out z hzl
      have HV := Lib.hid (show decide (askN l (z : Int) ≤ (most : Int)) = R by rw [← HR.out, fit_yes hzl])
      obtain ⟨a, haa⟩ : ∃ a, askN l (z : Int) = a := ⟨_, rfl⟩
      rw [haa] at ca HV
      clear haa h0
      go_enter Tryz.func72, Tryz.ntmps72
      go_wp2_with fail
      go_quiet (fail)
      rename_i nq
      go_wp2_with fail
      go_ret
      exact ⟨ret_bool HV.out, _, rfl⟩
    · have hI : ¬ (z : Int) < (n : Int) := by omega
      have hd1 : decide ((z : Int) < (n : Int)) = false := decide_eq_false hI
      have HV := Lib.hid (show false = R by rw [← HR.out, fit_no (.inr (by rw [HN.out]; omega))])
      clear h0
      go_enter Tryz.func72, Tryz.ntmps72
      go_wp2_with fail
      go_quiet (fail)
      rename_i nq
      go_wp2_with fail
      go_ret
      exact ⟨ret_bool HV.out, _, rfl⟩
  · have hd0 : decide (0 ≤ i) = false := decide_eq_false h0
    have HV := Lib.hid (show false = R by rw [← HR.out, fit_no (.inl (by omega))])
    go_enter Tryz.func72, Tryz.ntmps72
    go_wp2_with fail
    go_quiet (fail)
    rename_i nq
    go_wp2_with fail
    go_ret
    exact ⟨ret_bool HV.out, _, rfl⟩
/-- May a type be what a name stands for? -/
def nolessB (l : List Ty) (i : Int) : Bool := decide (¬ (14 ≤ i ∧ i ≤ 19) ∧ kindAt l i ≠ 8 ∧ kindAt l i ≠ 9)
set_option maxHeartbeats 4000000 in
set_option maxRecDepth 100000 in
theorem nameless_any (l : List Ty) (ao : Option Addr) (ac z : Nat) (w : World) (hl : ARow w ao l) (hac : l.length ≤ ac) (ll : l.length ≤ 1000) (hz : z < l.length) :
    Calls Tryz.prog 73 #[.slice ao l.length ac, .int .i64 z] w fun e w' => e = .returned (.bool (nolessB l (z : Int))) ∧ w = w' := by
  obtain ⟨R, hR⟩ : ∃ R, nolessB l (z : Int) = R := ⟨_, rfl⟩
  rw [hR]
  obtain ⟨ab, aof, rfl, hab, hac2⟩ := hl.cells (by omega)
  obtain ⟨_, _, _, _, ca, -⟩ := hac2 z hz
  obtain ⟨X, hX⟩ : ∃ X, l[z].kind = X := ⟨_, rfl⟩
  rw [hX] at ca
  have HR := Lib.hid (show decide (¬ (14 ≤ (z : Int) ∧ (z : Int) ≤ 19) ∧ X ≠ 8 ∧ X ≠ 9) = R by
    rw [← hR]
    unfold nolessB
    rw [kindAt_eq hz, hX])
  obtain ⟨n, hn⟩ : ∃ n, l.length = n := ⟨_, rfl⟩
  rw [hn] at hz hac ll ⊢
  have hI : (z : Int) < (n : Int) := by omega
  clear hR hX hac2 hab hn hl
  by_cases u1 : 14 ≤ (z : Int)
  · by_cases u2 : (z : Int) ≤ 19
    · have HV := Lib.hid (show false = R by rw [← HR.out, decide_eq_false (by omega)])
      go_enter Tryz.func73, Tryz.ntmps73
      go_wp2_with fail
      go_ret
      exact ⟨ret_bool HV.out, rfl⟩
    · by_cases u8 : X = 8
      · have HV := Lib.hid (show false = R by rw [← HR.out, decide_eq_false (by omega)])
        have q1 : (X != 8) = false := by rw [bne_eq_false_iff_eq]; exact u8
        go_enter Tryz.func73, Tryz.ntmps73
        go_wp2_with fail
        go_ret
        exact ⟨ret_bool HV.out, rfl⟩
      · have q1 : (X != 8) = true := by rw [bne_iff_ne]; exact u8
        have HV := Lib.hid (show (X != 9) = R by rw [← HR.out, Bool.eq_iff_iff, bne_iff_ne, decide_eq_true_eq]; omega)
        go_enter Tryz.func73, Tryz.ntmps73
        go_wp2_with fail
        go_ret
        exact ⟨ret_bool HV.out, rfl⟩
  · by_cases u8 : X = 8
    · have HV := Lib.hid (show false = R by rw [← HR.out, decide_eq_false (by omega)])
      have q1 : (X != 8) = false := by rw [bne_eq_false_iff_eq]; exact u8
      go_enter Tryz.func73, Tryz.ntmps73
      go_wp2_with fail
      go_ret
      exact ⟨ret_bool HV.out, rfl⟩
    · have q1 : (X != 8) = true := by rw [bne_iff_ne]; exact u8
      have HV := Lib.hid (show (X != 9) = R by rw [← HR.out, Bool.eq_iff_iff, bne_iff_ne, decide_eq_true_eq]; omega)
      go_enter Tryz.func73, Tryz.ntmps73
      go_wp2_with fail
      go_ret
      exact ⟨ret_bool HV.out, rfl⟩
end Go.Proofs.YtkmnfkhchcoamaaGreatDoor

