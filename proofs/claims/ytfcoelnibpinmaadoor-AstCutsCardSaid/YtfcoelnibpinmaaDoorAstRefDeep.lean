/- The reference's Deep and Part, by themselves. -/
import Derived.Test.YtfcoelnibpinmaaDoorAstCut
namespace Go.Proofs.YtfcoelnibpinmaaDoor
open Go.RowKit

set_option maxHeartbeats 8000000 in
set_option maxRecDepth 100000 in
theorem refdeep_any (ns : List Nd) (tp : TreeP ns) (b off cap : Nat) (w : World) (hc : ∀ i (h : i < ns.length), NdAt w b (off + i * 4) ns[i]) (hk : ∀ n ∈ ns, n.kids.length ≤ 2000) : ∀ (k : Nat), k < ns.length →
    Calls Tryd.prog 14 #[.slice (some ⟨b, off, none⟩) ns.length cap, .int .i64 (k : Int)] w fun e w' => e = .returned (.int .i64 ((dep ns k : Nat) : Int)) ∧ w = w' := by
  intro k
  induction k using Nat.strongRecOn with
  | _ k ih =>
  intro hkL
  have hrec := dep_rec ns k (kids_in tp k)
  have IH := Lib.hid ih
  have Hin := Lib.hid (kids_in tp k)
  have Hdl := Lib.hid (dep_le ns (kids_in tp))
  have hL2 := tp.2.1
  have hdk := dep_le ns (kids_in tp) k
  obtain ⟨nd, hnd⟩ : ∃ nd, ns[k] = nd := ⟨_, rfl⟩
  have hda := hc k hkL
  have hkk := hk _ (List.getElem_mem hkL)
  rw [hnd] at hda hkk
  have hnd2 : kidsAt ns k = nd.kids := by rw [kidsAt_get hkL, hnd]
  rw [hnd2] at hrec
  have Hnd := Lib.hid hnd2
  have Hrec := Lib.hid hrec
  obtain ⟨L, hL⟩ : ∃ L, ns.length = L := ⟨_, rfl⟩
  have HL := Lib.hid hL
  rw [hL] at hkL IH hL2 ⊢
  obtain ⟨kd, tx, ks, pl⟩ := nd
  obtain ⟨-, -, ⟨ka, kc, d2, d3, hrow⟩, -⟩ := hda
  simp only at d2 d3 hkk Hnd Hrec
  have Hrow := Lib.hid hrow
  have hmb : maxl (dep ns) ks ≤ 2000 := by have := Hrec.out; omega
  clear hnd hnd2 hrec ih tp hc hk hL hrow
  have hmb2 : ∀ q, maxl (dep ns) (ks.take q) ≤ 2000 := fun q => maxl_le fun x hx => by
    have := Hin.out x (by rw [Hnd.out]; exact List.mem_of_mem_take hx)
    have := Hdl.out x.toNat
    omega
  have Hmb := Lib.hid hmb2
  clear hmb2
  go_enter Tryd.func14, Tryd.ntmps14
  go_wp2_with fail
  go_loopw [5, 15] (fun mo p wr => ∃ q : Nat, q ≤ ks.length ∧ mo = .int .i64 ((maxl (dep ns) (ks.take q) : Nat) : Int) ∧ p = .int .i64 q ∧ wr = w) (fun _ p _ => ks.length - (intOf p).toNat)
  case atStart => exact ⟨0, Nat.zero_le _, by rw [List.take_zero]; rfl, rfl, rfl⟩
  case round =>
    obtain ⟨q, hq, rfl, rfl, rfl⟩ := hrel
    by_cases hql : q < ks.length
    · obtain ⟨kb, ko, rfl, hkb, hkc⟩ := Hrow.out.cells (by omega)
      have hcell := hkc q hql
      clear hkc
      have hg : ks.getD q 0 = ks[q] := by rw [List.getD_eq_getElem?_getD, List.getElem?_eq_getElem hql]; rfl
      rw [hg] at hcell
      have hin := Hin.out ks[q] (by rw [Hnd.out]; exact List.getElem_mem hql)
      have hts : ks.take (q + 1) = ks.take q ++ [ks[q]] := List.take_succ_eq_append_getElem hql
      obtain ⟨ci, hci⟩ : ∃ ci, ks[q] = ci := ⟨_, rfl⟩
      rw [hci] at hcell hin hts
      obtain ⟨c, rfl⟩ : ∃ c : Nat, ci = (c : Int) := ⟨ci.toNat, by omega⟩
      have Hmx := Lib.hid (show maxl (dep ns) (ks.take (q + 1)) = max (maxl (dep ns) (ks.take q)) (dep ns c) by rw [hts, maxl_snoc, Int.toNat_natCast])
      have Hit := Lib.hid (IH.out c (by omega) (by omega))
      obtain ⟨mo, hmo⟩ : ∃ mo, maxl (dep ns) (ks.take q) = mo := ⟨_, rfl⟩
      obtain ⟨dc, hdc⟩ : ∃ dc, dep ns c = dc := ⟨_, rfl⟩
      rw [hmo, hdc] at Hmx
      rw [hdc] at Hit
      rw [hmo]
      clear hg hci hts hin hmo hdc d2 d3
      go_wp2_with fail
      refine Hit.out.mono ?_
      rintro e w' ⟨rfl, rfl⟩
      by_cases hgt : mo < dc
      · have e1 := Lib.hid (show Value.int .i64 (dc : Int) = .int .i64 ((maxl (dep ns) (ks.take (q + 1)) : Nat) : Int) by rw [Hmx.out, Nat.max_eq_right (by omega)])
        have hgt2 : (mo : Int) < (dc : Int) := by omega
        clear hcell
        go_wp2_with fail
        go_roundw
        case rel => exact ⟨q + 1, by omega, e1.out, by go_num, by first | rfl | trivial⟩
        case measure => simp [intOf]; omega
      · have e1 := Lib.hid (show Value.int .i64 (mo : Int) = .int .i64 ((maxl (dep ns) (ks.take (q + 1)) : Nat) : Int) by rw [Hmx.out, Nat.max_eq_left (by omega)])
        have hgt2 : ¬ (mo : Int) < (dc : Int) := by omega
        clear hcell
        go_wp2_with fail
        go_roundw
        case rel => exact ⟨q + 1, by omega, e1.out, by go_num, by first | rfl | trivial⟩
        case measure => simp [intOf]; omega
    · obtain rfl : q = ks.length := by omega
      rw [List.take_length]
      obtain ⟨mo, hmo⟩ : ∃ mo, maxl (dep ns) ks = mo := ⟨_, rfl⟩
      rw [hmo] at Hrec hmb ⊢
      clear hmo d2
      go_wp2_with fail
      go_ret
      exact ⟨ret_int (by rw [Hrec.out]; go_num), rfl⟩
end Go.Proofs.YtfcoelnibpinmaaDoor
