/- The program's text of a type, kind by kind. -/
import Derived.Test.YtleiaghegokjkaaGreatDoorTypTM
namespace Go.Proofs.YtleiaghegokjkaaGreatDoor
open Go.RowKit
set_option linter.unusedSimpArgs false
set_option linter.unusedVariables false

/-- The first q kids' texts are laid. -/
def KF (K : List ByteArray) (q : Nat) : Nat → ByteArray := fun j => if j < q then K.getD j ⟨#[]⟩ else ⟨#[]⟩
theorem KF_zero (K : List ByteArray) : KF K 0 = fun _ => ⟨#[]⟩ := by
  funext j
  unfold KF
  rw [if_neg (Nat.not_lt_zero _)]
theorem KF_step (K : List ByteArray) (q : Nat) : (fun j => if j = q then K.getD q ⟨#[]⟩ else KF K q j) = KF K (q + 1) := by
  funext j
  unfold KF
  by_cases h : j = q
  · rw [if_pos h, if_pos (by omega), h]
  · rw [if_neg h]
    by_cases h2 : j < q
    · rw [if_pos h2, if_pos (by omega)]
    · rw [if_neg h2, if_neg (by omega)]
theorem KF_row {w : World} {b m : Nat} {K : List ByteArray} (h : BlockAt w b (rowS m (KF K m)) 9) (hm : K.length = m) : SRow w (some ⟨b, 0, none⟩) K ∧ ∀ j, j < m → w.cell? ⟨b, j, none⟩ = some (.string (K.getD j ⟨#[]⟩)) := by
  have hc : ∀ j, j < m → w.cell? ⟨b, j, none⟩ = some (.string (K.getD j ⟨#[]⟩)) := fun j hj => by
    rw [h.cell j, rowS_get hj]
    unfold KF
    rw [if_pos hj]
  exact ⟨.inr ⟨b, 0, rfl, h.lt, fun i hi => by rw [Nat.zero_add]; exact hc i (by omega)⟩, hc⟩
theorem kid_size {T : Nat → ByteArray} {t : Ty} (h : ∀ m, (T m).size ≤ 4000) (j : Nat) : ((kidsT T t).getD j ⟨#[]⟩).size ≤ 4000 := by
  by_cases hj : j < t.kids.length
  · rw [kidsT_get hj]; exact h _
  · rw [List.getD_eq_getElem?_getD, List.getElem?_eq_none (by rw [kidsT_len]; omega)]
    exact Nat.zero_le _
set_option maxHeartbeats 16000000 in
set_option maxRecDepth 100000 in
theorem text_zero (s : ByteArray) (n : Int) (ws : List ByteArray) (ks : List Int) (hk : ks = []) : TextC ⟨0, s, n, ws, ks⟩ := by
  intro w wo ko wc kc tb N T ht hwc hkc hT hN hsz hin hp
  unfold tyV
  show Calls _ _ #[.agg #[.int .i64 0, .string s, .int .i64 n, .slice wo ws.length wc, .slice ko ks.length kc], .slice (some ⟨tb, 0, none⟩) N N] _ _
  have hml : ks.length ≤ 18 := ht.ok.kl
  have hwl : ws.length ≤ 18 := ht.ok.wl
  have hsl : s.size ≤ 50 := ht.ok.nl
  obtain ⟨m, hm⟩ : ∃ m, ks.length = m := ⟨_, rfl⟩
  have HM := Lib.hid hm
  obtain ⟨w1, h1⟩ : ∃ w1, w.alloc (.cells #[.int .i64 0, .string s, .int .i64 n, .slice wo ws.length wc, .slice ko ks.length kc] 41) = w1 := ⟨_, rfl⟩
  obtain ⟨k1, q1, z1⟩ := box_new h1
  obtain ⟨kb, hkb⟩ : ∃ kb, w1.heap.size = kb := ⟨_, rfl⟩
  have hmk := make_strs ks.length (by omega) w1
  rw [hkb, hm] at hmk
  rw [hm] at hml h1 k1 ⊢
  obtain ⟨w2, h2⟩ : ∃ w2, w1.alloc (.cells (rowS m fun _ => ⟨#[]⟩) 9) = w2 := ⟨_, rfl⟩
  rw [h2] at hmk
  obtain ⟨k2, q2, z2⟩ := box_new h2
  rw [hkb] at k2
  have BW := Lib.hid (q1.trans (q2.mono q1.size))
  have K1 := Lib.hid (k1.below q2)
  have HKB := Lib.hid (show w.heap.size ≤ kb ∧ w.heap.size ≠ kb ∧ tb < w.heap.size from ⟨by rw [← hkb]; exact q1.size, by omega, hT.lt⟩)
  obtain ⟨K, hK⟩ : ∃ K, kidsT T ⟨0, s, n, ws, ks⟩ = K := ⟨_, rfl⟩
  have HKG := Lib.hid (show ∀ j, j < m → K.getD j ⟨#[]⟩ = T (ks.getD j 0).toNat from fun j hj => by rw [← hK]; exact kidsT_get (t := ⟨0, s, n, ws, ks⟩) (by show j < ks.length; omega))
  have HKL := Lib.hid (show K.length = m from by rw [← hK, kidsT_len]; exact hm)
  have HKS := Lib.hid (show ∀ j, (K.getD j ⟨#[]⟩).size ≤ 4000 from fun j => by rw [← hK]; exact kid_size hsz j)
  rw [hK]
  have K2 := Lib.hid (show BlockAt w2 kb (rowS m (KF K 0)) 9 from by rw [KF_zero]; exact k2)
  have HTY := Lib.hid ht
  have HIN := Lib.hid (show ∀ k ∈ ks, 0 ≤ k ∧ k < (N : Int) from hin)
  have HTT := Lib.hid hT
  have HPW := Lib.hid hp
  have HWC := Lib.hid (show ws.length ≤ wc from hwc)
  obtain ⟨c0, c1, c2, c3, c4⟩ := cell5 k1
  obtain ⟨d0, d1, d2, d3, d4⟩ := cell5 (k1.below q2)
  clear ht hwc hkc hT hsz hin hp hm hkb k1 q1 z1 h2 k2 q2 z2 hK
  go_enter Tryz.func39, Tryz.ntmps39
  go_wp2_with fail
  clear h1 hmk c0 c1 c2 c3 c4 d0 d1 d2 d3 d4
  go_loopw [18] (fun v wr => ∃ q : Nat, q ≤ m ∧ v = .int .i64 q ∧ Hid (BlockAt wr kb (rowS m (KF K q)) 9) ∧ Hid (BlockAt wr w.heap.size #[.int .i64 0, .string s, .int .i64 n, .slice wo ws.length wc, .slice ko m kc] 41) ∧ Hid (Below w.heap.size w wr)) (fun v _ => m - (intOf v).toNat)
  case atStart => exact ⟨0, Nat.zero_le _, rfl, K2, K1, BW⟩
  case round =>
    obtain ⟨q, hq, rfl, KQ, K1, HB⟩ := hrel
    by_cases hql : q < m
    · have hqx : q < ks.length := by rw [HM.out]; exact hql
      obtain ⟨xb, xof, rfl, hxb, hxc⟩ := HTY.out.kids.cells (by show 0 < ks.length; omega)
      have ck : w.cell? ⟨xb, xof + q, none⟩ = some (.int .i64 (ks.getD q 0)) := hxc q hqx
      obtain ⟨g1, g2⟩ := HIN.out _ (getD_mem hqx)
      have hkg := HKG.out q hql
      obtain ⟨z, hz⟩ : ∃ z : Nat, ks.getD q 0 = (z : Int) := ⟨(ks.getD q 0).toNat, by omega⟩
      rw [hz] at ck g2 hkg
      rw [Int.toNat_natCast] at hkg
      have ck2 : wr.cell? ⟨xb, xof + q, none⟩ = some (.int .i64 (z : Int)) := by rw [HB.out.cell (p := ⟨xb, xof + q, none⟩) hxb]; exact ck
      have ct := (HTT.out.below HB.out).cell z
      rw [rowS_get (by omega), ← hkg] at ct
      obtain ⟨kt, hkt⟩ : ∃ kt, K.getD q ⟨#[]⟩ = kt := ⟨_, rfl⟩
      rw [hkt] at ct
      have cq := KQ.out.cell q
      rw [rowS_get hql] at cq
      have fq := KQ.out.free q
      obtain ⟨w7, h7⟩ : ∃ w7, wr.setCell ⟨kb, q, none⟩ (.string kt) = w7 := ⟨_, rfl⟩
      have KQ7 := Lib.hid (show BlockAt w7 kb (rowS m (KF K (q + 1))) 9 from by
        rw [← KF_step, hkt, ← rowS_set, ← h7]
        exact KQ.out.set q _)
      have K17 := Lib.hid (K1.out.other HKB.out.2.1 q (.string kt))
      rw [h7] at K17
      have B7 := Lib.hid (show Below w.heap.size w w7 from by rw [← h7]; exact HB.out.setCell (p := ⟨kb, q, none⟩) HKB.out.1 _)
      obtain ⟨f0, hf0⟩ : ∃ f0, KF K q q = f0 := ⟨_, rfl⟩
      rw [hf0] at cq
      clear hf0 hkt hkg hz ck hxb hxc g1
      go_wp2_with fail
      go_roundw
      case rel => exact ⟨q + 1, by omega, by go_num, KQ7, K17, B7⟩
      case measure => first | (simp [intOf]; done) | (simp [intOf]; omega)
    · have hqm : q = m := by omega
      rw [hqm] at KQ
      have KR := Lib.hid (KF_row KQ.out HKL.out)
      obtain ⟨c0, c1, c2, c3, c4⟩ := cell5 K1.out
      clear hqm
      have hm0 : m = 0 := by rw [← HM.out, hk]; rfl
      have hmn : ¬ 0 < m := by omega
      have hd : decide (0 < m) = false := decide_eq_false hmn
      clear hm0 hk
      go_wp2_with fail
      go_ret
      have hKn : ¬ 0 < K.length := by rw [HKL.out]; exact hmn
      exact ⟨by simp [textF, hKn], HB.out⟩
set_option maxHeartbeats 16000000 in
set_option maxRecDepth 100000 in
theorem text_slice (s : ByteArray) (n : Int) (ws : List ByteArray) (ks : List Int) (hk : ks.length = 1) : TextC ⟨2, s, n, ws, ks⟩ := by
  intro w wo ko wc kc tb N T ht hwc hkc hT hN hsz hin hp
  unfold tyV
  show Calls _ _ #[.agg #[.int .i64 2, .string s, .int .i64 n, .slice wo ws.length wc, .slice ko ks.length kc], .slice (some ⟨tb, 0, none⟩) N N] _ _
  have hml : ks.length ≤ 18 := ht.ok.kl
  have hwl : ws.length ≤ 18 := ht.ok.wl
  have hsl : s.size ≤ 50 := ht.ok.nl
  obtain ⟨m, hm⟩ : ∃ m, ks.length = m := ⟨_, rfl⟩
  have HM := Lib.hid hm
  obtain ⟨w1, h1⟩ : ∃ w1, w.alloc (.cells #[.int .i64 2, .string s, .int .i64 n, .slice wo ws.length wc, .slice ko ks.length kc] 41) = w1 := ⟨_, rfl⟩
  obtain ⟨k1, q1, z1⟩ := box_new h1
  obtain ⟨kb, hkb⟩ : ∃ kb, w1.heap.size = kb := ⟨_, rfl⟩
  have hmk := make_strs ks.length (by omega) w1
  rw [hkb, hm] at hmk
  rw [hm] at hml h1 k1 ⊢
  obtain ⟨w2, h2⟩ : ∃ w2, w1.alloc (.cells (rowS m fun _ => ⟨#[]⟩) 9) = w2 := ⟨_, rfl⟩
  rw [h2] at hmk
  obtain ⟨k2, q2, z2⟩ := box_new h2
  rw [hkb] at k2
  have BW := Lib.hid (q1.trans (q2.mono q1.size))
  have K1 := Lib.hid (k1.below q2)
  have HKB := Lib.hid (show w.heap.size ≤ kb ∧ w.heap.size ≠ kb ∧ tb < w.heap.size from ⟨by rw [← hkb]; exact q1.size, by omega, hT.lt⟩)
  obtain ⟨K, hK⟩ : ∃ K, kidsT T ⟨2, s, n, ws, ks⟩ = K := ⟨_, rfl⟩
  have HKG := Lib.hid (show ∀ j, j < m → K.getD j ⟨#[]⟩ = T (ks.getD j 0).toNat from fun j hj => by rw [← hK]; exact kidsT_get (t := ⟨2, s, n, ws, ks⟩) (by show j < ks.length; omega))
  have HKL := Lib.hid (show K.length = m from by rw [← hK, kidsT_len]; exact hm)
  have HKS := Lib.hid (show ∀ j, (K.getD j ⟨#[]⟩).size ≤ 4000 from fun j => by rw [← hK]; exact kid_size hsz j)
  rw [hK]
  have K2 := Lib.hid (show BlockAt w2 kb (rowS m (KF K 0)) 9 from by rw [KF_zero]; exact k2)
  have HTY := Lib.hid ht
  have HIN := Lib.hid (show ∀ k ∈ ks, 0 ≤ k ∧ k < (N : Int) from hin)
  have HTT := Lib.hid hT
  have HPW := Lib.hid hp
  have HWC := Lib.hid (show ws.length ≤ wc from hwc)
  obtain ⟨c0, c1, c2, c3, c4⟩ := cell5 k1
  obtain ⟨d0, d1, d2, d3, d4⟩ := cell5 (k1.below q2)
  clear ht hwc hkc hT hsz hin hp hm hkb k1 q1 z1 h2 k2 q2 z2 hK
  go_enter Tryz.func39, Tryz.ntmps39
  go_wp2_with fail
  clear h1 hmk c0 c1 c2 c3 c4 d0 d1 d2 d3 d4
  go_loopw [18] (fun v wr => ∃ q : Nat, q ≤ m ∧ v = .int .i64 q ∧ Hid (BlockAt wr kb (rowS m (KF K q)) 9) ∧ Hid (BlockAt wr w.heap.size #[.int .i64 2, .string s, .int .i64 n, .slice wo ws.length wc, .slice ko m kc] 41) ∧ Hid (Below w.heap.size w wr)) (fun v _ => m - (intOf v).toNat)
  case atStart => exact ⟨0, Nat.zero_le _, rfl, K2, K1, BW⟩
  case round =>
    obtain ⟨q, hq, rfl, KQ, K1, HB⟩ := hrel
    by_cases hql : q < m
    · have hqx : q < ks.length := by rw [HM.out]; exact hql
      obtain ⟨xb, xof, rfl, hxb, hxc⟩ := HTY.out.kids.cells (by show 0 < ks.length; omega)
      have ck : w.cell? ⟨xb, xof + q, none⟩ = some (.int .i64 (ks.getD q 0)) := hxc q hqx
      obtain ⟨g1, g2⟩ := HIN.out _ (getD_mem hqx)
      have hkg := HKG.out q hql
      obtain ⟨z, hz⟩ : ∃ z : Nat, ks.getD q 0 = (z : Int) := ⟨(ks.getD q 0).toNat, by omega⟩
      rw [hz] at ck g2 hkg
      rw [Int.toNat_natCast] at hkg
      have ck2 : wr.cell? ⟨xb, xof + q, none⟩ = some (.int .i64 (z : Int)) := by rw [HB.out.cell (p := ⟨xb, xof + q, none⟩) hxb]; exact ck
      have ct := (HTT.out.below HB.out).cell z
      rw [rowS_get (by omega), ← hkg] at ct
      obtain ⟨kt, hkt⟩ : ∃ kt, K.getD q ⟨#[]⟩ = kt := ⟨_, rfl⟩
      rw [hkt] at ct
      have cq := KQ.out.cell q
      rw [rowS_get hql] at cq
      have fq := KQ.out.free q
      obtain ⟨w7, h7⟩ : ∃ w7, wr.setCell ⟨kb, q, none⟩ (.string kt) = w7 := ⟨_, rfl⟩
      have KQ7 := Lib.hid (show BlockAt w7 kb (rowS m (KF K (q + 1))) 9 from by
        rw [← KF_step, hkt, ← rowS_set, ← h7]
        exact KQ.out.set q _)
      have K17 := Lib.hid (K1.out.other HKB.out.2.1 q (.string kt))
      rw [h7] at K17
      have B7 := Lib.hid (show Below w.heap.size w w7 from by rw [← h7]; exact HB.out.setCell (p := ⟨kb, q, none⟩) HKB.out.1 _)
      obtain ⟨f0, hf0⟩ : ∃ f0, KF K q q = f0 := ⟨_, rfl⟩
      rw [hf0] at cq
      clear hf0 hkt hkg hz ck hxb hxc g1
      go_wp2_with fail
      go_roundw
      case rel => exact ⟨q + 1, by omega, by go_num, KQ7, K17, B7⟩
      case measure => first | (simp [intOf]; done) | (simp [intOf]; omega)
    · have hqm : q = m := by omega
      rw [hqm] at KQ
      have KR := Lib.hid (KF_row KQ.out HKL.out)
      obtain ⟨c0, c1, c2, c3, c4⟩ := cell5 K1.out
      clear hqm
      have hmp : 0 < m := by rw [← HM.out, hk]; omega
      have e0 := KR.out.2 0 hmp
      have hs0 := HKS.out 0
      obtain ⟨k0, hk0⟩ : ∃ k0, K.getD 0 ⟨#[]⟩ = k0 := ⟨_, rfl⟩
      rw [hk0] at e0 hs0
      have HK0 := Lib.hid hk0
      clear hk hk0
      go_wp2_with fail
      go_ret
      exact ⟨by simp only [textF]; rw [HK0.out]; rfl, HB.out⟩
end Go.Proofs.YtleiaghegokjkaaGreatDoor
