/- The program's text of an interface; of every type of a right arena. -/
import Derived.Test.YthgdceikmipppaaDoorTypTP
namespace Go.Proofs.YthgdceikmipppaaDoor
open Go.RowKit
set_option linter.unusedSimpArgs false
set_option linter.unusedVariables false

theorem joinT_big {ss : List ByteArray} {sep : ByteArray} {n k : Nat} (hl : ss.length ≤ n) (hz : ∀ s ∈ ss, s.size ≤ k) : (joinT ss sep).size ≤ n * k + n * sep.size := by
  have := joinL_len sep.data.toList hz hl
  have e : sep.data.toList.length = sep.size := by simp
  rw [e] at this
  have e2 : (joinT ss sep).size = (Lib.join (ss.map (·.data.toList)) sep.data.toList).length := by
    unfold joinT
    show ((Lib.join (ss.map (·.data.toList)) sep.data.toList).toArray).size = _
    simp
  omega
set_option maxHeartbeats 16000000 in
set_option maxRecDepth 100000 in
theorem text_iface (s : ByteArray) (n : Int) (ws : List ByteArray) (ks : List Int) (hk : ws.length = ks.length ∧ 0 ≤ n ∧ n ≤ 3) : TextC ⟨7, s, n, ws, ks⟩ := by
  intro w wo ko wc kc tb N T ht hwc hkc hT hN hsz hin hp
  unfold tyV
  show Calls _ _ #[.agg #[.int .i64 7, .string s, .int .i64 n, .slice wo ws.length wc, .slice ko ks.length kc], .slice (some ⟨tb, 0, none⟩) N N] _ _
  have hml : ks.length ≤ 18 := ht.ok.kl
  have hwl : ws.length ≤ 18 := ht.ok.wl
  have hsl : s.size ≤ 50 := ht.ok.nl
  obtain ⟨m, hm⟩ : ∃ m, ks.length = m := ⟨_, rfl⟩
  have HM := Lib.hid hm
  obtain ⟨w1, h1⟩ : ∃ w1, w.alloc (.cells #[.int .i64 7, .string s, .int .i64 n, .slice wo ws.length wc, .slice ko ks.length kc] 31) = w1 := ⟨_, rfl⟩
  obtain ⟨k1, q1, z1⟩ := box_new h1
  obtain ⟨kb, hkb⟩ : ∃ kb, w1.heap.size = kb := ⟨_, rfl⟩
  have hmk := make_strs ks.length (by omega) w1
  rw [hkb, hm] at hmk
  rw [hm] at hml h1 k1 ⊢
  obtain ⟨w2, h2⟩ : ∃ w2, w1.alloc (.cells (rowS m fun _ => ⟨#[]⟩) 9) = w2 := ⟨_, rfl⟩
  rw [h2] at hmk
  obtain ⟨k2, q2, z2⟩ := box_new h2
  rw [hkb] at k2
  have BW := Lib.hid (q1.trans (q2.mono q1.size))
  have K1 := Lib.hid (k1.below q2)
  have HKB := Lib.hid (show w.heap.size ≤ kb ∧ w.heap.size ≠ kb ∧ tb < w.heap.size from ⟨by rw [← hkb]; exact q1.size, by omega, hT.lt⟩)
  obtain ⟨K, hK⟩ : ∃ K, kidsT T ⟨7, s, n, ws, ks⟩ = K := ⟨_, rfl⟩
  have HKG := Lib.hid (show ∀ j, j < m → K.getD j ⟨#[]⟩ = T (ks.getD j 0).toNat from fun j hj => by rw [← hK]; exact kidsT_get (t := ⟨7, s, n, ws, ks⟩) (by show j < ks.length; omega))
  have HKL := Lib.hid (show K.length = m from by rw [← hK, kidsT_len]; exact hm)
  have HKS := Lib.hid (show ∀ j, (K.getD j ⟨#[]⟩).size ≤ 4000 from fun j => by rw [← hK]; exact kid_size hsz j)
  rw [hK]
  have K2 := Lib.hid (show BlockAt w2 kb (rowS m (KF K 0)) 9 from by rw [KF_zero]; exact k2)
  have HTY := Lib.hid ht
  have HIN := Lib.hid (show ∀ k ∈ ks, 0 ≤ k ∧ k < (N : Int) from hin)
  have HTT := Lib.hid hT
  have HPW := Lib.hid hp
  have HWC := Lib.hid (show ws.length ≤ wc from hwc)
  obtain ⟨c0, c1, c2, c3, c4⟩ := cell5 k1
  obtain ⟨d0, d1, d2, d3, d4⟩ := cell5 (k1.below q2)
  clear ht hwc hkc hT hsz hin hp hm hkb k1 q1 z1 h2 k2 q2 z2 hK
  have HK := Lib.hid hk
  clear hk
  go_enter Tryd.func28, Tryd.ntmps28
  go_wp2_with fail
  clear h1 hmk c0 c1 c2 c3 c4 d0 d1 d2 d3 d4
  go_loopw [18] (fun v wr => ∃ q : Nat, q ≤ m ∧ v = .int .i64 q ∧ Hid (BlockAt wr kb (rowS m (KF K q)) 9) ∧ Hid (BlockAt wr w.heap.size #[.int .i64 7, .string s, .int .i64 n, .slice wo ws.length wc, .slice ko m kc] 31) ∧ Hid (Below w.heap.size w wr)) (fun v _ => m - (intOf v).toNat)
  case atStart => exact ⟨0, Nat.zero_le _, rfl, K2, K1, BW⟩
  case round =>
    obtain ⟨q, hq, rfl, KQ, K1, HB⟩ := hrel
    by_cases hql : q < m
    · have hqx : q < ks.length := by rw [HM.out]; exact hql
      obtain ⟨xb, xof, rfl, hxb, hxc⟩ := HTY.out.kids.cells (by show 0 < ks.length; omega)
      have ck : w.cell? ⟨xb, xof + q, none⟩ = some (.int .i64 (ks.getD q 0)) := hxc q hqx
      obtain ⟨g1, g2⟩ := HIN.out _ (getD_mem hqx)
      have hkg := HKG.out q hql
      obtain ⟨z, hz⟩ : ∃ z : Nat, ks.getD q 0 = (z : Int) := ⟨(ks.getD q 0).toNat, by omega⟩
      rw [hz] at ck g2 hkg
      rw [Int.toNat_natCast] at hkg
      have ck2 : wr.cell? ⟨xb, xof + q, none⟩ = some (.int .i64 (z : Int)) := by rw [HB.out.cell (p := ⟨xb, xof + q, none⟩) hxb]; exact ck
      have ct := (HTT.out.below HB.out).cell z
      rw [rowS_get (by omega), ← hkg] at ct
      obtain ⟨kt, hkt⟩ : ∃ kt, K.getD q ⟨#[]⟩ = kt := ⟨_, rfl⟩
      rw [hkt] at ct
      have cq := KQ.out.cell q
      rw [rowS_get hql] at cq
      have fq := KQ.out.free q
      obtain ⟨w7, h7⟩ : ∃ w7, wr.setCell ⟨kb, q, none⟩ (.string kt) = w7 := ⟨_, rfl⟩
      have KQ7 := Lib.hid (show BlockAt w7 kb (rowS m (KF K (q + 1))) 9 from by
        rw [← KF_step, hkt, ← rowS_set, ← h7]
        exact KQ.out.set q _)
      have K17 := Lib.hid (K1.out.other HKB.out.2.1 q (.string kt))
      rw [h7] at K17
      have B7 := Lib.hid (show Below w.heap.size w w7 from by rw [← h7]; exact HB.out.setCell (p := ⟨kb, q, none⟩) HKB.out.1 _)
      obtain ⟨f0, hf0⟩ : ∃ f0, KF K q q = f0 := ⟨_, rfl⟩
      rw [hf0] at cq
      clear hf0 hkt hkg hz ck hxb hxc g1
      go_wp2_with fail
      go_roundw
      case rel => exact ⟨q + 1, by omega, by go_num, KQ7, K17, B7⟩
      case measure => first | (simp [intOf]; done) | (simp [intOf]; omega)
    · have hqm : q = m := by omega
      rw [hqm] at KQ
      have KR := Lib.hid (KF_row KQ.out HKL.out)
      obtain ⟨c0, c1, c2, c3, c4⟩ := cell5 K1.out
      clear hqm
      have HWM := Lib.hid (show ws.length = m from by rw [HK.out.1]; exact HM.out)
      have HP0 := parts_any s n ws ks K wo ko wc kc m kb m wr (HTY.out.below HB.out) HWM.out HWC.out HKL.out HK.out.2 KR.out.2 KQ.out.lt HKS.out
      have hPF := partsF_facts (nm := s) (n := n) (ks := ks) HWM.out HKL.out hml (fun s h => HTY.out.ok.ws s h) (mem_size HKS.out)
      obtain ⟨P, hP⟩ : ∃ P, partsF ⟨7, s, n, ws, ks⟩ K = P := ⟨_, rfl⟩
      rw [hP] at HP0 hPF
      have HPE := Lib.hid hP
      have HP1 : Calls Tryd.prog 42 #[.agg #[.int .i64 7, .string s, .int .i64 n, .slice wo ws.length wc, .slice ko m kc], .slice (some ⟨kb, 0, none⟩) m m] wr (fun e wz => ∃ ao cap, e = .returned (.slice ao P.length cap) ∧ SRow wz ao P ∧ P.length ≤ cap ∧ Below wr.heap.size wr wz) := by rw [HWM.out]; exact HP0
      have HPC := Lib.hid HP1
      have HPFF := Lib.hid hPF
      have hjs : (joinT P ⟨#[59, 32]⟩).size ≤ 20 * 100000 + 20 * 2 := joinT_big hPF.1 hPF.2
      obtain ⟨jt, hjt⟩ : ∃ jt, joinT P ⟨#[59, 32]⟩ = jt := ⟨_, rfl⟩
      rw [hjt] at hjs
      have HJT := Lib.hid hjt
      clear HP0 HP1 hPF hP hjt
      go_wp2_with fail
      refine HPC.out.mono ?_
      rintro e w9 ⟨ao, cap, rfl, r1, r2, b9⟩
      have B9 := Lib.hid (HB.out.trans (b9.mono HB.out.size))
      have HJ := Lib.hid (join_all ao cap P ⟨#[59, 32]⟩ 20 100000 w9 r1 HPFF.out.1 HPFF.out.2 r2 (by decide) (by decide))
      rw [HJT.out] at HJ
      clear r1 r2 b9 c0 c1 c2 c3 c4 HPC
      go_wp2_with fail
      refine HJ.out.mono ?_
      rintro e w8 ⟨rfl, b8⟩
      have B8 := Lib.hid (B9.out.trans (b8.mono B9.out.size))
      clear b8
      go_wp2_with fail
      go_ret
      exact ⟨by simp only [textF]; rw [HPE.out, HJT.out]; rfl, B8.out⟩
set_option maxHeartbeats 16000000 in
set_option maxRecDepth 100000 in
theorem text_named0 (s : ByteArray) (n : Int) (ws : List ByteArray) (ks : List Int) (hk : ks = []) : TextC ⟨8, s, n, ws, ks⟩ := by
  intro w wo ko wc kc tb N T ht hwc hkc hT hN hsz hin hp
  unfold tyV
  show Calls _ _ #[.agg #[.int .i64 8, .string s, .int .i64 n, .slice wo ws.length wc, .slice ko ks.length kc], .slice (some ⟨tb, 0, none⟩) N N] _ _
  have hml : ks.length ≤ 18 := ht.ok.kl
  have hwl : ws.length ≤ 18 := ht.ok.wl
  have hsl : s.size ≤ 50 := ht.ok.nl
  obtain ⟨m, hm⟩ : ∃ m, ks.length = m := ⟨_, rfl⟩
  have HM := Lib.hid hm
  obtain ⟨w1, h1⟩ : ∃ w1, w.alloc (.cells #[.int .i64 8, .string s, .int .i64 n, .slice wo ws.length wc, .slice ko ks.length kc] 31) = w1 := ⟨_, rfl⟩
  obtain ⟨k1, q1, z1⟩ := box_new h1
  obtain ⟨kb, hkb⟩ : ∃ kb, w1.heap.size = kb := ⟨_, rfl⟩
  have hmk := make_strs ks.length (by omega) w1
  rw [hkb, hm] at hmk
  rw [hm] at hml h1 k1 ⊢
  obtain ⟨w2, h2⟩ : ∃ w2, w1.alloc (.cells (rowS m fun _ => ⟨#[]⟩) 9) = w2 := ⟨_, rfl⟩
  rw [h2] at hmk
  obtain ⟨k2, q2, z2⟩ := box_new h2
  rw [hkb] at k2
  have BW := Lib.hid (q1.trans (q2.mono q1.size))
  have K1 := Lib.hid (k1.below q2)
  have HKB := Lib.hid (show w.heap.size ≤ kb ∧ w.heap.size ≠ kb ∧ tb < w.heap.size from ⟨by rw [← hkb]; exact q1.size, by omega, hT.lt⟩)
  obtain ⟨K, hK⟩ : ∃ K, kidsT T ⟨8, s, n, ws, ks⟩ = K := ⟨_, rfl⟩
  have HKG := Lib.hid (show ∀ j, j < m → K.getD j ⟨#[]⟩ = T (ks.getD j 0).toNat from fun j hj => by rw [← hK]; exact kidsT_get (t := ⟨8, s, n, ws, ks⟩) (by show j < ks.length; omega))
  have HKL := Lib.hid (show K.length = m from by rw [← hK, kidsT_len]; exact hm)
  have HKS := Lib.hid (show ∀ j, (K.getD j ⟨#[]⟩).size ≤ 4000 from fun j => by rw [← hK]; exact kid_size hsz j)
  rw [hK]
  have K2 := Lib.hid (show BlockAt w2 kb (rowS m (KF K 0)) 9 from by rw [KF_zero]; exact k2)
  have HTY := Lib.hid ht
  have HIN := Lib.hid (show ∀ k ∈ ks, 0 ≤ k ∧ k < (N : Int) from hin)
  have HTT := Lib.hid hT
  have HPW := Lib.hid hp
  have HWC := Lib.hid (show ws.length ≤ wc from hwc)
  obtain ⟨c0, c1, c2, c3, c4⟩ := cell5 k1
  obtain ⟨d0, d1, d2, d3, d4⟩ := cell5 (k1.below q2)
  clear ht hwc hkc hT hsz hin hp hm hkb k1 q1 z1 h2 k2 q2 z2 hK
  go_enter Tryd.func28, Tryd.ntmps28
  go_wp2_with fail
  clear h1 hmk c0 c1 c2 c3 c4 d0 d1 d2 d3 d4
  go_loopw [18] (fun v wr => ∃ q : Nat, q ≤ m ∧ v = .int .i64 q ∧ Hid (BlockAt wr kb (rowS m (KF K q)) 9) ∧ Hid (BlockAt wr w.heap.size #[.int .i64 8, .string s, .int .i64 n, .slice wo ws.length wc, .slice ko m kc] 31) ∧ Hid (Below w.heap.size w wr)) (fun v _ => m - (intOf v).toNat)
  case atStart => exact ⟨0, Nat.zero_le _, rfl, K2, K1, BW⟩
  case round =>
    obtain ⟨q, hq, rfl, KQ, K1, HB⟩ := hrel
    by_cases hql : q < m
    · have hqx : q < ks.length := by rw [HM.out]; exact hql
      obtain ⟨xb, xof, rfl, hxb, hxc⟩ := HTY.out.kids.cells (by show 0 < ks.length; omega)
      have ck : w.cell? ⟨xb, xof + q, none⟩ = some (.int .i64 (ks.getD q 0)) := hxc q hqx
      obtain ⟨g1, g2⟩ := HIN.out _ (getD_mem hqx)
      have hkg := HKG.out q hql
      obtain ⟨z, hz⟩ : ∃ z : Nat, ks.getD q 0 = (z : Int) := ⟨(ks.getD q 0).toNat, by omega⟩
      rw [hz] at ck g2 hkg
      rw [Int.toNat_natCast] at hkg
      have ck2 : wr.cell? ⟨xb, xof + q, none⟩ = some (.int .i64 (z : Int)) := by rw [HB.out.cell (p := ⟨xb, xof + q, none⟩) hxb]; exact ck
      have ct := (HTT.out.below HB.out).cell z
      rw [rowS_get (by omega), ← hkg] at ct
      obtain ⟨kt, hkt⟩ : ∃ kt, K.getD q ⟨#[]⟩ = kt := ⟨_, rfl⟩
      rw [hkt] at ct
      have cq := KQ.out.cell q
      rw [rowS_get hql] at cq
      have fq := KQ.out.free q
      obtain ⟨w7, h7⟩ : ∃ w7, wr.setCell ⟨kb, q, none⟩ (.string kt) = w7 := ⟨_, rfl⟩
      have KQ7 := Lib.hid (show BlockAt w7 kb (rowS m (KF K (q + 1))) 9 from by
        rw [← KF_step, hkt, ← rowS_set, ← h7]
        exact KQ.out.set q _)
      have K17 := Lib.hid (K1.out.other HKB.out.2.1 q (.string kt))
      rw [h7] at K17
      have B7 := Lib.hid (show Below w.heap.size w w7 from by rw [← h7]; exact HB.out.setCell (p := ⟨kb, q, none⟩) HKB.out.1 _)
      obtain ⟨f0, hf0⟩ : ∃ f0, KF K q q = f0 := ⟨_, rfl⟩
      rw [hf0] at cq
      clear hf0 hkt hkg hz ck hxb hxc g1
      go_wp2_with fail
      go_roundw
      case rel => exact ⟨q + 1, by omega, by go_num, KQ7, K17, B7⟩
      case measure => first | (simp [intOf]; done) | (simp [intOf]; omega)
    · have hqm : q = m := by omega
      rw [hqm] at KQ
      have KR := Lib.hid (KF_row KQ.out HKL.out)
      obtain ⟨c0, c1, c2, c3, c4⟩ := cell5 K1.out
      clear hqm
      have hm0 : m = 0 := by rw [← HM.out, hk]; rfl
      have hmn : ¬ 0 < m := by omega
      have hd : decide (0 < m) = false := decide_eq_false hmn
      clear hm0 hk
      go_wp2_with fail
      go_ret
      have hKn : ¬ 0 < K.length := by rw [HKL.out]; exact hmn
      exact ⟨by simp [textF, hKn], HB.out⟩
theorem kind_of {l : List Ty} (h : rightT l = true) {j : Nat} (hj : j < l.length) : TextC l[j] := by
  obtain ⟨t, ht⟩ : ∃ t, l[j] = t := ⟨_, rfl⟩
  rw [ht]
  by_cases h22 : j < 22
  · have hb := right_low h hj h22
    rw [ht] at hb
    unfold bas at hb
    split at hb
    · rw [hb]; exact text_zero _ _ _ _ rfl
    · rw [hb]; exact text_iface _ _ _ _ ⟨rfl, by omega, by omega⟩
  · have hm := (right_high h hj h22).1
    rw [ht] at hm
    obtain ⟨k, s, n, ws, ks⟩ := t
    unfold madeB at hm
    rw [Bool.and_eq_true] at hm
    have hm := hm.2
    simp only at hm
    split at hm
    · rename_i hk
      simp only [Bool.and_eq_true, decide_eq_true_eq] at hm
      rcases hk with rfl | rfl
      · exact text_ptr _ _ _ _ hm.2.1
      · exact text_slice _ _ _ _ hm.2.1
    split at hm
    · rename_i hk
      subst hk
      simp only [Bool.and_eq_true, decide_eq_true_eq] at hm
      exact text_array _ _ _ _ hm.2.1
    split at hm
    · rename_i hk
      subst hk
      simp only [Bool.and_eq_true, decide_eq_true_eq] at hm
      exact text_map _ _ _ _ hm.2.1
    split at hm
    · rename_i hk
      subst hk
      simp only [Bool.and_eq_true, decide_eq_true_eq] at hm
      exact text_func _ _ _ _ (by omega)
    split at hm
    · rename_i hk
      subst hk
      simp only [Bool.and_eq_true, decide_eq_true_eq] at hm
      exact text_struct _ _ _ _ hm.1.2.2.2
    split at hm
    · rename_i hk
      subst hk
      simp only [Bool.and_eq_true, decide_eq_true_eq] at hm
      exact text_iface _ _ _ _ ⟨hm.1.2.2.2.2, hm.1.2.1, hm.1.2.2.1⟩
    split at hm
    · rename_i hk
      subst hk
      by_cases h0 : 0 < ks.length
      · exact text_named _ _ _ _ h0
      · exact text_named0 _ _ _ _ (List.eq_nil_of_length_eq_zero (by omega))
    split at hm
    · rename_i hk
      subst hk
      simp only [Bool.and_eq_true, decide_eq_true_eq] at hm
      exact text_param _ _ _ _ (List.eq_nil_of_length_eq_zero hm.2.1)
    · cases hm
end Go.Proofs.YthgdceikmipppaaDoor
