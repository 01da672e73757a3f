/- The program's text of a type, kind by kind: the other kinds. -/
import Derived.Test.YthgdceikmipppaaDoorTypTL
import Derived.Test.YthgdceikmipppaaDoorRegG
import Derived.Test.YthgdceikmipppaaDoorTypOne
import Derived.Lib.ItoaLen
namespace Go.Proofs.YthgdceikmipppaaDoor
open Go.RowKit
set_option linter.unusedSimpArgs false
set_option linter.unusedVariables false

theorem itoa_any (n : Int) (h : -9223372036854775808 ≤ n ∧ n ≤ 9223372036854775807) (w : World) (hp : PowAt w) :
    Calls Tryd.prog 40 #[.int .i64 n] w fun e w' => e = .returned (.string (itoaS n)) ∧ Below w.heap.size w w' := by
  refine (Tryd.strconv_Itoa n h.1 h.2 w hp).mono ?_
  rintro e w' ⟨rfl, k, os, rfl⟩
  exact ⟨rfl, grow_below _ _ _⟩
theorem join_all (ao : Option Addr) (cap : Nat) (ss : List ByteArray) (sep : ByteArray) (n k : Nat) (w : World) (hr : SRow w ao ss) (hl : ss.length ≤ n) (hz : ∀ s ∈ ss, s.size ≤ k) (hc : ss.length ≤ cap) (hb : n * k + n * sep.size ≤ 140737488355328) (hn : n ≤ 1000000) :
    Calls Tryd.prog 41 #[.slice ao ss.length cap, .string sep] w fun e w' => e = .returned (.string (joinT ss sep)) ∧ Below w.heap.size w w' := by
  by_cases h0 : 0 < ss.length
  · exact join_any ao cap ss sep n k w hr h0 hl hz hc hb hn
  · have e : ss = [] := List.eq_nil_of_length_eq_zero (by omega)
    subst e
    refine (Tryd.strings_Join_none ao cap sep w).mono ?_
    rintro e w' ⟨rfl, rfl⟩
    exact ⟨rfl, Below.refl _ _⟩
theorem mem_size {K : List ByteArray} {B : Nat} (h : ∀ j, (K.getD j ⟨#[]⟩).size ≤ B) : ∀ s ∈ K, s.size ≤ B := by
  intro s hs
  obtain ⟨j, hj, rfl⟩ := List.getElem_of_mem hs
  have := h j
  rwa [getD_of hj] at this
theorem itoaS_size (n : Int) (h : -9223372036854775808 ≤ n ∧ n ≤ 9223372036854775807) : (itoaS n).size ≤ 21 := by
  have := Lib.itoa_length_le n h.1 h.2
  unfold itoaS
  show ((Lib.itoa n).toArray).size ≤ 21
  simpa using this
theorem joinT_size {ss : List ByteArray} {sep : ByteArray} (hl : ss.length ≤ 18) (hz : ∀ s ∈ ss, s.size ≤ 5000) (hs : sep.size ≤ 10) : (joinT ss sep).size ≤ 100000 := by
  have := joinL_len sep.data.toList hz hl
  have e : sep.data.toList.length = sep.size := by simp
  rw [e] at this
  have e2 : (joinT ss sep).size = (Lib.join (ss.map (·.data.toList)) sep.data.toList).length := by
    unfold joinT
    show ((Lib.join (ss.map (·.data.toList)) sep.data.toList).toArray).size = _
    simp
  have : 18 * sep.size ≤ 180 := by omega
  omega
set_option maxHeartbeats 16000000 in
set_option maxRecDepth 100000 in
theorem text_ptr (s : ByteArray) (n : Int) (ws : List ByteArray) (ks : List Int) (hk : ks.length = 1) : TextC ⟨1, s, n, ws, ks⟩ := by
  intro w wo ko wc kc tb N T ht hwc hkc hT hN hsz hin hp
  unfold tyV
  show Calls _ _ #[.agg #[.int .i64 1, .string s, .int .i64 n, .slice wo ws.length wc, .slice ko ks.length kc], .slice (some ⟨tb, 0, none⟩) N N] _ _
  have hml : ks.length ≤ 18 := ht.ok.kl
  have hwl : ws.length ≤ 18 := ht.ok.wl
  have hsl : s.size ≤ 50 := ht.ok.nl
  obtain ⟨m, hm⟩ : ∃ m, ks.length = m := ⟨_, rfl⟩
  have HM := Lib.hid hm
  obtain ⟨w1, h1⟩ : ∃ w1, w.alloc (.cells #[.int .i64 1, .string s, .int .i64 n, .slice wo ws.length wc, .slice ko ks.length kc] 31) = w1 := ⟨_, rfl⟩
  obtain ⟨k1, q1, z1⟩ := box_new h1
  obtain ⟨kb, hkb⟩ : ∃ kb, w1.heap.size = kb := ⟨_, rfl⟩
  have hmk := make_strs ks.length (by omega) w1
  rw [hkb, hm] at hmk
  rw [hm] at hml h1 k1 ⊢
  obtain ⟨w2, h2⟩ : ∃ w2, w1.alloc (.cells (rowS m fun _ => ⟨#[]⟩) 9) = w2 := ⟨_, rfl⟩
  rw [h2] at hmk
  obtain ⟨k2, q2, z2⟩ := box_new h2
  rw [hkb] at k2
  have BW := Lib.hid (q1.trans (q2.mono q1.size))
  have K1 := Lib.hid (k1.below q2)
  have HKB := Lib.hid (show w.heap.size ≤ kb ∧ w.heap.size ≠ kb ∧ tb < w.heap.size from ⟨by rw [← hkb]; exact q1.size, by omega, hT.lt⟩)
  obtain ⟨K, hK⟩ : ∃ K, kidsT T ⟨1, s, n, ws, ks⟩ = K := ⟨_, rfl⟩
  have HKG := Lib.hid (show ∀ j, j < m → K.getD j ⟨#[]⟩ = T (ks.getD j 0).toNat from fun j hj => by rw [← hK]; exact kidsT_get (t := ⟨1, s, n, ws, ks⟩) (by show j < ks.length; omega))
  have HKL := Lib.hid (show K.length = m from by rw [← hK, kidsT_len]; exact hm)
  have HKS := Lib.hid (show ∀ j, (K.getD j ⟨#[]⟩).size ≤ 4000 from fun j => by rw [← hK]; exact kid_size hsz j)
  rw [hK]
  have K2 := Lib.hid (show BlockAt w2 kb (rowS m (KF K 0)) 9 from by rw [KF_zero]; exact k2)
  have HTY := Lib.hid ht
  have HIN := Lib.hid (show ∀ k ∈ ks, 0 ≤ k ∧ k < (N : Int) from hin)
  have HTT := Lib.hid hT
  have HPW := Lib.hid hp
  have HWC := Lib.hid (show ws.length ≤ wc from hwc)
  obtain ⟨c0, c1, c2, c3, c4⟩ := cell5 k1
  obtain ⟨d0, d1, d2, d3, d4⟩ := cell5 (k1.below q2)
  clear ht hwc hkc hT hsz hin hp hm hkb k1 q1 z1 h2 k2 q2 z2 hK
  go_enter Tryd.func28, Tryd.ntmps28
  go_wp2_with fail
  clear h1 hmk c0 c1 c2 c3 c4 d0 d1 d2 d3 d4
  go_loopw [18] (fun v wr => ∃ q : Nat, q ≤ m ∧ v = .int .i64 q ∧ Hid (BlockAt wr kb (rowS m (KF K q)) 9) ∧ Hid (BlockAt wr w.heap.size #[.int .i64 1, .string s, .int .i64 n, .slice wo ws.length wc, .slice ko m kc] 31) ∧ Hid (Below w.heap.size w wr)) (fun v _ => m - (intOf v).toNat)
  case atStart => exact ⟨0, Nat.zero_le _, rfl, K2, K1, BW⟩
  case round =>
    obtain ⟨q, hq, rfl, KQ, K1, HB⟩ := hrel
    by_cases hql : q < m
    · have hqx : q < ks.length := by rw [HM.out]; exact hql
      obtain ⟨xb, xof, rfl, hxb, hxc⟩ := HTY.out.kids.cells (by show 0 < ks.length; omega)
      have ck : w.cell? ⟨xb, xof + q, none⟩ = some (.int .i64 (ks.getD q 0)) := hxc q hqx
      obtain ⟨g1, g2⟩ := HIN.out _ (getD_mem hqx)
      have hkg := HKG.out q hql
      obtain ⟨z, hz⟩ : ∃ z : Nat, ks.getD q 0 = (z : Int) := ⟨(ks.getD q 0).toNat, by omega⟩
      rw [hz] at ck g2 hkg
      rw [Int.toNat_natCast] at hkg
      have ck2 : wr.cell? ⟨xb, xof + q, none⟩ = some (.int .i64 (z : Int)) := by rw [HB.out.cell (p := ⟨xb, xof + q, none⟩) hxb]; exact ck
      have ct := (HTT.out.below HB.out).cell z
      rw [rowS_get (by omega), ← hkg] at ct
      obtain ⟨kt, hkt⟩ : ∃ kt, K.getD q ⟨#[]⟩ = kt := ⟨_, rfl⟩
      rw [hkt] at ct
      have cq := KQ.out.cell q
      rw [rowS_get hql] at cq
      have fq := KQ.out.free q
      obtain ⟨w7, h7⟩ : ∃ w7, wr.setCell ⟨kb, q, none⟩ (.string kt) = w7 := ⟨_, rfl⟩
      have KQ7 := Lib.hid (show BlockAt w7 kb (rowS m (KF K (q + 1))) 9 from by
        rw [← KF_step, hkt, ← rowS_set, ← h7]
        exact KQ.out.set q _)
      have K17 := Lib.hid (K1.out.other HKB.out.2.1 q (.string kt))
      rw [h7] at K17
      have B7 := Lib.hid (show Below w.heap.size w w7 from by rw [← h7]; exact HB.out.setCell (p := ⟨kb, q, none⟩) HKB.out.1 _)
      obtain ⟨f0, hf0⟩ : ∃ f0, KF K q q = f0 := ⟨_, rfl⟩
      rw [hf0] at cq
      clear hf0 hkt hkg hz ck hxb hxc g1
      go_wp2_with fail
      go_roundw
      case rel => exact ⟨q + 1, by omega, by go_num, KQ7, K17, B7⟩
      case measure => first | (simp [intOf]; done) | (simp [intOf]; omega)
    · have hqm : q = m := by omega
      rw [hqm] at KQ
      have KR := Lib.hid (KF_row KQ.out HKL.out)
      obtain ⟨c0, c1, c2, c3, c4⟩ := cell5 K1.out
      clear hqm
      have hmp : 0 < m := by rw [← HM.out, hk]; omega
      have e0 := KR.out.2 0 hmp
      have hs0 := HKS.out 0
      obtain ⟨k0, hk0⟩ : ∃ k0, K.getD 0 ⟨#[]⟩ = k0 := ⟨_, rfl⟩
      rw [hk0] at e0 hs0
      have HK0 := Lib.hid hk0
      clear hk0
      clear hk
      go_wp2_with fail
      go_ret
      exact ⟨by simp only [textF]; rw [HK0.out]; rfl, HB.out⟩
set_option maxHeartbeats 16000000 in
set_option maxRecDepth 100000 in
theorem text_param (s : ByteArray) (n : Int) (ws : List ByteArray) (ks : List Int) (hk : ks = []) : TextC ⟨9, s, n, ws, ks⟩ := by
  intro w wo ko wc kc tb N T ht hwc hkc hT hN hsz hin hp
  unfold tyV
  show Calls _ _ #[.agg #[.int .i64 9, .string s, .int .i64 n, .slice wo ws.length wc, .slice ko ks.length kc], .slice (some ⟨tb, 0, none⟩) N N] _ _
  have hml : ks.length ≤ 18 := ht.ok.kl
  have hwl : ws.length ≤ 18 := ht.ok.wl
  have hsl : s.size ≤ 50 := ht.ok.nl
  obtain ⟨m, hm⟩ : ∃ m, ks.length = m := ⟨_, rfl⟩
  have HM := Lib.hid hm
  obtain ⟨w1, h1⟩ : ∃ w1, w.alloc (.cells #[.int .i64 9, .string s, .int .i64 n, .slice wo ws.length wc, .slice ko ks.length kc] 31) = w1 := ⟨_, rfl⟩
  obtain ⟨k1, q1, z1⟩ := box_new h1
  obtain ⟨kb, hkb⟩ : ∃ kb, w1.heap.size = kb := ⟨_, rfl⟩
  have hmk := make_strs ks.length (by omega) w1
  rw [hkb, hm] at hmk
  rw [hm] at hml h1 k1 ⊢
  obtain ⟨w2, h2⟩ : ∃ w2, w1.alloc (.cells (rowS m fun _ => ⟨#[]⟩) 9) = w2 := ⟨_, rfl⟩
  rw [h2] at hmk
  obtain ⟨k2, q2, z2⟩ := box_new h2
  rw [hkb] at k2
  have BW := Lib.hid (q1.trans (q2.mono q1.size))
  have K1 := Lib.hid (k1.below q2)
  have HKB := Lib.hid (show w.heap.size ≤ kb ∧ w.heap.size ≠ kb ∧ tb < w.heap.size from ⟨by rw [← hkb]; exact q1.size, by omega, hT.lt⟩)
  obtain ⟨K, hK⟩ : ∃ K, kidsT T ⟨9, s, n, ws, ks⟩ = K := ⟨_, rfl⟩
  have HKG := Lib.hid (show ∀ j, j < m → K.getD j ⟨#[]⟩ = T (ks.getD j 0).toNat from fun j hj => by rw [← hK]; exact kidsT_get (t := ⟨9, s, n, ws, ks⟩) (by show j < ks.length; omega))
  have HKL := Lib.hid (show K.length = m from by rw [← hK, kidsT_len]; exact hm)
  have HKS := Lib.hid (show ∀ j, (K.getD j ⟨#[]⟩).size ≤ 4000 from fun j => by rw [← hK]; exact kid_size hsz j)
  rw [hK]
  have K2 := Lib.hid (show BlockAt w2 kb (rowS m (KF K 0)) 9 from by rw [KF_zero]; exact k2)
  have HTY := Lib.hid ht
  have HIN := Lib.hid (show ∀ k ∈ ks, 0 ≤ k ∧ k < (N : Int) from hin)
  have HTT := Lib.hid hT
  have HPW := Lib.hid hp
  have HWC := Lib.hid (show ws.length ≤ wc from hwc)
  obtain ⟨c0, c1, c2, c3, c4⟩ := cell5 k1
  obtain ⟨d0, d1, d2, d3, d4⟩ := cell5 (k1.below q2)
  clear ht hwc hkc hT hsz hin hp hm hkb k1 q1 z1 h2 k2 q2 z2 hK
  go_enter Tryd.func28, Tryd.ntmps28
  go_wp2_with fail
  clear h1 hmk c0 c1 c2 c3 c4 d0 d1 d2 d3 d4
  go_loopw [18] (fun v wr => ∃ q : Nat, q ≤ m ∧ v = .int .i64 q ∧ Hid (BlockAt wr kb (rowS m (KF K q)) 9) ∧ Hid (BlockAt wr w.heap.size #[.int .i64 9, .string s, .int .i64 n, .slice wo ws.length wc, .slice ko m kc] 31) ∧ Hid (Below w.heap.size w wr)) (fun v _ => m - (intOf v).toNat)
  case atStart => exact ⟨0, Nat.zero_le _, rfl, K2, K1, BW⟩
  case round =>
    obtain ⟨q, hq, rfl, KQ, K1, HB⟩ := hrel
    by_cases hql : q < m
    · have hqx : q < ks.length := by rw [HM.out]; exact hql
      obtain ⟨xb, xof, rfl, hxb, hxc⟩ := HTY.out.kids.cells (by show 0 < ks.length; omega)
      have ck : w.cell? ⟨xb, xof + q, none⟩ = some (.int .i64 (ks.getD q 0)) := hxc q hqx
      obtain ⟨g1, g2⟩ := HIN.out _ (getD_mem hqx)
      have hkg := HKG.out q hql
      obtain ⟨z, hz⟩ : ∃ z : Nat, ks.getD q 0 = (z : Int) := ⟨(ks.getD q 0).toNat, by omega⟩
      rw [hz] at ck g2 hkg
      rw [Int.toNat_natCast] at hkg
      have ck2 : wr.cell? ⟨xb, xof + q, none⟩ = some (.int .i64 (z : Int)) := by rw [HB.out.cell (p := ⟨xb, xof + q, none⟩) hxb]; exact ck
      have ct := (HTT.out.below HB.out).cell z
      rw [rowS_get (by omega), ← hkg] at ct
      obtain ⟨kt, hkt⟩ : ∃ kt, K.getD q ⟨#[]⟩ = kt := ⟨_, rfl⟩
      rw [hkt] at ct
      have cq := KQ.out.cell q
      rw [rowS_get hql] at cq
      have fq := KQ.out.free q
      obtain ⟨w7, h7⟩ : ∃ w7, wr.setCell ⟨kb, q, none⟩ (.string kt) = w7 := ⟨_, rfl⟩
      have KQ7 := Lib.hid (show BlockAt w7 kb (rowS m (KF K (q + 1))) 9 from by
        rw [← KF_step, hkt, ← rowS_set, ← h7]
        exact KQ.out.set q _)
      have K17 := Lib.hid (K1.out.other HKB.out.2.1 q (.string kt))
      rw [h7] at K17
      have B7 := Lib.hid (show Below w.heap.size w w7 from by rw [← h7]; exact HB.out.setCell (p := ⟨kb, q, none⟩) HKB.out.1 _)
      obtain ⟨f0, hf0⟩ : ∃ f0, KF K q q = f0 := ⟨_, rfl⟩
      rw [hf0] at cq
      clear hf0 hkt hkg hz ck hxb hxc g1
      go_wp2_with fail
      go_roundw
      case rel => exact ⟨q + 1, by omega, by go_num, KQ7, K17, B7⟩
      case measure => first | (simp [intOf]; done) | (simp [intOf]; omega)
    · have hqm : q = m := by omega
      rw [hqm] at KQ
      have KR := Lib.hid (KF_row KQ.out HKL.out)
      obtain ⟨c0, c1, c2, c3, c4⟩ := cell5 K1.out
      clear hqm
      have hIT0 := itoa_any n HTY.out.ok.nums.2 wr (HPW.out.below HB.out)
      obtain ⟨si, hsi⟩ : ∃ si, itoaS n = si := ⟨_, rfl⟩
      have hsz : si.size ≤ 21 := by rw [← hsi]; exact itoaS_size _ HTY.out.ok.nums.2
      rw [hsi] at hIT0
      have HIT := Lib.hid hIT0
      have HSI := Lib.hid hsi
      clear hIT0 hsi
      clear hk
      go_wp2_with fail
      refine HIT.out.mono ?_
      rintro e w9 ⟨rfl, b9⟩
      have B9 := Lib.hid (HB.out.trans (b9.mono HB.out.size))
      clear b9 c0 c1 c2 c3 c4
      go_wp2_with fail
      go_ret
      exact ⟨by simp only [textF]; rw [HSI.out]; rfl, B9.out⟩
set_option maxHeartbeats 16000000 in
set_option maxRecDepth 100000 in
theorem text_array (s : ByteArray) (n : Int) (ws : List ByteArray) (ks : List Int) (hk : ks.length = 1) : TextC ⟨3, s, n, ws, ks⟩ := by
  intro w wo ko wc kc tb N T ht hwc hkc hT hN hsz hin hp
  unfold tyV
  show Calls _ _ #[.agg #[.int .i64 3, .string s, .int .i64 n, .slice wo ws.length wc, .slice ko ks.length kc], .slice (some ⟨tb, 0, none⟩) N N] _ _
  have hml : ks.length ≤ 18 := ht.ok.kl
  have hwl : ws.length ≤ 18 := ht.ok.wl
  have hsl : s.size ≤ 50 := ht.ok.nl
  obtain ⟨m, hm⟩ : ∃ m, ks.length = m := ⟨_, rfl⟩
  have HM := Lib.hid hm
  obtain ⟨w1, h1⟩ : ∃ w1, w.alloc (.cells #[.int .i64 3, .string s, .int .i64 n, .slice wo ws.length wc, .slice ko ks.length kc] 31) = w1 := ⟨_, rfl⟩
  obtain ⟨k1, q1, z1⟩ := box_new h1
  obtain ⟨kb, hkb⟩ : ∃ kb, w1.heap.size = kb := ⟨_, rfl⟩
  have hmk := make_strs ks.length (by omega) w1
  rw [hkb, hm] at hmk
  rw [hm] at hml h1 k1 ⊢
  obtain ⟨w2, h2⟩ : ∃ w2, w1.alloc (.cells (rowS m fun _ => ⟨#[]⟩) 9) = w2 := ⟨_, rfl⟩
  rw [h2] at hmk
  obtain ⟨k2, q2, z2⟩ := box_new h2
  rw [hkb] at k2
  have BW := Lib.hid (q1.trans (q2.mono q1.size))
  have K1 := Lib.hid (k1.below q2)
  have HKB := Lib.hid (show w.heap.size ≤ kb ∧ w.heap.size ≠ kb ∧ tb < w.heap.size from ⟨by rw [← hkb]; exact q1.size, by omega, hT.lt⟩)
  obtain ⟨K, hK⟩ : ∃ K, kidsT T ⟨3, s, n, ws, ks⟩ = K := ⟨_, rfl⟩
  have HKG := Lib.hid (show ∀ j, j < m → K.getD j ⟨#[]⟩ = T (ks.getD j 0).toNat from fun j hj => by rw [← hK]; exact kidsT_get (t := ⟨3, s, n, ws, ks⟩) (by show j < ks.length; omega))
  have HKL := Lib.hid (show K.length = m from by rw [← hK, kidsT_len]; exact hm)
  have HKS := Lib.hid (show ∀ j, (K.getD j ⟨#[]⟩).size ≤ 4000 from fun j => by rw [← hK]; exact kid_size hsz j)
  rw [hK]
  have K2 := Lib.hid (show BlockAt w2 kb (rowS m (KF K 0)) 9 from by rw [KF_zero]; exact k2)
  have HTY := Lib.hid ht
  have HIN := Lib.hid (show ∀ k ∈ ks, 0 ≤ k ∧ k < (N : Int) from hin)
  have HTT := Lib.hid hT
  have HPW := Lib.hid hp
  have HWC := Lib.hid (show ws.length ≤ wc from hwc)
  obtain ⟨c0, c1, c2, c3, c4⟩ := cell5 k1
  obtain ⟨d0, d1, d2, d3, d4⟩ := cell5 (k1.below q2)
  clear ht hwc hkc hT hsz hin hp hm hkb k1 q1 z1 h2 k2 q2 z2 hK
  go_enter Tryd.func28, Tryd.ntmps28
  go_wp2_with fail
  clear h1 hmk c0 c1 c2 c3 c4 d0 d1 d2 d3 d4
  go_loopw [18] (fun v wr => ∃ q : Nat, q ≤ m ∧ v = .int .i64 q ∧ Hid (BlockAt wr kb (rowS m (KF K q)) 9) ∧ Hid (BlockAt wr w.heap.size #[.int .i64 3, .string s, .int .i64 n, .slice wo ws.length wc, .slice ko m kc] 31) ∧ Hid (Below w.heap.size w wr)) (fun v _ => m - (intOf v).toNat)
  case atStart => exact ⟨0, Nat.zero_le _, rfl, K2, K1, BW⟩
  case round =>
    obtain ⟨q, hq, rfl, KQ, K1, HB⟩ := hrel
    by_cases hql : q < m
    · have hqx : q < ks.length := by rw [HM.out]; exact hql
      obtain ⟨xb, xof, rfl, hxb, hxc⟩ := HTY.out.kids.cells (by show 0 < ks.length; omega)
      have ck : w.cell? ⟨xb, xof + q, none⟩ = some (.int .i64 (ks.getD q 0)) := hxc q hqx
      obtain ⟨g1, g2⟩ := HIN.out _ (getD_mem hqx)
      have hkg := HKG.out q hql
      obtain ⟨z, hz⟩ : ∃ z : Nat, ks.getD q 0 = (z : Int) := ⟨(ks.getD q 0).toNat, by omega⟩
      rw [hz] at ck g2 hkg
      rw [Int.toNat_natCast] at hkg
      have ck2 : wr.cell? ⟨xb, xof + q, none⟩ = some (.int .i64 (z : Int)) := by rw [HB.out.cell (p := ⟨xb, xof + q, none⟩) hxb]; exact ck
      have ct := (HTT.out.below HB.out).cell z
      rw [rowS_get (by omega), ← hkg] at ct
      obtain ⟨kt, hkt⟩ : ∃ kt, K.getD q ⟨#[]⟩ = kt := ⟨_, rfl⟩
      rw [hkt] at ct
      have cq := KQ.out.cell q
      rw [rowS_get hql] at cq
      have fq := KQ.out.free q
      obtain ⟨w7, h7⟩ : ∃ w7, wr.setCell ⟨kb, q, none⟩ (.string kt) = w7 := ⟨_, rfl⟩
      have KQ7 := Lib.hid (show BlockAt w7 kb (rowS m (KF K (q + 1))) 9 from by
        rw [← KF_step, hkt, ← rowS_set, ← h7]
        exact KQ.out.set q _)
      have K17 := Lib.hid (K1.out.other HKB.out.2.1 q (.string kt))
      rw [h7] at K17
      have B7 := Lib.hid (show Below w.heap.size w w7 from by rw [← h7]; exact HB.out.setCell (p := ⟨kb, q, none⟩) HKB.out.1 _)
      obtain ⟨f0, hf0⟩ : ∃ f0, KF K q q = f0 := ⟨_, rfl⟩
      rw [hf0] at cq
      clear hf0 hkt hkg hz ck hxb hxc g1
      go_wp2_with fail
      go_roundw
      case rel => exact ⟨q + 1, by omega, by go_num, KQ7, K17, B7⟩
      case measure => first | (simp [intOf]; done) | (simp [intOf]; omega)
    · have hqm : q = m := by omega
      rw [hqm] at KQ
      have KR := Lib.hid (KF_row KQ.out HKL.out)
      obtain ⟨c0, c1, c2, c3, c4⟩ := cell5 K1.out
      clear hqm
      have hmp : 0 < m := by rw [← HM.out, hk]; omega
      have e0 := KR.out.2 0 hmp
      have hs0 := HKS.out 0
      obtain ⟨k0, hk0⟩ : ∃ k0, K.getD 0 ⟨#[]⟩ = k0 := ⟨_, rfl⟩
      rw [hk0] at e0 hs0
      have HK0 := Lib.hid hk0
      clear hk0
      obtain ⟨si, hsi⟩ : ∃ si, itoaS n = si := ⟨_, rfl⟩
      have hsz : si.size ≤ 21 := by rw [← hsi]; exact itoaS_size _ HTY.out.ok.nums.2
      have HSI := Lib.hid hsi
      clear hsi
      clear hk
      go_wp2_with fail
      refine GoG.start [(9, ⟨w.heap.size, 2, none⟩, .int .i64 n), (9, ⟨kb, 0, none⟩, .string k0)] (by kernel_rfl) ?_ ?_
      · exact (Keeps.cons (by first | assumption | simp [*]) (Keeps.cons (by first | assumption | simp [*]) (Keeps.nil)))
      refine GoG.take (i := 0) (v := ?_) [] rfl (by kernel_rfl) (by kernel_rfl) (by kernel_rfl) (by kernel_rfl) (by kernel_rfl) (by kernel_rfl) (fun _ _ _ h => h) (yields_free (by rfl) (fun w => ?_)) ?_
      rotate_left
      · go_simp; try (with_reducible rfl)
      try simp only [Act.put, List.getElem_toArray, List.getElem_cons_succ, List.getElem_cons_zero, List.setIfInBounds_toArray, List.set_cons_zero, List.set_cons_succ]
      refine GoG.take (i := 1) (v := ?_) [2, 3, 4, 8, 9] rfl (by kernel_rfl) (by kernel_rfl) (by kernel_rfl) (by kernel_rfl) (by kernel_rfl) (by kernel_rfl) (fun _ _ _ h => h) (.inl ⟨by rfl, fun wz hS => ?_⟩) ?_
      rotate_left
      · have g0 : wz.cell? ⟨w.heap.size, 2, none⟩ = some (.int .i64 n) := hS (9, ⟨w.heap.size, 2, none⟩, .int .i64 n) (by simp) (by simp)
        clear hS
        go_simp; try (with_reducible rfl)
      try simp only [Act.put, List.getElem_toArray, List.getElem_cons_succ, List.getElem_cons_zero, List.setIfInBounds_toArray, List.set_cons_zero, List.set_cons_succ]
      refine GoG.take (i := 5) (v := ?_) [] rfl (by kernel_rfl) (by kernel_rfl) (by kernel_rfl) (by kernel_rfl) (by kernel_rfl) (by kernel_rfl) (fun _ _ _ h => h) (yields_free (by rfl) (fun w => ?_)) ?_
      rotate_left
      · go_simp; try (with_reducible rfl)
      try simp only [Act.put, List.getElem_toArray, List.getElem_cons_succ, List.getElem_cons_zero, List.setIfInBounds_toArray, List.set_cons_zero, List.set_cons_succ]
      refine GoG.take (i := 6) (v := ?_) [] rfl (by kernel_rfl) (by kernel_rfl) (by kernel_rfl) (by kernel_rfl) (by kernel_rfl) (by kernel_rfl) (fun _ _ _ h => h) (yields_free (by rfl) (fun w => ?_)) ?_
      rotate_left
      · go_simp; try (with_reducible rfl)
      try simp only [Act.put, List.getElem_toArray, List.getElem_cons_succ, List.getElem_cons_zero, List.setIfInBounds_toArray, List.set_cons_zero, List.set_cons_succ]
      refine GoG.take (i := 7) (v := ?_) [8, 9] rfl (by kernel_rfl) (by kernel_rfl) (by kernel_rfl) (by kernel_rfl) (by kernel_rfl) (by kernel_rfl) (fun _ _ _ h => h) (.inl ⟨by rfl, fun wz hS => ?_⟩) ?_
      rotate_left
      · have g0 : wz.cell? ⟨kb, 0, none⟩ = some (.string k0) := hS (9, ⟨kb, 0, none⟩, .string k0) (by simp) (by simp)
        clear hS
        go_simp; try (with_reducible rfl)
      try simp only [Act.put, List.getElem_toArray, List.getElem_cons_succ, List.getElem_cons_zero, List.setIfInBounds_toArray, List.set_cons_zero, List.set_cons_succ]
      have BD := Lib.hid (show Below w.heap.size w wr.drew from HB.out.drew)
      have HIT := Lib.hid (itoa_any n HTY.out.ok.nums.2 wr.drew (HPW.out.below BD.out))
      rw [HSI.out] at HIT
      have h2b : w.heap.size < wr.drew.heap.size := K1.out.lt
      have hkb2 : kb < wr.drew.heap.size := KQ.out.lt
      refine GoG.one (i := 2) rfl (by kernel_rfl) (fun K hK => ?_)
      go_simp
      refine HIT.out.mono ?_
      rintro e w9 ⟨rfl, b9⟩
      have B9 := Lib.hid (BD.out.trans (b9.mono BD.out.size))
      have g0 : w9.cell? ⟨w.heap.size, 2, none⟩ = some (.int .i64 n) := (b9.cell h2b).trans c2
      have g1 : w9.cell? ⟨kb, 0, none⟩ = some (.string k0) := (b9.cell hkb2).trans e0
      clear b9 c0 c1 c2 c3 c4 e0 h2b hkb2 HIT
      refine hK.out _ _ (Keeps.cons (by first | assumption | simp [*]) (Keeps.cons (by first | assumption | simp [*]) (Keeps.nil))) ?_
      clear hK K
      try simp only [Act.put, List.getElem_toArray, List.getElem_cons_succ, List.getElem_cons_zero, List.setIfInBounds_toArray, List.set_cons_zero, List.set_cons_succ]
      refine GoG.take (i := 3) (v := ?_) [] rfl (by kernel_rfl) (by kernel_rfl) (by kernel_rfl) (by kernel_rfl) (by kernel_rfl) (by kernel_rfl) (fun _ _ _ h => h) (yields_free (by rfl) (fun w => ?_)) ?_
      rotate_left
      · go_simp
        rw [if_neg (by first | omega | (simp; omega) | (simp [ByteArray.size_append]; omega))]
      try simp only [Act.put, List.getElem_toArray, List.getElem_cons_succ, List.getElem_cons_zero, List.setIfInBounds_toArray, List.set_cons_zero, List.set_cons_succ]
      refine GoG.take (i := 4) (v := ?_) [] rfl (by kernel_rfl) (by kernel_rfl) (by kernel_rfl) (by kernel_rfl) (by kernel_rfl) (by kernel_rfl) (fun _ _ _ h => h) (yields_free (by rfl) (fun w => ?_)) ?_
      rotate_left
      · go_simp
        rw [if_neg (by first | omega | (simp; omega) | (simp [ByteArray.size_append]; omega))]
      try simp only [Act.put, List.getElem_toArray, List.getElem_cons_succ, List.getElem_cons_zero, List.setIfInBounds_toArray, List.set_cons_zero, List.set_cons_succ]
      refine GoG.take (i := 8) (v := ?_) [] rfl (by kernel_rfl) (by kernel_rfl) (by kernel_rfl) (by kernel_rfl) (by kernel_rfl) (by kernel_rfl) (fun _ _ _ h => h) (yields_free (by rfl) (fun w => ?_)) ?_
      rotate_left
      · go_simp
        rw [if_neg (by first | omega | (simp; omega) | (simp [ByteArray.size_append]; omega))]
      try simp only [Act.put, List.getElem_toArray, List.getElem_cons_succ, List.getElem_cons_zero, List.setIfInBounds_toArray, List.set_cons_zero, List.set_cons_succ]
      refine GoG.one (i := 9) rfl (by kernel_rfl) (fun K hK => ?_)
      go_simp
      refine hK.out _ _ (Keeps.up (by rfl) (Keeps.up (by rfl) (Keeps.nil))) ?_
      clear hK K
      try simp only [Act.put, List.getElem_toArray, List.getElem_cons_succ, List.getElem_cons_zero, List.setIfInBounds_toArray, List.set_cons_zero, List.set_cons_succ]
      refine GoG.done (by kernel_rfl) ?_ _
      go_wp2_with fail
      go_ret
      exact ⟨by simp only [textF]; rw [HK0.out, HSI.out]; rfl, B9.out⟩
set_option maxHeartbeats 16000000 in
set_option maxRecDepth 100000 in
theorem text_map (s : ByteArray) (n : Int) (ws : List ByteArray) (ks : List Int) (hk : ks.length = 2) : TextC ⟨4, s, n, ws, ks⟩ := by
  intro w wo ko wc kc tb N T ht hwc hkc hT hN hsz hin hp
  unfold tyV
  show Calls _ _ #[.agg #[.int .i64 4, .string s, .int .i64 n, .slice wo ws.length wc, .slice ko ks.length kc], .slice (some ⟨tb, 0, none⟩) N N] _ _
  have hml : ks.length ≤ 18 := ht.ok.kl
  have hwl : ws.length ≤ 18 := ht.ok.wl
  have hsl : s.size ≤ 50 := ht.ok.nl
  obtain ⟨m, hm⟩ : ∃ m, ks.length = m := ⟨_, rfl⟩
  have HM := Lib.hid hm
  obtain ⟨w1, h1⟩ : ∃ w1, w.alloc (.cells #[.int .i64 4, .string s, .int .i64 n, .slice wo ws.length wc, .slice ko ks.length kc] 31) = w1 := ⟨_, rfl⟩
  obtain ⟨k1, q1, z1⟩ := box_new h1
  obtain ⟨kb, hkb⟩ : ∃ kb, w1.heap.size = kb := ⟨_, rfl⟩
  have hmk := make_strs ks.length (by omega) w1
  rw [hkb, hm] at hmk
  rw [hm] at hml h1 k1 ⊢
  obtain ⟨w2, h2⟩ : ∃ w2, w1.alloc (.cells (rowS m fun _ => ⟨#[]⟩) 9) = w2 := ⟨_, rfl⟩
  rw [h2] at hmk
  obtain ⟨k2, q2, z2⟩ := box_new h2
  rw [hkb] at k2
  have BW := Lib.hid (q1.trans (q2.mono q1.size))
  have K1 := Lib.hid (k1.below q2)
  have HKB := Lib.hid (show w.heap.size ≤ kb ∧ w.heap.size ≠ kb ∧ tb < w.heap.size from ⟨by rw [← hkb]; exact q1.size, by omega, hT.lt⟩)
  obtain ⟨K, hK⟩ : ∃ K, kidsT T ⟨4, s, n, ws, ks⟩ = K := ⟨_, rfl⟩
  have HKG := Lib.hid (show ∀ j, j < m → K.getD j ⟨#[]⟩ = T (ks.getD j 0).toNat from fun j hj => by rw [← hK]; exact kidsT_get (t := ⟨4, s, n, ws, ks⟩) (by show j < ks.length; omega))
  have HKL := Lib.hid (show K.length = m from by rw [← hK, kidsT_len]; exact hm)
  have HKS := Lib.hid (show ∀ j, (K.getD j ⟨#[]⟩).size ≤ 4000 from fun j => by rw [← hK]; exact kid_size hsz j)
  rw [hK]
  have K2 := Lib.hid (show BlockAt w2 kb (rowS m (KF K 0)) 9 from by rw [KF_zero]; exact k2)
  have HTY := Lib.hid ht
  have HIN := Lib.hid (show ∀ k ∈ ks, 0 ≤ k ∧ k < (N : Int) from hin)
  have HTT := Lib.hid hT
  have HPW := Lib.hid hp
  have HWC := Lib.hid (show ws.length ≤ wc from hwc)
  obtain ⟨c0, c1, c2, c3, c4⟩ := cell5 k1
  obtain ⟨d0, d1, d2, d3, d4⟩ := cell5 (k1.below q2)
  clear ht hwc hkc hT hsz hin hp hm hkb k1 q1 z1 h2 k2 q2 z2 hK
  go_enter Tryd.func28, Tryd.ntmps28
  go_wp2_with fail
  clear h1 hmk c0 c1 c2 c3 c4 d0 d1 d2 d3 d4
  go_loopw [18] (fun v wr => ∃ q : Nat, q ≤ m ∧ v = .int .i64 q ∧ Hid (BlockAt wr kb (rowS m (KF K q)) 9) ∧ Hid (BlockAt wr w.heap.size #[.int .i64 4, .string s, .int .i64 n, .slice wo ws.length wc, .slice ko m kc] 31) ∧ Hid (Below w.heap.size w wr)) (fun v _ => m - (intOf v).toNat)
  case atStart => exact ⟨0, Nat.zero_le _, rfl, K2, K1, BW⟩
  case round =>
    obtain ⟨q, hq, rfl, KQ, K1, HB⟩ := hrel
    by_cases hql : q < m
    · have hqx : q < ks.length := by rw [HM.out]; exact hql
      obtain ⟨xb, xof, rfl, hxb, hxc⟩ := HTY.out.kids.cells (by show 0 < ks.length; omega)
      have ck : w.cell? ⟨xb, xof + q, none⟩ = some (.int .i64 (ks.getD q 0)) := hxc q hqx
      obtain ⟨g1, g2⟩ := HIN.out _ (getD_mem hqx)
      have hkg := HKG.out q hql
      obtain ⟨z, hz⟩ : ∃ z : Nat, ks.getD q 0 = (z : Int) := ⟨(ks.getD q 0).toNat, by omega⟩
      rw [hz] at ck g2 hkg
      rw [Int.toNat_natCast] at hkg
      have ck2 : wr.cell? ⟨xb, xof + q, none⟩ = some (.int .i64 (z : Int)) := by rw [HB.out.cell (p := ⟨xb, xof + q, none⟩) hxb]; exact ck
      have ct := (HTT.out.below HB.out).cell z
      rw [rowS_get (by omega), ← hkg] at ct
      obtain ⟨kt, hkt⟩ : ∃ kt, K.getD q ⟨#[]⟩ = kt := ⟨_, rfl⟩
      rw [hkt] at ct
      have cq := KQ.out.cell q
      rw [rowS_get hql] at cq
      have fq := KQ.out.free q
      obtain ⟨w7, h7⟩ : ∃ w7, wr.setCell ⟨kb, q, none⟩ (.string kt) = w7 := ⟨_, rfl⟩
      have KQ7 := Lib.hid (show BlockAt w7 kb (rowS m (KF K (q + 1))) 9 from by
        rw [← KF_step, hkt, ← rowS_set, ← h7]
        exact KQ.out.set q _)
      have K17 := Lib.hid (K1.out.other HKB.out.2.1 q (.string kt))
      rw [h7] at K17
      have B7 := Lib.hid (show Below w.heap.size w w7 from by rw [← h7]; exact HB.out.setCell (p := ⟨kb, q, none⟩) HKB.out.1 _)
      obtain ⟨f0, hf0⟩ : ∃ f0, KF K q q = f0 := ⟨_, rfl⟩
      rw [hf0] at cq
      clear hf0 hkt hkg hz ck hxb hxc g1
      go_wp2_with fail
      go_roundw
      case rel => exact ⟨q + 1, by omega, by go_num, KQ7, K17, B7⟩
      case measure => first | (simp [intOf]; done) | (simp [intOf]; omega)
    · have hqm : q = m := by omega
      rw [hqm] at KQ
      have KR := Lib.hid (KF_row KQ.out HKL.out)
      obtain ⟨c0, c1, c2, c3, c4⟩ := cell5 K1.out
      clear hqm
      have hmp : 0 < m := by rw [← HM.out, hk]; omega
      have e0 := KR.out.2 0 hmp
      have hs0 := HKS.out 0
      obtain ⟨k0, hk0⟩ : ∃ k0, K.getD 0 ⟨#[]⟩ = k0 := ⟨_, rfl⟩
      rw [hk0] at e0 hs0
      have HK0 := Lib.hid hk0
      clear hk0
      have hm1 : 1 < m := by rw [← HM.out, hk]; omega
      have e1 := KR.out.2 1 hm1
      have hs1 := HKS.out 1
      obtain ⟨k1, hk1⟩ : ∃ k1, K.getD 1 ⟨#[]⟩ = k1 := ⟨_, rfl⟩
      rw [hk1] at e1 hs1
      have HK1 := Lib.hid hk1
      clear hk hk1
      go_wp2_with fail
      go_quiet (fail)
      go_wp2_with fail
      go_ret
      exact ⟨by simp only [textF]; rw [HK0.out, HK1.out]; rfl, below_drewN HB.out _⟩
set_option maxHeartbeats 16000000 in
set_option maxRecDepth 100000 in
theorem text_name (s : ByteArray) (n : Int) (ws : List ByteArray) (ks : List Int) (hk : 0 < ks.length) : TextC ⟨0, s, n, ws, ks⟩ := by
  intro w wo ko wc kc tb N T ht hwc hkc hT hN hsz hin hp
  unfold tyV
  show Calls _ _ #[.agg #[.int .i64 0, .string s, .int .i64 n, .slice wo ws.length wc, .slice ko ks.length kc], .slice (some ⟨tb, 0, none⟩) N N] _ _
  have hml : ks.length ≤ 18 := ht.ok.kl
  have hwl : ws.length ≤ 18 := ht.ok.wl
  have hsl : s.size ≤ 50 := ht.ok.nl
  obtain ⟨m, hm⟩ : ∃ m, ks.length = m := ⟨_, rfl⟩
  have HM := Lib.hid hm
  obtain ⟨w1, h1⟩ : ∃ w1, w.alloc (.cells #[.int .i64 0, .string s, .int .i64 n, .slice wo ws.length wc, .slice ko ks.length kc] 31) = w1 := ⟨_, rfl⟩
  obtain ⟨k1, q1, z1⟩ := box_new h1
  obtain ⟨kb, hkb⟩ : ∃ kb, w1.heap.size = kb := ⟨_, rfl⟩
  have hmk := make_strs ks.length (by omega) w1
  rw [hkb, hm] at hmk
  rw [hm] at hml h1 k1 ⊢
  obtain ⟨w2, h2⟩ : ∃ w2, w1.alloc (.cells (rowS m fun _ => ⟨#[]⟩) 9) = w2 := ⟨_, rfl⟩
  rw [h2] at hmk
  obtain ⟨k2, q2, z2⟩ := box_new h2
  rw [hkb] at k2
  have BW := Lib.hid (q1.trans (q2.mono q1.size))
  have K1 := Lib.hid (k1.below q2)
  have HKB := Lib.hid (show w.heap.size ≤ kb ∧ w.heap.size ≠ kb ∧ tb < w.heap.size from ⟨by rw [← hkb]; exact q1.size, by omega, hT.lt⟩)
  obtain ⟨K, hK⟩ : ∃ K, kidsT T ⟨0, s, n, ws, ks⟩ = K := ⟨_, rfl⟩
  have HKG := Lib.hid (show ∀ j, j < m → K.getD j ⟨#[]⟩ = T (ks.getD j 0).toNat from fun j hj => by rw [← hK]; exact kidsT_get (t := ⟨0, s, n, ws, ks⟩) (by show j < ks.length; omega))
  have HKL := Lib.hid (show K.length = m from by rw [← hK, kidsT_len]; exact hm)
  have HKS := Lib.hid (show ∀ j, (K.getD j ⟨#[]⟩).size ≤ 4000 from fun j => by rw [← hK]; exact kid_size hsz j)
  rw [hK]
  have K2 := Lib.hid (show BlockAt w2 kb (rowS m (KF K 0)) 9 from by rw [KF_zero]; exact k2)
  have HTY := Lib.hid ht
  have HIN := Lib.hid (show ∀ k ∈ ks, 0 ≤ k ∧ k < (N : Int) from hin)
  have HTT := Lib.hid hT
  have HPW := Lib.hid hp
  have HWC := Lib.hid (show ws.length ≤ wc from hwc)
  obtain ⟨c0, c1, c2, c3, c4⟩ := cell5 k1
  obtain ⟨d0, d1, d2, d3, d4⟩ := cell5 (k1.below q2)
  clear ht hwc hkc hT hsz hin hp hm hkb k1 q1 z1 h2 k2 q2 z2 hK
  go_enter Tryd.func28, Tryd.ntmps28
  go_wp2_with fail
  clear h1 hmk c0 c1 c2 c3 c4 d0 d1 d2 d3 d4
  go_loopw [18] (fun v wr => ∃ q : Nat, q ≤ m ∧ v = .int .i64 q ∧ Hid (BlockAt wr kb (rowS m (KF K q)) 9) ∧ Hid (BlockAt wr w.heap.size #[.int .i64 0, .string s, .int .i64 n, .slice wo ws.length wc, .slice ko m kc] 31) ∧ Hid (Below w.heap.size w wr)) (fun v _ => m - (intOf v).toNat)
  case atStart => exact ⟨0, Nat.zero_le _, rfl, K2, K1, BW⟩
  case round =>
    obtain ⟨q, hq, rfl, KQ, K1, HB⟩ := hrel
    by_cases hql : q < m
    · have hqx : q < ks.length := by rw [HM.out]; exact hql
      obtain ⟨xb, xof, rfl, hxb, hxc⟩ := HTY.out.kids.cells (by show 0 < ks.length; omega)
      have ck : w.cell? ⟨xb, xof + q, none⟩ = some (.int .i64 (ks.getD q 0)) := hxc q hqx
      obtain ⟨g1, g2⟩ := HIN.out _ (getD_mem hqx)
      have hkg := HKG.out q hql
      obtain ⟨z, hz⟩ : ∃ z : Nat, ks.getD q 0 = (z : Int) := ⟨(ks.getD q 0).toNat, by omega⟩
      rw [hz] at ck g2 hkg
      rw [Int.toNat_natCast] at hkg
      have ck2 : wr.cell? ⟨xb, xof + q, none⟩ = some (.int .i64 (z : Int)) := by rw [HB.out.cell (p := ⟨xb, xof + q, none⟩) hxb]; exact ck
      have ct := (HTT.out.below HB.out).cell z
      rw [rowS_get (by omega), ← hkg] at ct
      obtain ⟨kt, hkt⟩ : ∃ kt, K.getD q ⟨#[]⟩ = kt := ⟨_, rfl⟩
      rw [hkt] at ct
      have cq := KQ.out.cell q
      rw [rowS_get hql] at cq
      have fq := KQ.out.free q
      obtain ⟨w7, h7⟩ : ∃ w7, wr.setCell ⟨kb, q, none⟩ (.string kt) = w7 := ⟨_, rfl⟩
      have KQ7 := Lib.hid (show BlockAt w7 kb (rowS m (KF K (q + 1))) 9 from by
        rw [← KF_step, hkt, ← rowS_set, ← h7]
        exact KQ.out.set q _)
      have K17 := Lib.hid (K1.out.other HKB.out.2.1 q (.string kt))
      rw [h7] at K17
      have B7 := Lib.hid (show Below w.heap.size w w7 from by rw [← h7]; exact HB.out.setCell (p := ⟨kb, q, none⟩) HKB.out.1 _)
      obtain ⟨f0, hf0⟩ : ∃ f0, KF K q q = f0 := ⟨_, rfl⟩
      rw [hf0] at cq
      clear hf0 hkt hkg hz ck hxb hxc g1
      go_wp2_with fail
      go_roundw
      case rel => exact ⟨q + 1, by omega, by go_num, KQ7, K17, B7⟩
      case measure => first | (simp [intOf]; done) | (simp [intOf]; omega)
    · have hqm : q = m := by omega
      rw [hqm] at KQ
      have KR := Lib.hid (KF_row KQ.out HKL.out)
      obtain ⟨c0, c1, c2, c3, c4⟩ := cell5 K1.out
      clear hqm
      have hmp : 0 < m := by rw [← HM.out]; exact hk
      have hd : decide (0 < m) = true := decide_eq_true hmp
      obtain ⟨jt, hjt⟩ : ∃ jt, joinT K ⟨#[44, 32]⟩ = jt := ⟨_, rfl⟩
      have HJT := Lib.hid hjt
      have hjs : jt.size ≤ 100000 := by rw [← hjt]; exact joinT_size (by rw [HKL.out]; exact hml) (mem_size (fun j => Nat.le_trans (HKS.out j) (by decide))) (by decide)
      clear hk hjt
      go_wp2_with fail
      refine GoG.start [(7, ⟨w.heap.size, 1, none⟩, .string s)] (by kernel_rfl) ?_ ?_
      · exact (Keeps.cons (by first | assumption | simp [*]) (Keeps.nil))
      refine GoG.take (i := 0) (v := ?_) [] rfl (by kernel_rfl) (by kernel_rfl) (by kernel_rfl) (by kernel_rfl) (by kernel_rfl) (by kernel_rfl) (fun _ _ _ h => h) (yields_free (by rfl) (fun w => ?_)) ?_
      rotate_left
      · go_simp; try (with_reducible rfl)
      try simp only [Act.put, List.getElem_toArray, List.getElem_cons_succ, List.getElem_cons_zero, List.setIfInBounds_toArray, List.set_cons_zero, List.set_cons_succ]
      refine GoG.take (i := 1) (v := ?_) [2, 5, 6, 7] rfl (by kernel_rfl) (by kernel_rfl) (by kernel_rfl) (by kernel_rfl) (by kernel_rfl) (by kernel_rfl) (fun _ _ _ h => h) (.inl ⟨by rfl, fun wz hS => ?_⟩) ?_
      rotate_left
      · have g0 : wz.cell? ⟨w.heap.size, 1, none⟩ = some (.string s) := hS (7, ⟨w.heap.size, 1, none⟩, .string s) (by simp) (by simp)
        clear hS
        go_simp; try (with_reducible rfl)
      try simp only [Act.put, List.getElem_toArray, List.getElem_cons_succ, List.getElem_cons_zero, List.setIfInBounds_toArray, List.set_cons_zero, List.set_cons_succ]
      refine GoG.take (i := 2) (v := ?_) [] rfl (by kernel_rfl) (by kernel_rfl) (by kernel_rfl) (by kernel_rfl) (by kernel_rfl) (by kernel_rfl) (fun _ _ _ h => h) (yields_free (by rfl) (fun w => ?_)) ?_
      rotate_left
      · go_simp
        rw [if_neg (by first | omega | (simp; omega) | (simp [ByteArray.size_append]; omega))]
      try simp only [Act.put, List.getElem_toArray, List.getElem_cons_succ, List.getElem_cons_zero, List.setIfInBounds_toArray, List.set_cons_zero, List.set_cons_succ]
      refine GoG.take (i := 3) (v := ?_) [] rfl (by kernel_rfl) (by kernel_rfl) (by kernel_rfl) (by kernel_rfl) (by kernel_rfl) (by kernel_rfl) (fun _ _ _ h => h) (yields_free (by rfl) (fun w => ?_)) ?_
      rotate_left
      · go_simp; try (with_reducible rfl)
      try simp only [Act.put, List.getElem_toArray, List.getElem_cons_succ, List.getElem_cons_zero, List.setIfInBounds_toArray, List.set_cons_zero, List.set_cons_succ]
      have BD := Lib.hid (show Below w.heap.size w wr.drew from HB.out.drew)
      have HJ := Lib.hid (join_all (some ⟨kb, 0, none⟩) m K ⟨#[44, 32]⟩ 18 4000 wr.drew (KR.out.1.below (Below.refl _ _).drew) (by rw [HKL.out]; exact hml) (mem_size HKS.out) (by rw [HKL.out]; exact Nat.le_refl _) (by decide) (by decide))
      rw [HKL.out, HJT.out] at HJ
      have h2b : w.heap.size < wr.drew.heap.size := K1.out.lt
      refine GoG.one (i := 4) rfl (by kernel_rfl) (fun K hK => ?_)
      go_simp
      refine HJ.out.mono ?_
      rintro e w9 ⟨rfl, b9⟩
      have B9 := Lib.hid (BD.out.trans (b9.mono BD.out.size))
      have g0 : w9.cell? ⟨w.heap.size, 1, none⟩ = some (.string s) := (b9.cell h2b).trans c1
      clear b9 c0 c1 c2 c3 c4 h2b HJ
      refine hK.out _ _ (Keeps.cons (by first | assumption | simp [*]) (Keeps.nil)) ?_
      clear hK K
      try simp only [Act.put, List.getElem_toArray, List.getElem_cons_succ, List.getElem_cons_zero, List.setIfInBounds_toArray, List.set_cons_zero, List.set_cons_succ]
      refine GoG.take (i := 5) (v := ?_) [] rfl (by kernel_rfl) (by kernel_rfl) (by kernel_rfl) (by kernel_rfl) (by kernel_rfl) (by kernel_rfl) (fun _ _ _ h => h) (yields_free (by rfl) (fun w => ?_)) ?_
      rotate_left
      · go_simp
        rw [if_neg (by first | omega | (simp; omega) | (simp [ByteArray.size_append]; omega))]
      try simp only [Act.put, List.getElem_toArray, List.getElem_cons_succ, List.getElem_cons_zero, List.setIfInBounds_toArray, List.set_cons_zero, List.set_cons_succ]
      refine GoG.take (i := 6) (v := ?_) [] rfl (by kernel_rfl) (by kernel_rfl) (by kernel_rfl) (by kernel_rfl) (by kernel_rfl) (by kernel_rfl) (fun _ _ _ h => h) (yields_free (by rfl) (fun w => ?_)) ?_
      rotate_left
      · go_simp
        rw [if_neg (by first | omega | (simp; omega) | (simp [ByteArray.size_append]; omega))]
      try simp only [Act.put, List.getElem_toArray, List.getElem_cons_succ, List.getElem_cons_zero, List.setIfInBounds_toArray, List.set_cons_zero, List.set_cons_succ]
      refine GoG.one (i := 7) rfl (by kernel_rfl) (fun K hK => ?_)
      go_simp
      refine hK.out _ _ (Keeps.up (by rfl) (Keeps.nil)) ?_
      clear hK K
      try simp only [Act.put, List.getElem_toArray, List.getElem_cons_succ, List.getElem_cons_zero, List.setIfInBounds_toArray, List.set_cons_zero, List.set_cons_succ]
      refine GoG.done (by kernel_rfl) ?_ _
      go_wp2_with fail
      go_ret
      have hKp : 0 < K.length := by rw [HKL.out]; exact hmp
      exact ⟨by simp only [textF]; rw [if_pos hKp, HJT.out]; rfl, B9.out⟩
set_option maxHeartbeats 16000000 in
set_option maxRecDepth 100000 in
theorem text_named (s : ByteArray) (n : Int) (ws : List ByteArray) (ks : List Int) (hk : 0 < ks.length) : TextC ⟨8, s, n, ws, ks⟩ := by
  intro w wo ko wc kc tb N T ht hwc hkc hT hN hsz hin hp
  unfold tyV
  show Calls _ _ #[.agg #[.int .i64 8, .string s, .int .i64 n, .slice wo ws.length wc, .slice ko ks.length kc], .slice (some ⟨tb, 0, none⟩) N N] _ _
  have hml : ks.length ≤ 18 := ht.ok.kl
  have hwl : ws.length ≤ 18 := ht.ok.wl
  have hsl : s.size ≤ 50 := ht.ok.nl
  obtain ⟨m, hm⟩ : ∃ m, ks.length = m := ⟨_, rfl⟩
  have HM := Lib.hid hm
  obtain ⟨w1, h1⟩ : ∃ w1, w.alloc (.cells #[.int .i64 8, .string s, .int .i64 n, .slice wo ws.length wc, .slice ko ks.length kc] 31) = w1 := ⟨_, rfl⟩
  obtain ⟨k1, q1, z1⟩ := box_new h1
  obtain ⟨kb, hkb⟩ : ∃ kb, w1.heap.size = kb := ⟨_, rfl⟩
  have hmk := make_strs ks.length (by omega) w1
  rw [hkb, hm] at hmk
  rw [hm] at hml h1 k1 ⊢
  obtain ⟨w2, h2⟩ : ∃ w2, w1.alloc (.cells (rowS m fun _ => ⟨#[]⟩) 9) = w2 := ⟨_, rfl⟩
  rw [h2] at hmk
  obtain ⟨k2, q2, z2⟩ := box_new h2
  rw [hkb] at k2
  have BW := Lib.hid (q1.trans (q2.mono q1.size))
  have K1 := Lib.hid (k1.below q2)
  have HKB := Lib.hid (show w.heap.size ≤ kb ∧ w.heap.size ≠ kb ∧ tb < w.heap.size from ⟨by rw [← hkb]; exact q1.size, by omega, hT.lt⟩)
  obtain ⟨K, hK⟩ : ∃ K, kidsT T ⟨8, s, n, ws, ks⟩ = K := ⟨_, rfl⟩
  have HKG := Lib.hid (show ∀ j, j < m → K.getD j ⟨#[]⟩ = T (ks.getD j 0).toNat from fun j hj => by rw [← hK]; exact kidsT_get (t := ⟨8, s, n, ws, ks⟩) (by show j < ks.length; omega))
  have HKL := Lib.hid (show K.length = m from by rw [← hK, kidsT_len]; exact hm)
  have HKS := Lib.hid (show ∀ j, (K.getD j ⟨#[]⟩).size ≤ 4000 from fun j => by rw [← hK]; exact kid_size hsz j)
  rw [hK]
  have K2 := Lib.hid (show BlockAt w2 kb (rowS m (KF K 0)) 9 from by rw [KF_zero]; exact k2)
  have HTY := Lib.hid ht
  have HIN := Lib.hid (show ∀ k ∈ ks, 0 ≤ k ∧ k < (N : Int) from hin)
  have HTT := Lib.hid hT
  have HPW := Lib.hid hp
  have HWC := Lib.hid (show ws.length ≤ wc from hwc)
  obtain ⟨c0, c1, c2, c3, c4⟩ := cell5 k1
  obtain ⟨d0, d1, d2, d3, d4⟩ := cell5 (k1.below q2)
  clear ht hwc hkc hT hsz hin hp hm hkb k1 q1 z1 h2 k2 q2 z2 hK
  go_enter Tryd.func28, Tryd.ntmps28
  go_wp2_with fail
  clear h1 hmk c0 c1 c2 c3 c4 d0 d1 d2 d3 d4
  go_loopw [18] (fun v wr => ∃ q : Nat, q ≤ m ∧ v = .int .i64 q ∧ Hid (BlockAt wr kb (rowS m (KF K q)) 9) ∧ Hid (BlockAt wr w.heap.size #[.int .i64 8, .string s, .int .i64 n, .slice wo ws.length wc, .slice ko m kc] 31) ∧ Hid (Below w.heap.size w wr)) (fun v _ => m - (intOf v).toNat)
  case atStart => exact ⟨0, Nat.zero_le _, rfl, K2, K1, BW⟩
  case round =>
    obtain ⟨q, hq, rfl, KQ, K1, HB⟩ := hrel
    by_cases hql : q < m
    · have hqx : q < ks.length := by rw [HM.out]; exact hql
      obtain ⟨xb, xof, rfl, hxb, hxc⟩ := HTY.out.kids.cells (by show 0 < ks.length; omega)
      have ck : w.cell? ⟨xb, xof + q, none⟩ = some (.int .i64 (ks.getD q 0)) := hxc q hqx
      obtain ⟨g1, g2⟩ := HIN.out _ (getD_mem hqx)
      have hkg := HKG.out q hql
      obtain ⟨z, hz⟩ : ∃ z : Nat, ks.getD q 0 = (z : Int) := ⟨(ks.getD q 0).toNat, by omega⟩
      rw [hz] at ck g2 hkg
      rw [Int.toNat_natCast] at hkg
      have ck2 : wr.cell? ⟨xb, xof + q, none⟩ = some (.int .i64 (z : Int)) := by rw [HB.out.cell (p := ⟨xb, xof + q, none⟩) hxb]; exact ck
      have ct := (HTT.out.below HB.out).cell z
      rw [rowS_get (by omega), ← hkg] at ct
      obtain ⟨kt, hkt⟩ : ∃ kt, K.getD q ⟨#[]⟩ = kt := ⟨_, rfl⟩
      rw [hkt] at ct
      have cq := KQ.out.cell q
      rw [rowS_get hql] at cq
      have fq := KQ.out.free q
      obtain ⟨w7, h7⟩ : ∃ w7, wr.setCell ⟨kb, q, none⟩ (.string kt) = w7 := ⟨_, rfl⟩
      have KQ7 := Lib.hid (show BlockAt w7 kb (rowS m (KF K (q + 1))) 9 from by
        rw [← KF_step, hkt, ← rowS_set, ← h7]
        exact KQ.out.set q _)
      have K17 := Lib.hid (K1.out.other HKB.out.2.1 q (.string kt))
      rw [h7] at K17
      have B7 := Lib.hid (show Below w.heap.size w w7 from by rw [← h7]; exact HB.out.setCell (p := ⟨kb, q, none⟩) HKB.out.1 _)
      obtain ⟨f0, hf0⟩ : ∃ f0, KF K q q = f0 := ⟨_, rfl⟩
      rw [hf0] at cq
      clear hf0 hkt hkg hz ck hxb hxc g1
      go_wp2_with fail
      go_roundw
      case rel => exact ⟨q + 1, by omega, by go_num, KQ7, K17, B7⟩
      case measure => first | (simp [intOf]; done) | (simp [intOf]; omega)
    · have hqm : q = m := by omega
      rw [hqm] at KQ
      have KR := Lib.hid (KF_row KQ.out HKL.out)
      obtain ⟨c0, c1, c2, c3, c4⟩ := cell5 K1.out
      clear hqm
      have hmp : 0 < m := by rw [← HM.out]; exact hk
      have hd : decide (0 < m) = true := decide_eq_true hmp
      obtain ⟨jt, hjt⟩ : ∃ jt, joinT K ⟨#[44, 32]⟩ = jt := ⟨_, rfl⟩
      have HJT := Lib.hid hjt
      have hjs : jt.size ≤ 100000 := by rw [← hjt]; exact joinT_size (by rw [HKL.out]; exact hml) (mem_size (fun j => Nat.le_trans (HKS.out j) (by decide))) (by decide)
      clear hk hjt
      go_wp2_with fail
      refine GoG.start [(7, ⟨w.heap.size, 1, none⟩, .string s)] (by kernel_rfl) ?_ ?_
      · exact (Keeps.cons (by first | assumption | simp [*]) (Keeps.nil))
      refine GoG.take (i := 0) (v := ?_) [] rfl (by kernel_rfl) (by kernel_rfl) (by kernel_rfl) (by kernel_rfl) (by kernel_rfl) (by kernel_rfl) (fun _ _ _ h => h) (yields_free (by rfl) (fun w => ?_)) ?_
      rotate_left
      · go_simp; try (with_reducible rfl)
      try simp only [Act.put, List.getElem_toArray, List.getElem_cons_succ, List.getElem_cons_zero, List.setIfInBounds_toArray, List.set_cons_zero, List.set_cons_succ]
      refine GoG.take (i := 1) (v := ?_) [2, 5, 6, 7] rfl (by kernel_rfl) (by kernel_rfl) (by kernel_rfl) (by kernel_rfl) (by kernel_rfl) (by kernel_rfl) (fun _ _ _ h => h) (.inl ⟨by rfl, fun wz hS => ?_⟩) ?_
      rotate_left
      · have g0 : wz.cell? ⟨w.heap.size, 1, none⟩ = some (.string s) := hS (7, ⟨w.heap.size, 1, none⟩, .string s) (by simp) (by simp)
        clear hS
        go_simp; try (with_reducible rfl)
      try simp only [Act.put, List.getElem_toArray, List.getElem_cons_succ, List.getElem_cons_zero, List.setIfInBounds_toArray, List.set_cons_zero, List.set_cons_succ]
      refine GoG.take (i := 2) (v := ?_) [] rfl (by kernel_rfl) (by kernel_rfl) (by kernel_rfl) (by kernel_rfl) (by kernel_rfl) (by kernel_rfl) (fun _ _ _ h => h) (yields_free (by rfl) (fun w => ?_)) ?_
      rotate_left
      · go_simp
        rw [if_neg (by first | omega | (simp; omega) | (simp [ByteArray.size_append]; omega))]
      try simp only [Act.put, List.getElem_toArray, List.getElem_cons_succ, List.getElem_cons_zero, List.setIfInBounds_toArray, List.set_cons_zero, List.set_cons_succ]
      refine GoG.take (i := 3) (v := ?_) [] rfl (by kernel_rfl) (by kernel_rfl) (by kernel_rfl) (by kernel_rfl) (by kernel_rfl) (by kernel_rfl) (fun _ _ _ h => h) (yields_free (by rfl) (fun w => ?_)) ?_
      rotate_left
      · go_simp; try (with_reducible rfl)
      try simp only [Act.put, List.getElem_toArray, List.getElem_cons_succ, List.getElem_cons_zero, List.setIfInBounds_toArray, List.set_cons_zero, List.set_cons_succ]
      have BD := Lib.hid (show Below w.heap.size w wr.drew from HB.out.drew)
      have HJ := Lib.hid (join_all (some ⟨kb, 0, none⟩) m K ⟨#[44, 32]⟩ 18 4000 wr.drew (KR.out.1.below (Below.refl _ _).drew) (by rw [HKL.out]; exact hml) (mem_size HKS.out) (by rw [HKL.out]; exact Nat.le_refl _) (by decide) (by decide))
      rw [HKL.out, HJT.out] at HJ
      have h2b : w.heap.size < wr.drew.heap.size := K1.out.lt
      refine GoG.one (i := 4) rfl (by kernel_rfl) (fun K hK => ?_)
      go_simp
      refine HJ.out.mono ?_
      rintro e w9 ⟨rfl, b9⟩
      have B9 := Lib.hid (BD.out.trans (b9.mono BD.out.size))
      have g0 : w9.cell? ⟨w.heap.size, 1, none⟩ = some (.string s) := (b9.cell h2b).trans c1
      clear b9 c0 c1 c2 c3 c4 h2b HJ
      refine hK.out _ _ (Keeps.cons (by first | assumption | simp [*]) (Keeps.nil)) ?_
      clear hK K
      try simp only [Act.put, List.getElem_toArray, List.getElem_cons_succ, List.getElem_cons_zero, List.setIfInBounds_toArray, List.set_cons_zero, List.set_cons_succ]
      refine GoG.take (i := 5) (v := ?_) [] rfl (by kernel_rfl) (by kernel_rfl) (by kernel_rfl) (by kernel_rfl) (by kernel_rfl) (by kernel_rfl) (fun _ _ _ h => h) (yields_free (by rfl) (fun w => ?_)) ?_
      rotate_left
      · go_simp
        rw [if_neg (by first | omega | (simp; omega) | (simp [ByteArray.size_append]; omega))]
      try simp only [Act.put, List.getElem_toArray, List.getElem_cons_succ, List.getElem_cons_zero, List.setIfInBounds_toArray, List.set_cons_zero, List.set_cons_succ]
      refine GoG.take (i := 6) (v := ?_) [] rfl (by kernel_rfl) (by kernel_rfl) (by kernel_rfl) (by kernel_rfl) (by kernel_rfl) (by kernel_rfl) (fun _ _ _ h => h) (yields_free (by rfl) (fun w => ?_)) ?_
      rotate_left
      · go_simp
        rw [if_neg (by first | omega | (simp; omega) | (simp [ByteArray.size_append]; omega))]
      try simp only [Act.put, List.getElem_toArray, List.getElem_cons_succ, List.getElem_cons_zero, List.setIfInBounds_toArray, List.set_cons_zero, List.set_cons_succ]
      refine GoG.one (i := 7) rfl (by kernel_rfl) (fun K hK => ?_)
      go_simp
      refine hK.out _ _ (Keeps.up (by rfl) (Keeps.nil)) ?_
      clear hK K
      try simp only [Act.put, List.getElem_toArray, List.getElem_cons_succ, List.getElem_cons_zero, List.setIfInBounds_toArray, List.set_cons_zero, List.set_cons_succ]
      refine GoG.done (by kernel_rfl) ?_ _
      go_wp2_with fail
      go_ret
      have hKp : 0 < K.length := by rw [HKL.out]; exact hmp
      exact ⟨by simp only [textF]; rw [if_pos hKp, HJT.out]; rfl, B9.out⟩
/-- The fields' texts, laid over the kids' up to q. -/
def SF (ws K : List ByteArray) (q : Nat) : Nat → ByteArray := fun j => if j < q then (ws.getD j ⟨#[]⟩ ++ ⟨#[32]⟩) ++ K.getD j ⟨#[]⟩ else K.getD j ⟨#[]⟩
theorem SF_zero (ws K : List ByteArray) {m : Nat} (hl : K.length = m) : KF K m = SF ws K 0 := by
  funext j
  unfold KF SF
  rw [if_neg (Nat.not_lt_zero _)]
  by_cases h : j < m
  · rw [if_pos h]
  · rw [if_neg h, List.getD_eq_getElem?_getD, List.getElem?_eq_none (by omega)]; rfl
theorem SF_step (ws K : List ByteArray) (q : Nat) : (fun j => if j = q then (ws.getD q ⟨#[]⟩ ++ ⟨#[32]⟩) ++ K.getD q ⟨#[]⟩ else SF ws K q j) = SF ws K (q + 1) := by
  funext j
  unfold SF
  by_cases h : j = q
  · rw [if_pos h, if_pos (by omega), h]
  · rw [if_neg h]
    by_cases h2 : j < q
    · rw [if_pos h2, if_pos (by omega)]
    · rw [if_neg h2, if_neg (by omega)]
theorem SF_self (ws K : List ByteArray) (q : Nat) : SF ws K q q = K.getD q ⟨#[]⟩ := by unfold SF; rw [if_neg (by omega)]
/-- The fields' texts. -/
def fldT (ws K : List ByteArray) : List ByteArray := List.zipWith (fun w k => (w ++ ⟨#[32]⟩) ++ k) ws K
theorem fldT_len {ws K : List ByteArray} {m : Nat} (h1 : ws.length = m) (h2 : K.length = m) : (fldT ws K).length = m := by unfold fldT; rw [List.length_zipWith]; omega
theorem fldT_get {ws K : List ByteArray} {m j : Nat} (h1 : ws.length = m) (h2 : K.length = m) (hj : j < m) : (fldT ws K).getD j ⟨#[]⟩ = SF ws K m j := by
  rw [getD_of (by rw [fldT_len h1 h2]; exact hj)]
  unfold fldT SF
  rw [List.getElem_zipWith, if_pos hj, getD_of (by omega), getD_of (by omega)]
theorem fldT_row {w : World} {b m : Nat} {ws K : List ByteArray} (h : BlockAt w b (rowS m (SF ws K m)) 9) (h1 : ws.length = m) (h2 : K.length = m) : SRow w (some ⟨b, 0, none⟩) (fldT ws K) := by
  refine .inr ⟨b, 0, rfl, h.lt, fun i hi => ?_⟩
  rw [fldT_len h1 h2] at hi
  rw [Nat.zero_add, h.cell i, rowS_get hi, fldT_get h1 h2 hi]
theorem fldT_size {ws K : List ByteArray} (h1 : ∀ s ∈ ws, s.size ≤ 30) (h2 : ∀ j, (K.getD j ⟨#[]⟩).size ≤ 4000) : ∀ s ∈ fldT ws K, s.size ≤ 5000 := by
  intro s hs
  obtain ⟨j, hj, rfl⟩ := List.getElem_of_mem hs
  unfold fldT at hj ⊢
  rw [List.getElem_zipWith]
  rw [List.length_zipWith] at hj
  have a := h1 _ (List.getElem_mem (l := ws) (n := j) (by omega))
  have b := h2 j
  rw [getD_of (by omega)] at b
  have c : (⟨#[32]⟩ : ByteArray).size = 1 := rfl
  simp only [ByteArray.size_append]
  omega
set_option maxHeartbeats 16000000 in
set_option maxRecDepth 100000 in
theorem text_struct (s : ByteArray) (n : Int) (ws : List ByteArray) (ks : List Int) (hk : ws.length = ks.length) : TextC ⟨6, s, n, ws, ks⟩ := by
  intro w wo ko wc kc tb N T ht hwc hkc hT hN hsz hin hp
  unfold tyV
  show Calls _ _ #[.agg #[.int .i64 6, .string s, .int .i64 n, .slice wo ws.length wc, .slice ko ks.length kc], .slice (some ⟨tb, 0, none⟩) N N] _ _
  have hml : ks.length ≤ 18 := ht.ok.kl
  have hwl : ws.length ≤ 18 := ht.ok.wl
  have hsl : s.size ≤ 50 := ht.ok.nl
  obtain ⟨m, hm⟩ : ∃ m, ks.length = m := ⟨_, rfl⟩
  have HM := Lib.hid hm
  obtain ⟨w1, h1⟩ : ∃ w1, w.alloc (.cells #[.int .i64 6, .string s, .int .i64 n, .slice wo ws.length wc, .slice ko ks.length kc] 31) = w1 := ⟨_, rfl⟩
  obtain ⟨k1, q1, z1⟩ := box_new h1
  obtain ⟨kb, hkb⟩ : ∃ kb, w1.heap.size = kb := ⟨_, rfl⟩
  have hmk := make_strs ks.length (by omega) w1
  rw [hkb, hm] at hmk
  rw [hm] at hml h1 k1 ⊢
  obtain ⟨w2, h2⟩ : ∃ w2, w1.alloc (.cells (rowS m fun _ => ⟨#[]⟩) 9) = w2 := ⟨_, rfl⟩
  rw [h2] at hmk
  obtain ⟨k2, q2, z2⟩ := box_new h2
  rw [hkb] at k2
  have BW := Lib.hid (q1.trans (q2.mono q1.size))
  have K1 := Lib.hid (k1.below q2)
  have HKB := Lib.hid (show w.heap.size ≤ kb ∧ w.heap.size ≠ kb ∧ tb < w.heap.size from ⟨by rw [← hkb]; exact q1.size, by omega, hT.lt⟩)
  obtain ⟨K, hK⟩ : ∃ K, kidsT T ⟨6, s, n, ws, ks⟩ = K := ⟨_, rfl⟩
  have HKG := Lib.hid (show ∀ j, j < m → K.getD j ⟨#[]⟩ = T (ks.getD j 0).toNat from fun j hj => by rw [← hK]; exact kidsT_get (t := ⟨6, s, n, ws, ks⟩) (by show j < ks.length; omega))
  have HKL := Lib.hid (show K.length = m from by rw [← hK, kidsT_len]; exact hm)
  have HKS := Lib.hid (show ∀ j, (K.getD j ⟨#[]⟩).size ≤ 4000 from fun j => by rw [← hK]; exact kid_size hsz j)
  rw [hK]
  have K2 := Lib.hid (show BlockAt w2 kb (rowS m (KF K 0)) 9 from by rw [KF_zero]; exact k2)
  have HTY := Lib.hid ht
  have HIN := Lib.hid (show ∀ k ∈ ks, 0 ≤ k ∧ k < (N : Int) from hin)
  have HTT := Lib.hid hT
  have HPW := Lib.hid hp
  have HWC := Lib.hid (show ws.length ≤ wc from hwc)
  obtain ⟨c0, c1, c2, c3, c4⟩ := cell5 k1
  obtain ⟨d0, d1, d2, d3, d4⟩ := cell5 (k1.below q2)
  clear ht hwc hkc hT hsz hin hp hm hkb k1 q1 z1 h2 k2 q2 z2 hK
  have HK := Lib.hid hk
  clear hk
  go_enter Tryd.func28, Tryd.ntmps28
  go_wp2_with fail
  clear h1 hmk c0 c1 c2 c3 c4 d0 d1 d2 d3 d4
  go_loopw [18] (fun v wr => ∃ q : Nat, q ≤ m ∧ v = .int .i64 q ∧ Hid (BlockAt wr kb (rowS m (KF K q)) 9) ∧ Hid (BlockAt wr w.heap.size #[.int .i64 6, .string s, .int .i64 n, .slice wo ws.length wc, .slice ko m kc] 31) ∧ Hid (Below w.heap.size w wr)) (fun v _ => m - (intOf v).toNat)
  case atStart => exact ⟨0, Nat.zero_le _, rfl, K2, K1, BW⟩
  case round =>
    obtain ⟨q, hq, rfl, KQ, K1, HB⟩ := hrel
    by_cases hql : q < m
    · have hqx : q < ks.length := by rw [HM.out]; exact hql
      obtain ⟨xb, xof, rfl, hxb, hxc⟩ := HTY.out.kids.cells (by show 0 < ks.length; omega)
      have ck : w.cell? ⟨xb, xof + q, none⟩ = some (.int .i64 (ks.getD q 0)) := hxc q hqx
      obtain ⟨g1, g2⟩ := HIN.out _ (getD_mem hqx)
      have hkg := HKG.out q hql
      obtain ⟨z, hz⟩ : ∃ z : Nat, ks.getD q 0 = (z : Int) := ⟨(ks.getD q 0).toNat, by omega⟩
      rw [hz] at ck g2 hkg
      rw [Int.toNat_natCast] at hkg
      have ck2 : wr.cell? ⟨xb, xof + q, none⟩ = some (.int .i64 (z : Int)) := by rw [HB.out.cell (p := ⟨xb, xof + q, none⟩) hxb]; exact ck
      have ct := (HTT.out.below HB.out).cell z
      rw [rowS_get (by omega), ← hkg] at ct
      obtain ⟨kt, hkt⟩ : ∃ kt, K.getD q ⟨#[]⟩ = kt := ⟨_, rfl⟩
      rw [hkt] at ct
      have cq := KQ.out.cell q
      rw [rowS_get hql] at cq
      have fq := KQ.out.free q
      obtain ⟨w7, h7⟩ : ∃ w7, wr.setCell ⟨kb, q, none⟩ (.string kt) = w7 := ⟨_, rfl⟩
      have KQ7 := Lib.hid (show BlockAt w7 kb (rowS m (KF K (q + 1))) 9 from by
        rw [← KF_step, hkt, ← rowS_set, ← h7]
        exact KQ.out.set q _)
      have K17 := Lib.hid (K1.out.other HKB.out.2.1 q (.string kt))
      rw [h7] at K17
      have B7 := Lib.hid (show Below w.heap.size w w7 from by rw [← h7]; exact HB.out.setCell (p := ⟨kb, q, none⟩) HKB.out.1 _)
      obtain ⟨f0, hf0⟩ : ∃ f0, KF K q q = f0 := ⟨_, rfl⟩
      rw [hf0] at cq
      clear hf0 hkt hkg hz ck hxb hxc g1
      go_wp2_with fail
      go_roundw
      case rel => exact ⟨q + 1, by omega, by go_num, KQ7, K17, B7⟩
      case measure => first | (simp [intOf]; done) | (simp [intOf]; omega)
    · have hqm : q = m := by omega
      rw [hqm] at KQ
      have KR := Lib.hid (KF_row KQ.out HKL.out)
      obtain ⟨c0, c1, c2, c3, c4⟩ := cell5 K1.out
      clear hqm
      have HWM := Lib.hid (show ws.length = m from by rw [HK.out]; exact HM.out)
      have KS0 := Lib.hid (show BlockAt wr kb (rowS m (SF ws K 0)) 9 from by rw [← SF_zero ws K HKL.out]; exact KQ.out)
      clear HK
      go_wp2_with fail
      clear c0 c1 c2 c3 c4
      go_loopw [92] (fun v wr => ∃ q : Nat, q ≤ m ∧ v = .int .i64 q ∧ Hid (BlockAt wr kb (rowS m (SF ws K q)) 9) ∧ Hid (BlockAt wr w.heap.size #[.int .i64 6, .string s, .int .i64 n, .slice wo ws.length wc, .slice ko m kc] 31) ∧ Hid (Below w.heap.size w wr)) (fun v _ => m - (intOf v).toNat)
      case atStart => exact ⟨0, Nat.zero_le _, rfl, KS0, K1, HB⟩
      case round =>
        clear K1 HB KS0 KQ KR
        obtain ⟨q, hq, rfl, KQ, K1, HB⟩ := hrel
        by_cases hql : q < m
        · have hqx : q < ws.length := by rw [HWM.out]; exact hql
          obtain ⟨xb, xof, rfl, hxb, hxc⟩ := HTY.out.words.cells (by show 0 < ws.length; omega)
          have ck : w.cell? ⟨xb, xof + q, none⟩ = some (.string (ws.getD q ⟨#[]⟩)) := hxc q hqx
          have ck2 : wr.cell? ⟨xb, xof + q, none⟩ = some (.string (ws.getD q ⟨#[]⟩)) := by rw [HB.out.cell (p := ⟨xb, xof + q, none⟩) hxb]; exact ck
          have hws : (ws.getD q ⟨#[]⟩).size ≤ 30 := HTY.out.ok.ws _ (getD_memS hqx)
          have hks := HKS.out q
          have cq := KQ.out.cell q
          rw [rowS_get hql, SF_self] at cq
          have fq := KQ.out.free q
          obtain ⟨w7, h7⟩ : ∃ w7, wr.setCell ⟨kb, q, none⟩ (.string ((ws.getD q ⟨#[]⟩ ++ ⟨#[32]⟩) ++ K.getD q ⟨#[]⟩)) = w7 := ⟨_, rfl⟩
          have KQ7 := Lib.hid (show BlockAt w7 kb (rowS m (SF ws K (q + 1))) 9 from by
            rw [← SF_step, ← rowS_set, ← h7]
            exact KQ.out.set q _)
          have K17 := Lib.hid (K1.out.other HKB.out.2.1 q (.string ((ws.getD q ⟨#[]⟩ ++ ⟨#[32]⟩) ++ K.getD q ⟨#[]⟩)))
          rw [h7] at K17
          have B7 := Lib.hid (show Below w.heap.size w w7 from by rw [← h7]; exact HB.out.setCell (p := ⟨kb, q, none⟩) HKB.out.1 _)
          have hwx : q < ws.length := hqx
          obtain ⟨wx, hwxe⟩ : ∃ x, ws.getD q ⟨#[]⟩ = x := ⟨_, rfl⟩
          obtain ⟨kx, hkxe⟩ : ∃ x, K.getD q ⟨#[]⟩ = x := ⟨_, rfl⟩
          rw [hwxe] at ck2 hws h7
          rw [hkxe] at cq hks h7
          have hL : ws.length = m := HWM.out
          clear hwxe hkxe ck hxb hxc
          go_wp2_with fail
          go_roundw
          case rel => exact ⟨q + 1, by omega, by go_num, KQ7, K17, B7⟩
          case measure => first | (simp [intOf]; done) | (simp [intOf]; omega)
        · have hqm : q = m := by omega
          rw [hqm] at KQ
          have hnl : ¬ q < ws.length := by rw [HWM.out]; omega
          have HJ0 := join_all (some ⟨kb, 0, none⟩) m (fldT ws K) ⟨#[59, 32]⟩ 18 5000 wr (fldT_row KQ.out HWM.out HKL.out) (by rw [fldT_len HWM.out HKL.out]; exact hml) (fldT_size (fun s h => HTY.out.ok.ws s h) HKS.out) (by rw [fldT_len HWM.out HKL.out]; exact Nat.le_refl _) (by decide) (by decide)
          have hjs : (joinT (fldT ws K) ⟨#[59, 32]⟩).size ≤ 100000 := joinT_size (by rw [fldT_len HWM.out HKL.out]; exact hml) (fldT_size (fun s h => HTY.out.ok.ws s h) HKS.out) (by decide)
          rw [fldT_len HWM.out HKL.out] at HJ0
          obtain ⟨jt, hjt⟩ : ∃ jt, joinT (fldT ws K) ⟨#[59, 32]⟩ = jt := ⟨_, rfl⟩
          rw [hjt] at HJ0 hjs
          have HJ := Lib.hid HJ0
          have HJT := Lib.hid hjt
          clear HJ0 hjt hqm
          go_wp2_with fail
          refine HJ.out.mono ?_
          rintro e w9 ⟨rfl, b9⟩
          have B9 := Lib.hid (HB.out.trans (b9.mono HB.out.size))
          clear b9
          go_wp2_with fail
          go_ret
          exact ⟨by simp only [textF]; rw [← HJT.out]; rfl, B9.out⟩
set_option maxRecDepth 100000 in
theorem left_sliceS (kb m p : Nat) (hp : p ≤ m) (hm : m ≤ 18) (W : World) :
    (Instr.sliceAt 28 (.slice (some ⟨kb, 0, none⟩) m m) (some (.int .i64 p)) none none).run Tryd.prog W = .ok (.slice (some ⟨kb, if m = p then 0 else p, none⟩) (m - p) (m - p)) W := by
  rw [run_sliceAt_slice W 28 _ _ _ _ Tryd.underlying28, run_slice_l W 28 (some ⟨kb, 0, none⟩) m m Tryd.underlying28 .i64 (p : Int) (by omega) (by omega)]
  have hs : (sizeOf (Tryd.prog.elem 28)).run Tryd.prog W = .ok 1 W := by
    rw [show Tryd.prog.elem 28 = 9 from by kernel_rfl]
    exact Tryd.sizeOf9 W
  rw [hs]
  simp [Result.andThen, sliced]
  by_cases h : m = p
  · simp [h]
  · rw [if_neg h, if_neg h, addr_addK, Nat.zero_add]
theorem own_one (w : World) (s : ByteArray) : (w.alloc (.cells #[.string s] 9)).ownsRow w.heap.size 9 1 (.slice (some ⟨w.heap.size, 0, none⟩) 1 1) 1 (S9 [s]) := by
  refine ⟨rfl, .inr ⟨w.heap.size, 1, #[.string s], rfl, Nat.le_refl _, BlockAt.new _ _ _, Nat.le_refl _, by decide, rfl, rfl⟩⟩
theorem srow_take {w : World} {ao : Option Addr} {ss : List ByteArray} (h : SRow w ao ss) (p : Nat) : SRow w ao (ss.take p) := by
  rcases h with h | ⟨b, off, h1, h2, h3⟩
  · exact .inl (by rw [h]; simp)
  · refine .inr ⟨b, off, h1, h2, fun i hi => ?_⟩
    rw [List.length_take] at hi
    rw [h3 i (by omega), getD_of (show i < ss.length by omega), getD_of (by rw [List.length_take]; omega), List.getElem_take]
theorem mem_take_size {K : List ByteArray} {B p : Nat} (h : ∀ s ∈ K, s.size ≤ B) : ∀ s ∈ K.take p, s.size ≤ B := fun s hs => h s (List.mem_of_mem_take hs)
set_option maxHeartbeats 16000000 in
set_option maxRecDepth 100000 in
theorem text_func (s : ByteArray) (n : Int) (ws : List ByteArray) (ks : List Int) (hk : 0 ≤ n ∧ n ≤ (ks.length : Int)) : TextC ⟨5, s, n, ws, ks⟩ := by
  intro w wo ko wc kc tb N T ht hwc hkc hT hN hsz hin hp
  unfold tyV
  show Calls _ _ #[.agg #[.int .i64 5, .string s, .int .i64 n, .slice wo ws.length wc, .slice ko ks.length kc], .slice (some ⟨tb, 0, none⟩) N N] _ _
  have hml : ks.length ≤ 18 := ht.ok.kl
  have hwl : ws.length ≤ 18 := ht.ok.wl
  have hsl : s.size ≤ 50 := ht.ok.nl
  obtain ⟨m, hm⟩ : ∃ m, ks.length = m := ⟨_, rfl⟩
  have HM := Lib.hid hm
  obtain ⟨w1, h1⟩ : ∃ w1, w.alloc (.cells #[.int .i64 5, .string s, .int .i64 n, .slice wo ws.length wc, .slice ko ks.length kc] 31) = w1 := ⟨_, rfl⟩
  obtain ⟨k1, q1, z1⟩ := box_new h1
  obtain ⟨kb, hkb⟩ : ∃ kb, w1.heap.size = kb := ⟨_, rfl⟩
  have hmk := make_strs ks.length (by omega) w1
  rw [hkb, hm] at hmk
  rw [hm] at hml h1 k1 ⊢
  obtain ⟨w2, h2⟩ : ∃ w2, w1.alloc (.cells (rowS m fun _ => ⟨#[]⟩) 9) = w2 := ⟨_, rfl⟩
  rw [h2] at hmk
  obtain ⟨k2, q2, z2⟩ := box_new h2
  rw [hkb] at k2
  have BW := Lib.hid (q1.trans (q2.mono q1.size))
  have K1 := Lib.hid (k1.below q2)
  have HKB := Lib.hid (show w.heap.size ≤ kb ∧ w.heap.size ≠ kb ∧ tb < w.heap.size from ⟨by rw [← hkb]; exact q1.size, by omega, hT.lt⟩)
  obtain ⟨K, hK⟩ : ∃ K, kidsT T ⟨5, s, n, ws, ks⟩ = K := ⟨_, rfl⟩
  have HKG := Lib.hid (show ∀ j, j < m → K.getD j ⟨#[]⟩ = T (ks.getD j 0).toNat from fun j hj => by rw [← hK]; exact kidsT_get (t := ⟨5, s, n, ws, ks⟩) (by show j < ks.length; omega))
  have HKL := Lib.hid (show K.length = m from by rw [← hK, kidsT_len]; exact hm)
  have HKS := Lib.hid (show ∀ j, (K.getD j ⟨#[]⟩).size ≤ 4000 from fun j => by rw [← hK]; exact kid_size hsz j)
  rw [hK]
  have K2 := Lib.hid (show BlockAt w2 kb (rowS m (KF K 0)) 9 from by rw [KF_zero]; exact k2)
  have HTY := Lib.hid ht
  have HIN := Lib.hid (show ∀ k ∈ ks, 0 ≤ k ∧ k < (N : Int) from hin)
  have HTT := Lib.hid hT
  have HPW := Lib.hid hp
  have HWC := Lib.hid (show ws.length ≤ wc from hwc)
  obtain ⟨c0, c1, c2, c3, c4⟩ := cell5 k1
  obtain ⟨d0, d1, d2, d3, d4⟩ := cell5 (k1.below q2)
  clear ht hwc hkc hT hsz hin hp hm hkb k1 q1 z1 h2 k2 q2 z2 hK
  have HK := Lib.hid hk
  clear hk
  go_enter Tryd.func28, Tryd.ntmps28
  go_wp2_with fail
  clear h1 hmk c0 c1 c2 c3 c4 d0 d1 d2 d3 d4
  go_loopw [18] (fun v wr => ∃ q : Nat, q ≤ m ∧ v = .int .i64 q ∧ Hid (BlockAt wr kb (rowS m (KF K q)) 9) ∧ Hid (BlockAt wr w.heap.size #[.int .i64 5, .string s, .int .i64 n, .slice wo ws.length wc, .slice ko m kc] 31) ∧ Hid (Below w.heap.size w wr)) (fun v _ => m - (intOf v).toNat)
  case atStart => exact ⟨0, Nat.zero_le _, rfl, K2, K1, BW⟩
  case round =>
    obtain ⟨q, hq, rfl, KQ, K1, HB⟩ := hrel
    by_cases hql : q < m
    · have hqx : q < ks.length := by rw [HM.out]; exact hql
      obtain ⟨xb, xof, rfl, hxb, hxc⟩ := HTY.out.kids.cells (by show 0 < ks.length; omega)
      have ck : w.cell? ⟨xb, xof + q, none⟩ = some (.int .i64 (ks.getD q 0)) := hxc q hqx
      obtain ⟨g1, g2⟩ := HIN.out _ (getD_mem hqx)
      have hkg := HKG.out q hql
      obtain ⟨z, hz⟩ : ∃ z : Nat, ks.getD q 0 = (z : Int) := ⟨(ks.getD q 0).toNat, by omega⟩
      rw [hz] at ck g2 hkg
      rw [Int.toNat_natCast] at hkg
      have ck2 : wr.cell? ⟨xb, xof + q, none⟩ = some (.int .i64 (z : Int)) := by rw [HB.out.cell (p := ⟨xb, xof + q, none⟩) hxb]; exact ck
      have ct := (HTT.out.below HB.out).cell z
      rw [rowS_get (by omega), ← hkg] at ct
      obtain ⟨kt, hkt⟩ : ∃ kt, K.getD q ⟨#[]⟩ = kt := ⟨_, rfl⟩
      rw [hkt] at ct
      have cq := KQ.out.cell q
      rw [rowS_get hql] at cq
      have fq := KQ.out.free q
      obtain ⟨w7, h7⟩ : ∃ w7, wr.setCell ⟨kb, q, none⟩ (.string kt) = w7 := ⟨_, rfl⟩
      have KQ7 := Lib.hid (show BlockAt w7 kb (rowS m (KF K (q + 1))) 9 from by
        rw [← KF_step, hkt, ← rowS_set, ← h7]
        exact KQ.out.set q _)
      have K17 := Lib.hid (K1.out.other HKB.out.2.1 q (.string kt))
      rw [h7] at K17
      have B7 := Lib.hid (show Below w.heap.size w w7 from by rw [← h7]; exact HB.out.setCell (p := ⟨kb, q, none⟩) HKB.out.1 _)
      obtain ⟨f0, hf0⟩ : ∃ f0, KF K q q = f0 := ⟨_, rfl⟩
      rw [hf0] at cq
      clear hf0 hkt hkg hz ck hxb hxc g1
      go_wp2_with fail
      go_roundw
      case rel => exact ⟨q + 1, by omega, by go_num, KQ7, K17, B7⟩
      case measure => first | (simp [intOf]; done) | (simp [intOf]; omega)
    · have hqm : q = m := by omega
      rw [hqm] at KQ
      have KR := Lib.hid (KF_row KQ.out HKL.out)
      obtain ⟨c0, c1, c2, c3, c4⟩ := cell5 K1.out
      clear hqm
      obtain ⟨p, hp1, hp2⟩ : ∃ p : Nat, (m : Int) - n = p ∧ p ≤ m := ⟨((m : Int) - n).toNat, by have h1 := HK.out; have h2 := HM.out; omega, by have h1 := HK.out; have h2 := HM.out; omega⟩
      have hsub : IntKind.i64.wrap ((m : Int) - n) = (p : Int) := by rw [hp1]; exact IntWalk.i64_in _ (by omega)
      have HPE := Lib.hid hp1
      have HTL := Lib.hid (show (K.take p).length = p from by rw [List.length_take, HKL.out]; omega)
      have hls := fun W => left_sliceS kb m p hp2 hml W
      obtain ⟨j1, hj1⟩ : ∃ j1, joinT (K.take p) ⟨#[44, 32]⟩ = j1 := ⟨_, rfl⟩
      have HJT := Lib.hid hj1
      have hjs : j1.size ≤ 100000 := by rw [← hj1]; exact joinT_size (by rw [HTL.out]; omega) (mem_take_size (mem_size (fun j => Nat.le_trans (HKS.out j) (by decide)))) (by decide)
      have hlp : decide ((p : Int) < 0) = false := decide_eq_false (by omega)
      obtain ⟨K0, hK0⟩ : ∃ K0, K0 = K := ⟨_, rfl⟩
      subst hK0
      clear hp1 hj1
      go_wp2_with fail
      refine GoG.start [] (by kernel_rfl) ?_ ?_
      · exact Keeps.nil
      refine GoG.take (i := 0) (v := ?_) [] rfl (by kernel_rfl) (by kernel_rfl) (by kernel_rfl) (by kernel_rfl) (by kernel_rfl) (by kernel_rfl) (fun _ _ _ h => h) (yields_free (by rfl) (fun w => ?_)) ?_
      rotate_left
      · go_simp; try (with_reducible rfl)
      try simp only [Act.put, List.getElem_toArray, List.getElem_cons_succ, List.getElem_cons_zero, List.setIfInBounds_toArray, List.set_cons_zero, List.set_cons_succ]
      refine GoG.take (i := 5) (v := ?_) [] rfl (by kernel_rfl) (by kernel_rfl) (by kernel_rfl) (by kernel_rfl) (by kernel_rfl) (by kernel_rfl) (fun _ _ _ h => h) (yields_free (by rfl) (fun w => ?_)) ?_
      rotate_left
      · go_simp; try (with_reducible rfl)
      try simp only [Act.put, List.getElem_toArray, List.getElem_cons_succ, List.getElem_cons_zero, List.setIfInBounds_toArray, List.set_cons_zero, List.set_cons_succ]
      refine GoG.take (i := 6) (v := ?_) [] rfl (by kernel_rfl) (by kernel_rfl) (by kernel_rfl) (by kernel_rfl) (by kernel_rfl) (by kernel_rfl) (fun _ _ _ h => h) (yields_free (by rfl) (fun w => ?_)) ?_
      rotate_left
      · go_simp; try (with_reducible rfl)
      try simp only [Act.put, List.getElem_toArray, List.getElem_cons_succ, List.getElem_cons_zero, List.setIfInBounds_toArray, List.set_cons_zero, List.set_cons_succ]
      refine GoG.take (i := 7) (v := ?_) [] rfl (by kernel_rfl) (by kernel_rfl) (by kernel_rfl) (by kernel_rfl) (by kernel_rfl) (by kernel_rfl) (fun _ _ _ h => h) (yields_free (by rfl) (fun w => ?_)) ?_
      rotate_left
      · go_simp; try (with_reducible rfl)
      try simp only [Act.put, List.getElem_toArray, List.getElem_cons_succ, List.getElem_cons_zero, List.setIfInBounds_toArray, List.set_cons_zero, List.set_cons_succ]
      refine GoG.take (i := 8) (v := ?_) [] rfl (by kernel_rfl) (by kernel_rfl) (by kernel_rfl) (by kernel_rfl) (by kernel_rfl) (by kernel_rfl) (fun _ _ _ h => h) (yields_free (by rfl) (fun w => ?_)) ?_
      rotate_left
      · go_simp; try (with_reducible rfl)
      try simp only [Act.put, List.getElem_toArray, List.getElem_cons_succ, List.getElem_cons_zero, List.setIfInBounds_toArray, List.set_cons_zero, List.set_cons_succ]
      have BD := Lib.hid (show Below w.heap.size w wr.drew from HB.out.drew)
      have HJ := Lib.hid (join_all (some ⟨kb, 0, none⟩) m (K0.take p) ⟨#[44, 32]⟩ 18 4000 wr.drew (srow_take (KR.out.1.below (Below.refl _ _).drew) p) (by rw [HTL.out]; omega) (mem_take_size (mem_size HKS.out)) (by rw [HTL.out]; omega) (by decide) (by decide))
      rw [HTL.out, HJT.out] at HJ
      have RD := Lib.hid (show SRow wr.drew (some ⟨kb, 0, none⟩) K0 from KR.out.1.below (Below.refl _ _).drew)
      have CD := Lib.hid (show ∀ j, j < m → wr.drew.cell? ⟨kb, j, none⟩ = some (.string (K0.getD j ⟨#[]⟩)) from KR.out.2)
      have LD := Lib.hid (show kb < wr.drew.heap.size from KQ.out.lt)
      clear KR c0 c1 c2 c3 c4 KQ K1
      refine GoG.one (i := 1) rfl (by kernel_rfl) (fun K hK => ?_)
      go_simp
      refine HJ.out.mono ?_
      rintro e w9 ⟨rfl, b9⟩
      have B9 := Lib.hid (BD.out.trans (b9.mono BD.out.size))
      have C9 := Lib.hid (show ∀ j, j < m → w9.cell? ⟨kb, j, none⟩ = some (.string (K0.getD j ⟨#[]⟩)) from fun j hj => (b9.cell (p := ⟨kb, j, none⟩) LD.out).trans (CD.out j hj))
      have L9 := Lib.hid (Nat.lt_of_lt_of_le LD.out b9.size)
      clear b9 HJ BD RD CD LD
      refine hK.out _ _ Keeps.nil ?_
      clear hK K
      try simp only [Act.put, List.getElem_toArray, List.getElem_cons_succ, List.getElem_cons_zero, List.setIfInBounds_toArray, List.set_cons_zero, List.set_cons_succ]
      refine GoG.take (i := 2) (v := ?_) [] rfl (by kernel_rfl) (by kernel_rfl) (by kernel_rfl) (by kernel_rfl) (by kernel_rfl) (by kernel_rfl) (fun _ _ _ h => h) (yields_free (by rfl) (fun w => ?_)) ?_
      rotate_left
      · go_simp
        rw [if_neg (by first | omega | (simp; omega) | (simp [ByteArray.size_append]; omega))]
      try simp only [Act.put, List.getElem_toArray, List.getElem_cons_succ, List.getElem_cons_zero, List.setIfInBounds_toArray, List.set_cons_zero, List.set_cons_succ]
      refine GoG.take (i := 3) (v := ?_) [] rfl (by kernel_rfl) (by kernel_rfl) (by kernel_rfl) (by kernel_rfl) (by kernel_rfl) (by kernel_rfl) (fun _ _ _ h => h) (yields_free (by rfl) (fun w => ?_)) ?_
      rotate_left
      · go_simp
        rw [if_neg (by first | omega | (simp; omega) | (simp [ByteArray.size_append]; omega))]
      try simp only [Act.put, List.getElem_toArray, List.getElem_cons_succ, List.getElem_cons_zero, List.setIfInBounds_toArray, List.set_cons_zero, List.set_cons_succ]
      obtain ⟨x2, hx2⟩ : ∃ x2, ((⟨#[102, 117, 110, 99, 40]⟩ ++ j1) ++ ⟨#[41]⟩) = x2 := ⟨_, rfl⟩
      have HX2 := Lib.hid hx2
      have hx2s : x2.size ≤ 100006 := by rw [← hx2]; simp [ByteArray.size_append]; have : (⟨#[102, 117, 110, 99, 40]⟩ : ByteArray).size = 5 := rfl; have : (⟨#[41]⟩ : ByteArray).size = 1 := rfl; omega
      rw [hx2]
      obtain ⟨u, hu⟩ : ∃ u, w9.alloc (.cells #[.string x2] 9) = u := ⟨_, rfl⟩
      obtain ⟨gb, hgb⟩ : ∃ gb, w9.heap.size = gb := ⟨_, rfl⟩
      have O1 := Lib.hid (show u.ownsRow gb 9 1 (.slice (some ⟨gb, 0, none⟩) 1 1) 1 (S9 [x2]) from by rw [← hu, ← hgb]; exact own_one w9 x2)
      have BU := Lib.hid (show Below w.heap.size w u from by rw [← hu]; exact B9.out.alloc (by exact B9.out.size) _)
      have CU := Lib.hid (show ∀ j, j < m → u.cell? ⟨kb, j, none⟩ = some (.string (K0.getD j ⟨#[]⟩)) from fun j hj => by rw [← hu]; exact (((Below.refl _ w9).alloc (Nat.le_refl _) _).cell (p := ⟨kb, j, none⟩) L9.out).trans (C9.out j hj))
      have GU := Lib.hid (show gb < u.heap.size ∧ w.heap.size ≤ gb from ⟨by rw [← hu, ← hgb]; simp, by rw [← hgb]; exact B9.out.size⟩)
      refine GoG.one (i := 4) rfl (by kernel_rfl) (fun K hK => ?_)
      go_simp
      refine hK.out _ _ Keeps.nil ?_
      clear hK K
      try rw [hu]
      try rw [hgb]
      try simp only [Act.put, List.getElem_toArray, List.getElem_cons_succ, List.getElem_cons_zero, List.setIfInBounds_toArray, List.set_cons_zero, List.set_cons_succ]
      clear hu hgb B9 C9 L9
      obtain ⟨i0, hi, hz0, hz1, hz2⟩ := info_parts info_strT
      obtain ⟨v7, w7, hap, hown7, hgrow7, -⟩ := run_append_own (P := Tryd.prog) u gb 28 28 9 i0 (.string ⟨#[]⟩) 1 16 Tryd.underlying28 hi hz0 hz1 hz2 rfl (by decide) _ 1 (S9 [x2]) O1.out
        ⟨kb, if m = p then 0 else p, none⟩ (m - p) (m - p) (S9 (K0.drop p)) (by simp [S9, HKL.out]) (fun j v hj => by
          obtain ⟨hjl, rfl⟩ := List.getElem?_eq_some_iff.1 hj
          have hjl2 : j < m - p := by simpa [S9, HKL.out] using hjl
          rw [if_neg (by omega), addr_addK, CU.out (p + j) (by omega), getD_of (by rw [HKL.out]; omega)]
          simp [S9]) (fun v hv => by
          obtain ⟨y, _, rfl⟩ := List.mem_map.1 hv
          rfl) (by unfold maxLen; omega) (by omega) (by have := GU.out; omega)
      have B7 := Lib.hid (show Below w.heap.size w w7 from BU.out.grown hgrow7 (by have := BU.out.size; omega) (fun k hk => by have h1 := World.ownsRow.lt O1.out k hk; have h2 := GU.out; omega))
      have hown8 : w7.ownsRow gb 9 1 v7 (1 + (m - p)) (S9 (x2 :: K0.drop p)) := hown7
      obtain ⟨ao7, cap7, rfl, r1, r2⟩ := srow_own hown8
      have HDL := Lib.hid (show (x2 :: K0.drop p).length = 1 + (m - p) from by simp [HKL.out]; omega)
      have HJ2 := Lib.hid (join_all ao7 cap7 (x2 :: K0.drop p) ⟨#[32]⟩ 19 100006 w7 r1.row (by rw [HDL.out]; omega) (fun z hz => by
          rcases List.mem_cons.1 hz with rfl | hz
          · exact hx2s
          · exact Nat.le_trans (mem_size HKS.out z (List.mem_of_mem_drop hz)) (by decide)) r2 (by decide) (by decide))
      obtain ⟨q7, hq7⟩ : ∃ q7, (x2 :: K0.drop p).length = q7 := ⟨_, rfl⟩
      rw [hq7] at hap HJ2
      clear hown7 hown8 hgrow7 r1 r2 CU HDL hq7
      refine GoG.one (i := 9) rfl (by kernel_rfl) (fun K hK => ?_)
      rw [if_pos (by rfl)]
      refine wp_run_append _ _ _ rfl _ _ _ rfl rfl hap ?_
      refine hK.out _ _ Keeps.nil ?_
      clear hK K hap hi hz0 hz1 hz2 O1 BU GU
      try simp only [Act.put, List.getElem_toArray, List.getElem_cons_succ, List.getElem_cons_zero, List.setIfInBounds_toArray, List.set_cons_zero, List.set_cons_succ]
      refine GoG.one (i := 10) rfl (by kernel_rfl) (fun K hK => ?_)
      go_simp
      refine HJ2.out.mono ?_
      rintro e w8 ⟨rfl, b8⟩
      have B8 := Lib.hid (B7.out.trans (b8.mono B7.out.size))
      clear b8 HJ2
      refine hK.out _ _ Keeps.nil ?_
      clear hK K
      try simp only [Act.put, List.getElem_toArray, List.getElem_cons_succ, List.getElem_cons_zero, List.setIfInBounds_toArray, List.set_cons_zero, List.set_cons_succ]
      refine GoG.one (i := 11) rfl (by kernel_rfl) (fun K hK => ?_)
      go_simp
      refine hK.out _ _ Keeps.nil ?_
      clear hK K
      try simp only [Act.put, List.getElem_toArray, List.getElem_cons_succ, List.getElem_cons_zero, List.setIfInBounds_toArray, List.set_cons_zero, List.set_cons_succ]
      refine GoG.done (by kernel_rfl) ?_ _
      have hKn := Lib.hid (show K0.length - n.toNat = p from by have h1 := HPE.out; have h2 := HKL.out; omega)
      go_wp2_with fail
      all_goals go_ret
      all_goals exact ⟨by simp only [textF]; rw [hKn.out, HJT.out, HX2.out]; rfl, B8.out⟩
end Go.Proofs.YthgdceikmipppaaDoor
