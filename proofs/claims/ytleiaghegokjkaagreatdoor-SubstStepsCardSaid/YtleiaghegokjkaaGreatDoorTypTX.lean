/- The program's Text, told its types' texts. -/
import Derived.Test.YtleiaghegokjkaaGreatDoorTypTM
namespace Go.Proofs.YtleiaghegokjkaaGreatDoor
open Go.RowKit
set_option linter.unusedSimpArgs false
set_option linter.unusedVariables false

theorem right_kids {l : List Ty} (h : rightT l = true) {j : Nat} (hj : j < l.length) : ∀ k ∈ (l[j]).kids, 0 ≤ k ∧ k < (j : Int) := by
  intro k hk
  by_cases h22 : j < 22
  · rw [right_low h hj h22] at hk
    unfold bas at hk
    split at hk <;> cases hk
  · have hm := (right_high h hj h22).1
    unfold madeB at hm
    rw [Bool.and_eq_true] at hm
    have := kidsB_in hm.1 k hk
    rw [List.length_take] at this
    omega
theorem set_below {W w : World} {b k : Nat} {v : Value} (h : Below W.heap.size W w) (hb : W.heap.size ≤ b) : Below W.heap.size W (w.setCell ⟨b, k, none⟩ v) := h.setCell hb v
theorem need_start (f : Nat → Ty) (i L : Nat) : (rowB L fun _ => false).setIfInBounds i (.bool true) = rowB L (needD f i 0) := by
  rw [rowB_set]
  congr 1
/-- What Text gives. -/
def TextR (f : Nat → Ty) (i : Nat) (w : World) (e : Ending) (w' : World) : Prop := e = .returned (.tuple #[.string (outF f i).1, .int .i64 (outF f i).2]) ∧ Below w.heap.size w w'
theorem text_long {f : Nat → Ty} {i : Nat} {w w' : World} (h : runF f (needD f i (i + 1)) (i + 1) = none) (hb : Below w.heap.size w w') : TextR f i w (.returned (.tuple #[.string ⟨#[]⟩, .int .i64 7])) w' := by
  unfold TextR outF
  rw [h]
  exact ⟨rfl, hb⟩
theorem text_done {f : Nat → Ty} {i : Nat} {w w' : World} {T : Nat → ByteArray} (h : runF f (needD f i (i + 1)) (i + 1) = some T) (hb : Below w.heap.size w w') : TextR f i w (.returned (.tuple #[.string (T i), .int .i64 0])) w' := by
  unfold TextR outF
  rw [h]
  exact ⟨rfl, hb⟩
set_option maxHeartbeats 16000000 in
set_option maxRecDepth 100000 in
theorem text_in (l : List Ty) (ao : Option Addr) (ac i : Nat) (w : World) (hl : ARow w ao l) (hr : rightT l = true) (hac : l.length ≤ ac) (hE : Env w) (hi : i < l.length) (hTC : ∀ j (hj : j < l.length), j ≤ i → needD (fun j => l.getD j noT) i (i + 1) j = true → TextC l[j]) :
    Calls Tryz.prog 23 #[.slice ao l.length ac, .int .i64 i] w (TextR (fun j => l.getD j noT) i w) := by
  have hlen := (right_step hr).1
  have HRT0 := pright_any l ao ac w hl (by omega) hac hE
  rw [hr] at HRT0
  obtain ⟨f, hf⟩ : ∃ f : Nat → Ty, (fun j => l.getD j noT) = f := ⟨_, rfl⟩
  rw [hf]
  have HF := Lib.hid (show ∀ j (hj : j < l.length), f j = l[j] from fun j hj => by rw [← hf]; exact getD_of hj)
  have HK := Lib.hid (show ∀ j (hj : j < l.length), ∀ k ∈ (f j).kids, 0 ≤ k ∧ k < (j : Int) from fun j hj => by rw [HF.out j hj]; exact right_kids hr hj)
  rw [hf] at hTC
  have HTC := Lib.hid (show ∀ j (hj : j < l.length), j ≤ i → needD f i (i + 1) j = true → TextC (f j) from fun j hj h h2 => by rw [HF.out j hj]; exact hTC j hj h h2)
  obtain ⟨n, hn⟩ : ∃ n, l.length = n := ⟨_, rfl⟩
  have HN := Lib.hid hn
  have HA := Lib.hid hl
  have HE := Lib.hid hE
  rw [hn] at hlen hac hi HRT0 ⊢
  have HRT := Lib.hid HRT0
  have hdi : decide (n ≤ i) = false := decide_eq_false (by omega)
  have hdii : decide ((n : Int) ≤ (i : Int)) = false := decide_eq_false (by omega)
  have hd0 : decide ((i : Int) < 0) = false := decide_eq_false (by omega)
  clear hl hr hE hTC hf hn HRT0
  go_enter Tryz.func23, Tryz.ntmps23
  go_wp2_with fail
  refine HRT.out.mono ?_
  rintro e w1 ⟨rfl, b1⟩
  have B1 := Lib.hid b1
  obtain ⟨nb, hnb⟩ : ∃ nb, w1.heap.size = nb := ⟨_, rfl⟩
  have HNB := Lib.hid (show w.heap.size ≤ nb by rw [← hnb]; exact b1.size)
  have hmk := make_boolsT (i + 1) (by omega) w1
  obtain ⟨w2, h2⟩ : ∃ w2, w1.alloc (.cells (rowB (i + 1) fun _ => false) 4) = w2 := ⟨_, rfl⟩
  obtain ⟨k2, q2, z2⟩ := box_new h2
  rw [h2, hnb, show ((i + 1 : Nat) : Int) = (i : Int) + 1 by omega] at hmk
  rw [hnb] at k2
  have B2 := Lib.hid (b1.trans (q2.mono b1.size))
  obtain ⟨w3, h3⟩ : ∃ w3, w2.setCell ⟨nb, i, none⟩ (.bool true) = w3 := ⟨_, rfl⟩
  have K3 := Lib.hid (show BlockAt w3 nb (rowB (i + 1) (needD f i 0)) 4 from by rw [← h3, ← need_start f]; exact k2.set i _)
  have B3 := Lib.hid (show Below w.heap.size w w3 from by rw [← h3]; exact set_below B2.out HNB.out)
  have ci := k2.cell i
  rw [rowB_get (by omega)] at ci
  have fi := k2.free i
  clear b1 h2 k2 q2 z2 hnb
  go_wp2_with fail
  clear hmk ci fi h3
  go_loopw [7] (fun v wr => ∃ c j : Nat, c + j = i + 1 ∧ v = .int .i64 ((j : Int) - 1) ∧ Hid (BlockAt wr nb (rowB (i + 1) (needD f i c)) 4) ∧ Hid (Below w.heap.size w wr)) (fun v _ => (intOf v + 1).toNat)
  case atStart => exact ⟨0, i + 1, by omega, by (rw [show ((i + 1 : Nat) : Int) - 1 = (i : Int) by omega]), K3, B3⟩
  case round =>
    obtain ⟨c, j, hcj, rfl, KB, HB⟩ := hrel
    by_cases hj0 : j = 0
    · have hneg : (j : Int) - 1 < 0 := by omega
      have HC := Lib.hid (show c = i + 1 by omega)
      clear hj0
      obtain ⟨nd, hnd⟩ : ∃ nd, needD f i (i + 1) = nd := ⟨_, rfl⟩
      have HND := Lib.hid hnd
      rw [HC.out, hnd] at KB
      clear hnd
      obtain ⟨w4, hw4⟩ : ∃ w4, w4 = wr := ⟨_, rfl⟩
      subst hw4
      obtain ⟨tb, htb⟩ : ∃ tb, w4.heap.size = tb := ⟨_, rfl⟩
      have HTB := Lib.hid (show w.heap.size ≤ tb ∧ nb < tb by rw [← htb]; exact ⟨HB.out.size, KB.out.lt⟩)
      have hmk := make_strs (i + 1) (by omega) w4
      obtain ⟨w5, h5⟩ : ∃ w5, w4.alloc (.cells (rowS (i + 1) fun _ => ⟨#[]⟩) 9) = w5 := ⟨_, rfl⟩
      obtain ⟨k5, q5, z5⟩ := box_new h5
      rw [h5, htb, show ((i + 1 : Nat) : Int) = (i : Int) + 1 by omega] at hmk
      rw [htb] at k5
      have K5 := Lib.hid k5
      have KB5 := Lib.hid (KB.out.below q5)
      have B5 := Lib.hid (HB.out.trans (q5.mono HB.out.size))
      clear h5 k5 q5 z5 htb
      go_wp2_with fail
      clear hmk
      go_loopw [67] (fun v wr => ∃ (k : Nat) (T : Nat → ByteArray), k ≤ i + 1 ∧ v = .int .i64 k ∧ Hid (runF f nd k = some T) ∧ Hid (BlockAt wr tb (rowS (i + 1) T) 9) ∧ Hid (BlockAt wr nb (rowB (i + 1) nd) 4) ∧ Hid (Below w.heap.size w wr)) (fun v _ => i + 1 - (intOf v).toNat)
      case atStart => exact ⟨0, _, Nat.zero_le _, rfl, Lib.hid rfl, K5, KB5, B5⟩
      case round =>
        obtain ⟨k, T, hk, rfl, HRF, KT, KN, HB⟩ := hrel
        by_cases hkl : k < i + 1
        · have hkx : k < l.length := by rw [HN.out]; omega
          obtain ⟨ab, aof, rfl, hab, hcl⟩ := (HA.out.below HB.out).cells (by omega)
          have hat := hcl k hkx
          rw [← HF.out k hkx] at hat
          obtain ⟨x, hx⟩ : ∃ x, f k = x := ⟨_, rfl⟩
          rw [hx] at hat
          have HX := Lib.hid hx
          obtain ⟨xw, xwc, xk, xkc, a0, a1, a2, a3, a4, hwc, hkc, hxc⟩ := hat
          clear hx hcl hab
          obtain ⟨wn, hwn⟩ : ∃ wn, wr.alloc (.cells #[.int .i64 x.kind, .string x.name, .int .i64 x.n, .slice xw x.words.length xwc, .slice xk x.kids.length xkc] 41) = wn := ⟨_, rfl⟩
          obtain ⟨kx, qx, zx⟩ := box_new hwn
          obtain ⟨c0, c1, c2, c3, c4⟩ := cell5 kx
          have BN := Lib.hid (HB.out.trans (qx.mono HB.out.size))
          have KTN := Lib.hid (KT.out.below qx)
          have KNN := Lib.hid (KN.out.below qx)
          have cn := KNN.out.cell k
          rw [rowB_get hkl] at cn
          have HRS := Lib.hid (runF_size HRF.out)
          have HZ := Lib.hid (show tb < wr.heap.size from KT.out.lt)
          have HXI := Lib.hid (And.intro hwc (And.intro hkc (hxc.below qx)))
          clear kx qx zx hwc hkc hxc
          cases hnk : nd k
          · have HS := Lib.hid (runF_skip HRF.out hnk)
            rw [hnk] at cn
            clear hnk
            go_wp2_with fail
            go_roundw
            case rel => exact ⟨k + 1, T, by omega, by go_num, HS, KTN, KNN, BN⟩
            case measure => first | (simp [intOf]; done) | (simp [intOf]; omega)
          · have HNK := Lib.hid hnk
            rw [hnk] at cn
            clear hnk
            have HTX0 := HTC.out k hkx (by omega) (by rw [HND.out]; exact HNK.out) wn xw xk xwc xkc tb (i + 1) T (by rw [HX.out]; exact HXI.out.2.2) (by rw [HX.out]; exact HXI.out.1) (by rw [HX.out]; exact HXI.out.2.1) KTN.out (by omega) HRS.out (fun z hz => by have := HK.out k hkx z hz; omega) (HE.out.below BN.out).pow
            rw [HX.out] at HTX0
            unfold tyV at HTX0
            have HTX := Lib.hid HTX0
            clear HTX0
            obtain ⟨s, hs⟩ : ∃ s, textF x (kidsT T x) = s := ⟨_, rfl⟩
            rw [hs] at HTX
            have HSE := Lib.hid hs
            clear hs
            go_wp2_with fail
            refine HTX.out.mono ?_
            rintro e w6 ⟨rfl, b6⟩
            have KT6 := Lib.hid (KTN.out.below b6)
            have KN6 := Lib.hid (KNN.out.below b6)
            have B6 := Lib.hid (BN.out.trans (b6.mono BN.out.size))
            obtain ⟨w7, h7⟩ : ∃ w7, w6.setCell ⟨tb, k, none⟩ (.string s) = w7 := ⟨_, rfl⟩
            have ck := KT6.out.cell k
            rw [rowS_get hkl] at ck
            have fk := KT6.out.free k
            have KT7 := Lib.hid (show BlockAt w7 tb (rowS (i + 1) fun m => if m = k then s else T m) 9 from by rw [← h7, ← rowS_set]; exact KT6.out.set k _)
            have KN7 := Lib.hid (show BlockAt w7 nb (rowB (i + 1) nd) 4 from by rw [← h7]; exact KN6.out.other (by have := HTB.out.2; omega) k _)
            have B7 := Lib.hid (show Below w.heap.size w w7 from by rw [← h7]; exact set_below B6.out HTB.out.1)
            have c7 := KT7.out.cell k
            rw [rowS_get hkl, if_pos rfl] at c7
            clear b6 c0 c1 c2 c3 c4 cn hwn a0 a1 a2 a3 a4
            by_cases hlg : 4000 < s.size
            · have Hn := Lib.hid (runF_none (runF_long HRF.out HNK.out (by rw [HX.out, HSE.out]; exact hlg)) (i + 1) (by omega))
              go_wp2_with fail
              go_ret2
              exact text_long (by rw [HND.out]; exact Hn.out) B7.out
            · have Hn := Lib.hid (runF_next HRF.out HNK.out (by rw [HX.out, HSE.out]; exact hlg))
              rw [HX.out, HSE.out] at Hn
              go_wp2_with fail
              go_roundw
              case rel => exact ⟨k + 1, _, by omega, by go_num, Hn, KT7, KN7, B7⟩
              case measure => first | (simp [intOf]; done) | (simp [intOf]; omega)
        · have HKI := Lib.hid (show k = i + 1 by omega)
          have ci := KT.out.cell i
          rw [rowS_get (by omega)] at ci
          go_wp2_with fail
          go_ret2
          exact text_done (by rw [HND.out, ← HKI.out]; exact HRF.out) HB.out
    · obtain ⟨p, rfl⟩ : ∃ p, j = p + 1 := ⟨j - 1, by omega⟩
      have hpi : p ≤ i := by omega
      have HP := Lib.hid (show i - c = p by omega)
      have hpx : p < l.length := by rw [HN.out]; omega
      obtain ⟨ab, aof, rfl, hab, hcl⟩ := HA.out.cells (by omega)
      have hat := hcl p hpx
      rw [← HF.out p hpx] at hat
      have HKP := Lib.hid (HK.out p hpx)
      obtain ⟨x, hx⟩ : ∃ x, f p = x := ⟨_, rfl⟩
      rw [hx] at hat HKP
      have HX := Lib.hid hx
      obtain ⟨xw, xwc, xk, xkc, a0, a1, a2, a3, a4, hwc, hkc, hxc⟩ := hat
      have HXC := Lib.hid hxc
      have a4 : wr.cell? ⟨ab, aof + p * 5 + 4, none⟩ = some (.slice xk x.kids.length xkc) := by rw [HB.out.cell (p := ⟨ab, aof + p * 5 + 4, none⟩) hab]; exact a4
      obtain ⟨m, hm⟩ : ∃ m, x.kids.length = m := ⟨_, rfl⟩
      have HM := Lib.hid hm
      have hml := hxc.ok.kl
      rw [hm] at a4 hml
      have hsub : ((p + 1 : Nat) : Int) - 1 = (p : Int) := by omega
      rw [hsub]
      have hsub1 : (p : Int) - 1 = (p : Int) + 1 - 1 - 1 := by omega
      obtain ⟨wo2, hwo2⟩ : ∃ wo2, wo2 = wr := ⟨_, rfl⟩
      subst hwo2
      clear hx hcl hab hwc hkc hxc hm hsub1 hsub a0 a1 a2 a3
      go_wp2_with fail
      clear a4
      go_loopw [41] (fun v wr => ∃ q : Nat, q ≤ m ∧ v = .int .i64 q ∧ Hid (BlockAt wr nb (rowB (i + 1) (kmark (needD f i c) p (x.kids.take q))) 4) ∧ Hid (Below w.heap.size w wr)) (fun v _ => m - (intOf v).toNat)
      case atStart => exact ⟨0, Nat.zero_le _, rfl, by (rw [List.take_zero, kmark_nil]; exact KB), HB⟩
      case round =>
        obtain ⟨q, hq, rfl, KQ, HQ⟩ := hrel
        by_cases hql : q < m
        · have hqx : q < x.kids.length := by rw [HM.out]; exact hql
          obtain ⟨kb, kof, rfl, hkb, hkcell⟩ := HXC.out.kids.cells (by omega)
          have ck := hkcell q hqx
          obtain ⟨g1, g2⟩ := HKP.out _ (getD_mem hqx)
          obtain ⟨z, hz⟩ : ∃ z : Nat, x.kids.getD q 0 = (z : Int) := ⟨(x.kids.getD q 0).toNat, by omega⟩
          rw [hz] at ck g2
          have hzp : z < p := by omega
          have HST := Lib.hid (kmark_step (nd := needD f i c) (j := p) hqx hz (by omega))
          have HKM := Lib.hid (show kmark (needD f i c) p (x.kids.take q) p = needD f i c p from kmark_self _ _ _)
          obtain ⟨nd, hnd⟩ : ∃ nd, kmark (needD f i c) p (x.kids.take q) = nd := ⟨_, rfl⟩
          rw [hnd] at KQ HST
          have HND := Lib.hid hnd
          have cz := KQ.out.cell z
          have cp := KQ.out.cell p
          rw [rowB_get (by omega)] at cz cp
          have fz := KQ.out.free z
          have ck2 : wr.cell? ⟨kb, kof + q, none⟩ = some (.int .i64 (z : Int)) := by rw [HQ.out.cell (p := ⟨kb, kof + q, none⟩) hkb]; exact ck
          clear hnd hz ck hkcell hkb g1
          cases hnz : nd z
          · rw [hnz] at cz
            have HZ := Lib.hid hnz
            clear hnz
            obtain ⟨bp, hbp⟩ : ∃ bp, nd p = bp := ⟨_, rfl⟩
            rw [hbp] at cp
            obtain ⟨w7, h7⟩ : ∃ w7, wr.setCell ⟨nb, z, none⟩ (.bool bp) = w7 := ⟨_, rfl⟩
            have KQ7 := Lib.hid (show BlockAt w7 nb (rowB (i + 1) (kmark (needD f i c) p (x.kids.take (q + 1)))) 4 from by
              rw [← HST.out, HZ.out, hbp, Bool.false_or, ← rowB_set, ← h7]
              exact KQ.out.set z _)
            have B7 := Lib.hid (show Below w.heap.size w w7 from by rw [← h7]; exact set_below HQ.out HNB.out)
            clear hbp
            go_wp2_with fail
            go_roundw
            case rel => exact ⟨q + 1, by omega, by go_num, KQ7, B7⟩
            case measure => first | (simp [intOf]; done) | (simp [intOf]; omega)
          · rw [hnz] at cz
            have HZ := Lib.hid hnz
            clear hnz
            obtain ⟨w7, h7⟩ : ∃ w7, wr.setCell ⟨nb, z, none⟩ (.bool true) = w7 := ⟨_, rfl⟩
            have KQ7 := Lib.hid (show BlockAt w7 nb (rowB (i + 1) (kmark (needD f i c) p (x.kids.take (q + 1)))) 4 from by
              rw [← HST.out, HZ.out, Bool.true_or, ← rowB_set, ← h7]
              exact KQ.out.set z _)
            have B7 := Lib.hid (show Below w.heap.size w w7 from by rw [← h7]; exact set_below HQ.out HNB.out)
            go_wp2_with fail
            go_roundw
            case rel => exact ⟨q + 1, by omega, by go_num, KQ7, B7⟩
            case measure => first | (simp [intOf]; done) | (simp [intOf]; omega)
        · have HQM := Lib.hid (show x.kids.take q = x.kids from List.take_of_length_le (by rw [HM.out]; omega))
          rw [HQM.out] at KQ
          have KN := Lib.hid (show BlockAt wr nb (rowB (i + 1) (needD f i (c + 1))) 4 from by
            show BlockAt wr nb (rowB (i + 1) (kmark (needD f i c) (i - c) (f (i - c)).kids)) 4
            rw [HP.out, HX.out]
            exact KQ.out)
          go_wp2_with fail
          go_roundw
          case rel => exact ⟨c + 1, p, by omega, by first | rfl | go_num, KN, HQ⟩
          case measure => first | (simp [intOf]; done) | (simp [intOf]; omega)
end Go.Proofs.YtleiaghegokjkaaGreatDoor
