/- Long division: the walk. -/
import Derived.Test.YtondjnmpfpfpmaaDoorNatLongMath
import Derived.Test.YtondjnmpfpfpmaaDoorNatShelf
namespace Go.Proofs.YtondjnmpfpfpmaaDoor
open Go.RowKit NM

/-- The divisor, shifted so that its highest limb is at least half of what a limb may be. -/
theorem shifted {ys zs : List Int} {m b : Nat} (cy : Canon ys) (hl : ys.length = m) (m1 : 1 ≤ m) (hb : b = 32 - Lib.bitLen (lb ys (m - 1)).toNat) (uz : U32s zs) (hz : zs.length = m + 1) (hv : val zs = val ys * 2 ^ b) :
    b ≤ 31 ∧ tl zs zs.length = m ∧ 2147483648 ≤ lb zs (m - 1) ∧ val (zs.take m) = val ys * 2 ^ b := by
  have hne : ys ≠ [] := by intro e; rw [e] at hl; simp at hl; omega
  have h0 := Ends_lb cy.e hne
  rw [hl] at h0
  obtain ⟨r0, r1⟩ := lb_range cy.u (m - 1)
  obtain ⟨b0, b1, b2, b3⟩ := bitLen_facts (x := lb ys (m - 1)) (by omega) r1
  obtain ⟨k, hk⟩ : ∃ k, Lib.bitLen (lb ys (m - 1)).toNat = k := ⟨_, rfl⟩
  rw [hk] at b0 b1 b2 b3 hb
  have hsp := val_split ys (m - 1) (by omega)
  have hdr := val_drop (xs := ys) (k := m - 1) (by omega)
  rw [List.drop_of_length_le (show ys.length ≤ m - 1 + 1 by omega)] at hdr
  simp only [val, Int.mul_zero, Int.add_zero] at hdr
  rw [hdr] at hsp
  have t0 := val_nonneg (U32s_take cy.u (m - 1))
  have t1 := val_lt (U32s_take cy.u (m - 1))
  rw [List.length_take, Nat.min_eq_left (by omega)] at t1
  have hp := pw_pos (m - 1)
  have hP := pow_pos2 b
  have e1 : (2 : Int) ^ k * 2 ^ b = 4294967296 := by rw [← Int.pow_add, show k + b = 32 by omega]; rfl
  have e2 : (2 : Int) ^ (k - 1) * 2 ^ b = 2147483648 := by rw [← Int.pow_add, show k - 1 + b = 31 by omega]; rfl
  have up : val ys * 2 ^ b < pw m := by
    have h1 : val ys < pw (m - 1) * 2 ^ k := by
      have : pw (m - 1) * (lb ys (m - 1) + 1) ≤ pw (m - 1) * 2 ^ k := Int.mul_le_mul_of_nonneg_left (by omega) (by omega)
      rw [Int.mul_add] at this
      omega
    have h2 := Int.mul_lt_mul_of_pos_right h1 hP
    rw [Int.mul_assoc, e1, ← pw_succ', show m - 1 + 1 = m by omega] at h2
    exact h2
  have lo : pw (m - 1) * 2147483648 ≤ val ys * 2 ^ b := by
    have h1 : pw (m - 1) * 2 ^ (k - 1) ≤ val ys := by
      have : pw (m - 1) * 2 ^ (k - 1) ≤ pw (m - 1) * lb ys (m - 1) := Int.mul_le_mul_of_nonneg_left b2 (by omega)
      omega
    have h2 := Int.mul_le_mul_of_nonneg_right h1 (show (0 : Int) ≤ 2 ^ b by omega)
    rw [Int.mul_assoc, e2] at h2
    exact h2
  rw [← hv] at up lo
  have hzm := lb_zero uz up
  have hlen : tl zs zs.length = m := by
    rw [hz, tl, if_pos (hzm m (Nat.le_refl _))]
    rw [show m = (m - 1) + 1 by omega, tl, if_neg]
    intro hz0
    have h1 := val_split zs (m - 1) (by omega)
    have h2 := val_drop (xs := zs) (k := m - 1) (by omega)
    have h3 := val_drop (xs := zs) (k := m) (by omega)
    rw [show m - 1 + 1 = m by omega] at h2
    rw [hzm m (Nat.le_refl _), List.drop_of_length_le (show zs.length ≤ m + 1 by omega)] at h3
    simp only [val, Int.mul_zero, Int.add_zero] at h3
    rw [h2, h3, hz0] at h1
    have h4 := val_lt (U32s_take uz (m - 1))
    rw [List.length_take, Nat.min_eq_left (by omega)] at h4
    omega
  have hvt : val (zs.take m) = val ys * 2 ^ b := by
    rw [← hv, ← hlen, tl_val zs _ (Nat.le_refl _), List.take_length]
  refine ⟨by omega, hlen, ?_, hvt⟩
  have h1 := val_step (xs := zs) (k := m - 1) (by omega)
  rw [show m - 1 + 1 = m by omega, hvt, ← hv] at h1
  have h4 := val_lt (U32s_take uz (m - 1))
  rw [List.length_take, Nat.min_eq_left (by omega)] at h4
  have h5 := le_of_mul hp (show pw (m - 1) * 2147483648 < pw (m - 1) * (lb zs (m - 1) + 1) by rw [Int.mul_add (pw (m - 1)) _ 1]; omega)
  omega

theorem guess_m (uo vo : Option Addr) (cu cv : Nat) (us vs : List Int) (m : Nat) (w : World) (ru : Row w uo us) (rv : Row w vo vs) (hp : Pair us vs (m - 2)) (m2 : 2 ≤ m) (hm : m ≤ 16) :
    Calls Tryd.prog 52 #[.slice uo (m + 1) cu, .slice vo m cv] w fun e w' => (∃ g, e = .returned (.int .u64 g) ∧ GuessOk us vs g) ∧ Below w.heap.size w w' := by
  have h := guess_any uo vo cu cv us vs (m - 2) w ru rv hp (by omega)
  rw [show m - 2 + 3 = m + 1 by omega, show m - 2 + 2 = m by omega] at h
  exact h

set_option maxHeartbeats 1600000 in
set_option maxRecDepth 100000 in
theorem long_any (v u : Value) (N M : Int) (w : World) (h1 : Num w v N) (h2 : Num w u M) (hge : M ≤ N) (hbig : 4294967296 ≤ M) :
    Calls Tryd.prog 43 #[v, u] w fun e w' => (∃ q r, e = .returned (.tuple #[q, r]) ∧ Num w' q (N / M) ∧ Num w' r (N % M)) ∧ Below w.heap.size w w' := by
  obtain ⟨xs, ⟨ao, ca, rfl, _, ra, ux, _⟩, rx, hvx⟩ := h1
  obtain ⟨ys, ⟨bo, cb, rfl, _, rb, uy, _⟩, ry, hvy⟩ := h2
  obtain ⟨cx, lx⟩ := rightB_canon ux rx
  obtain ⟨cy, ly⟩ := rightB_canon uy ry
  have hm2 : 2 ≤ ys.length := by
    have h := val_lt uy
    by_cases h2 : 2 ≤ ys.length
    · exact h2
    · have := pw_mono (show ys.length ≤ 1 by omega)
      have e : pw 1 = 4294967296 := rfl
      omega
  have hl : ys.length ≤ xs.length := by
    by_cases h : ys.length ≤ xs.length
    · exact h
    · have := val_lt_of_len ux cy (by omega)
      omega
  obtain ⟨n, hn⟩ : ∃ n, n = xs.length := ⟨_, rfl⟩
  obtain ⟨m, hm⟩ : ∃ m, m = ys.length := ⟨_, rfl⟩
  obtain ⟨b, off, rfl, hbs, hc⟩ := rb.cells (by omega)
  have hck := hc (m - 1) (by omega)
  have hne : ys ≠ [] := by intro e; rw [e] at hm2; simp at hm2
  have htop := Ends_lb cy.e hne
  obtain ⟨t0, t1⟩ := lb_range uy (m - 1)
  rw [← hm] at htop
  obtain ⟨l0, l1, _, _⟩ := bitLen_facts (x := lb ys (m - 1)) (by omega) t1
  obtain ⟨lz, hlz⟩ : ∃ lz : Nat, lz = 32 - Lib.bitLen (lb ys (m - 1)).toNat := ⟨_, rfl⟩
  have hLZ : ∀ w, Calls Tryd.prog 51 #[.int .u32 (lb ys (m - 1))] w fun e w' => e = .returned (.int .i64 (lz : Int)) ∧ w = w' := fun w =>
    (Tryd.bits_LeadingZeros32 (lb ys (m - 1)) w t0 (by omega)).mono fun e w' ⟨he, hw⟩ => ⟨by rw [he, hlz]; congr 2; omega, hw.symm⟩
  have HLZ := Lib.hid hLZ
  have Hlz := Lib.hid hlz
  have Hn := Lib.hid hn
  have Hm := Lib.hid hm
  have Hvx := Lib.hid hvx
  have Hvy := Lib.hid hvy
  have lz31 : lz ≤ 31 := by omega
  have Hc := Lib.hid hc
  rw [← hn] at lx hl ⊢
  rw [← hm] at ly hl hm2 ⊢
  clear hLZ hlz hn hm hvx hvy hc hbig hge rx ry htop hne
  go_enter Tryd.func43, Tryd.ntmps43
  go_wp2_with fail
  refine (HLZ.out _).mono ?_
  rintro e w' ⟨rfl, rfl⟩
  go_wp2_with fail
  have hU := up_any ao ca xs lz w ra ux (by rw [← Hn.out]; omega) lz31
  rw [← Hn.out] at hU
  have HU := Lib.hid hU
  clear hU
  refine HU.out.mono ?_
  rintro e w1 ⟨us, rfl, hus, uus, vus, rfl⟩
  have Hus := Lib.hid hus
  have Vus := Lib.hid vus
  clear hus vus HU
  have b1 : Below w.heap.size w (w.alloc (.cells (arr us) 59)) := (Below.refl _ _).alloc (Nat.le_refl _) _
  go_wp2_with fail
  have hV := up_any _ cb ys lz _ (rb.below b1) uy (by rw [← Hm.out]; omega) lz31
  rw [← Hm.out] at hV
  have HV := Lib.hid hV
  clear hV
  refine HV.out.mono ?_
  rintro e w2 ⟨zs, rfl, hzs, uzs, vzs, rfl⟩
  obtain ⟨_, sh1, sh2, sh3⟩ := shifted (m := m) (b := lz) cy (by rw [← Hm.out]) (by omega) Hlz.out uzs hzs vzs
  have Hzs := Lib.hid hzs
  have S3 := Lib.hid sh3
  have hrow2 := arr_row (w.alloc (.cells (arr us) 59)) zs 59
  have hT := trim_any _ (m + 1) zs _ hrow2 (by omega) (by omega)
  rw [sh1, hzs, show (w.alloc (.cells (arr us) 59)).heap.size = w.heap.size + 1 by simp] at hT
  have HT := Lib.hid hT
  clear hzs vzs HV hT sh1 sh3 hrow2
  have hmk : ∀ wx, (Instr.makeSlice 23 (.int .i64 ((n : Int) - (m : Int) + 1)) (.int .i64 ((n : Int) - (m : Int) + 1))).run Tryd.prog wx = .ok (.slice (some ⟨wx.heap.size, 0, none⟩) (n - m + 1) (n - m + 1)) (wx.alloc (.cells (arr (List.replicate (n - m + 1) 0)) 59)) := by
    have := make_nat (n - m + 1) (by omega)
    rw [show ((n - m + 1 : Nat) : Int) = (n : Int) - (m : Int) + 1 by omega] at this
    exact this
  go_wp2_with fail
  refine HT.out.mono ?_
  rintro e w3 ⟨rfl, rfl⟩
  obtain ⟨V, hVd⟩ : ∃ V, V = val (zs.take m) := ⟨_, rfl⟩
  have HVd := Lib.hid hVd
  clear hVd
  have hvl : (zs.take m).length = m := by rw [List.length_take, Hzs.out]; omega
  have Hvl := Lib.hid hvl
  clear hvl
  -- what holds at the loop's head at first
  have hA : Hid (val us < pw (n - m + 1) * V) := Lib.hid (by
    rw [HVd.out, S3.out, Vus.out]
    have hP := pow_pos2 lz
    have h1 := val_lt ux
    rw [← Hn.out] at h1
    have h2 := val_ge_of_last cy (by intro e; have := Hm.out; rw [e] at this; simp at this; omega)
    rw [← Hm.out] at h2
    have h3 : pw (n - m + 1) * pw (m - 1) ≤ pw (n - m + 1) * val ys := Int.mul_le_mul_of_nonneg_left h2 (by have := pw_pos (n - m + 1); omega)
    rw [← pw_add, show n - m + 1 + (m - 1) = n by omega] at h3
    have h4 := Int.mul_lt_mul_of_pos_right (show val xs < pw (n - m + 1) * val ys by omega) hP
    rw [Int.mul_assoc] at h4
    exact h4)
  have r0 : RowAt (((w.alloc (.cells (arr us) 59)).alloc (.cells (arr zs) 59)).alloc (.cells (arr (List.replicate (n - m + 1) 0)) 59)) w.heap.size us := ((RowAt.new w us).below ((Below.refl _ _).alloc (Nat.le_refl _) _)).below ((Below.refl _ _).alloc (Nat.le_refl _) _)
  have r1 : RowAt (((w.alloc (.cells (arr us) 59)).alloc (.cells (arr zs) 59)).alloc (.cells (arr (List.replicate (n - m + 1) 0)) 59)) (w.heap.size + 1) zs := by
    have := (RowAt.new (w.alloc (.cells (arr us) 59)) zs).below ((Below.refl _ _).alloc (Nat.le_refl _) (.cells (arr (List.replicate (n - m + 1) 0)) 59))
    simpa using this
  have r2 : RowAt (((w.alloc (.cells (arr us) 59)).alloc (.cells (arr zs) 59)).alloc (.cells (arr (List.replicate (n - m + 1) 0)) 59)) (w.heap.size + 1 + 1) (List.replicate (n - m + 1) 0) := by
    have := RowAt.new ((w.alloc (.cells (arr us) 59)).alloc (.cells (arr zs) 59)) (List.replicate (n - m + 1) 0)
    simpa using this
  have bl0 : Below w.heap.size w (((w.alloc (.cells (arr us) 59)).alloc (.cells (arr zs) 59)).alloc (.cells (arr (List.replicate (n - m + 1) 0)) 59)) := (b1.alloc b1.size _).alloc (b1.alloc b1.size _).size _
  have R0 := Lib.hid r0
  have R1 := Lib.hid r1
  have R2 := Lib.hid r2
  have BL := Lib.hid bl0
  clear r0 r1 r2 bl0 b1
  go_wp2_with fail
  go_loopw [10, 11] (fun i _ wr => ∃ k : Nat, ∃ uz qs : List Int, k ≤ n - m + 1 ∧ i = .int .i64 ((k : Int) - 1) ∧ uz.length = n + 1 ∧ qs.length = n - m + 1 ∧ U32s uz ∧ U32s qs ∧ Hid (val uz < pw k * V) ∧ Hid (val us = val uz + pw k * (V * val (qs.drop k))) ∧ Hid (RowAt wr w.heap.size uz) ∧ Hid (RowAt wr (w.heap.size + 1) zs) ∧ Hid (RowAt wr (w.heap.size + 1 + 1) qs) ∧ Hid (Below w.heap.size w wr)) (fun i _ _ => (intOf i + 1).toNat)
  case atStart => exact ⟨n - m + 1, us, List.replicate (n - m + 1) 0, Nat.le_refl _, by congr 1; omega, Hus.out, by simp, uus, U32s_replicate _, hA, Lib.hid (by rw [List.drop_of_length_le (by simp)]; simp [val]), R0, R1, R2, BL⟩
  case round =>
    obtain ⟨k, uz, qs, hk, rfl, hul, hql, uuz, uqs, hlt, heq, q0, q1, q2, qb⟩ := hrel
    rename_i wr
    cases k with
    | zero =>
      have hP := pow_pos2 lz
      have e1 : val us = val uz + V * val qs := by have := heq.out; simpa [pw] using this
      have l0 := val_nonneg uuz
      have l1 : val uz < V := by have := hlt.out; simpa [pw] using this
      have hVM : V = M * 2 ^ lz := by rw [HVd.out, S3.out, Hvy.out]
      have hUN : val us = N * 2 ^ lz := by rw [Vus.out, Hvx.out]
      have V0 : 0 < V := by omega
      have hq : val qs = N / M := by
        have h1 : val us / V = val qs := by rw [e1, Int.add_mul_ediv_left _ _ (by omega), Int.ediv_eq_zero_of_lt l0 l1, Int.zero_add]
        rw [← h1, hUN, hVM, Int.mul_ediv_mul_of_pos_left _ _ hP]
      have hr : val uz / 2 ^ lz = N % M := by
        have h1 : val us % V = val uz := by rw [e1, Int.add_mul_emod_self_left, Int.emod_eq_of_lt l0 l1]
        rw [← h1, hUN, hVM, Int.mul_comm N, Int.mul_comm M, Int.mul_emod_mul_of_pos _ _ hP, Int.mul_ediv_cancel_left _ (by omega)]
      have M0 : 0 < M := by
        rcases Int.lt_or_le 0 M with h | h
        · exact h
        · have : M * 2 ^ lz ≤ 0 := Int.mul_nonpos_of_nonpos_of_nonneg h (by omega)
          omega
      have hsm : val uz / 2 ^ lz < pw 16 := by
        rw [hr]
        have h1 := Int.emod_lt_of_pos N M0
        have h2 := val_lt uy
        rw [← Hm.out, Hvy.out] at h2
        have := pw_mono ly
        omega
      have rq : Row wr (some ⟨w.heap.size + 1 + 1, 0, none⟩) qs := by have := q2.out.row 0; simpa using this
      have ru : Row wr (some ⟨w.heap.size, 0, none⟩) uz := by have := q0.out.row 0; simpa using this
      have hnum := trimmed_num rq uqs (cap := n - m + 1) (by omega) (by have := tl_le qs qs.length; omega)
      rw [hq, hql] at hnum
      have Hnum := Lib.hid hnum
      have hT := trim_any _ (n - m + 1) qs wr rq (by omega) (by omega)
      rw [hql] at hT
      have HT' := Lib.hid hT
      have hD := down_any _ (n + 1) uz lz wr ru uuz (by omega) lz31 hsm
      rw [hul, hr] at hD
      have HD := Lib.hid hD
      have QB := qb
      clear hnum hT hD hsm M0 hr hq hVM hUN e1 l1 V0 l0 hP rq ru
      go_wp2_with fail
      refine HT'.out.mono ?_
      rintro e w4 ⟨rfl, rfl⟩
      go_wp2_with fail
      refine HD.out.mono ?_
      rintro e w5 ⟨⟨r, rfl, hr⟩, hb5⟩
      have Hr := Lib.hid hr
      have Hnum2 := Lib.hid (Hnum.out.below hb5)
      have Hb5 := Lib.hid (QB.out.trans (hb5.mono QB.out.size))
      clear hr hb5
      go_wp2_with fail
      go_ret2
      exact ⟨⟨_, r, rfl, Hnum2.out, Hr.out⟩, Hb5.out⟩
    | succ j =>
      have e1 : ((j + 1 : Nat) : Int) - 1 = j := by omega
      rw [e1]
      clear e1
      have hR : Rnd uz (zs.take m) j m := ⟨uuz, U32s_take uzs m, Hvl.out, hm2, by omega, by rw [lb_take (by omega)]; exact sh2, by rw [← HVd.out]; exact hlt.out⟩
      have HR := Lib.hid hR
      have rowu : Row wr (some ⟨w.heap.size, j, none⟩) (seg uz j m) := (q0.out.row j).take (m + 1)
      have rowv : Row wr (some ⟨w.heap.size + 1, 0, none⟩) (zs.take m) := by have := (q1.out.row 0).take m; simpa using this
      have hG := guess_m (some ⟨w.heap.size, j, none⟩) (some ⟨w.heap.size + 1, 0, none⟩) (n + 1 - j) (m + 1) (seg uz j m) (zs.take m) m wr rowu rowv hR.pair hm2 ly
      have HG := Lib.hid hG
      have ej : j + m + 1 - j = m + 1 := by omega
      clear hG hR rowu
      go_wp2_with fail
      refine HG.out.mono ?_
      rintro e wg ⟨⟨g, rfl, hg⟩, hbg⟩
      obtain ⟨g0, g1, -, -⟩ := id hg
      have Hg := Lib.hid hg
      have q0' := Lib.hid (q0.out.below hbg)
      have q1' := Lib.hid (q1.out.below hbg)
      have q2' := Lib.hid (q2.out.below hbg)
      have qb' := Lib.hid (qb.out.trans (hbg.mono qb.out.size))
      have hT2 := take_any w.heap.size j (n + 1 - j) (m + 1) (some ⟨w.heap.size + 1, 0, none⟩) uz (zs.take m) m g wg q0'.out (rowv.below hbg) (by intro b o h; simp at h; omega) uuz (U32s_take uzs m) Hvl.out (by omega) (by omega) (by omega) g0 g1
      have HT2 := Lib.hid hT2
      clear hT2 hg q0 q1 q2 qb HG rowv hbg
      go_wp2_with fail
      refine HT2.out.mono ?_
      rintro e wt ⟨bo, u1, rfl, ht, row1, only1⟩
      have hne1 : w.heap.size + 1 ≠ w.heap.size := by omega
      have hne2 : w.heap.size + 1 + 1 ≠ w.heap.size := by omega
      have p1 := Lib.hid (q1'.out.other only1 hne1)
      have p2 := Lib.hid (q2'.out.other only1 hne2)
      have pb := Lib.hid (qb'.out.trans (only1.below (Nat.le_refl _) qb'.out.size))
      have Row1 := Lib.hid row1
      have cases2 := HR.out.took Hg.out ht
      have hnext := fun X hX => HR.out.next (X := X) hX
      have Hnx := Lib.hid hnext
      have Htk := Lib.hid ht
      clear q0' q1' q2' qb' HT2 row1 only1 hnext ht
      obtain ⟨Q, hQ⟩ : ∃ Q, val (seg uz j m) / val (zs.take m) = Q := ⟨_, rfl⟩
      have HQ := Lib.hid hQ
      rw [hQ] at cases2
      clear hQ
      -- what holds at the next head
      have fin : ∀ u2 : List Int, val u2 = val uz - pw j * (Q * val (zs.take m)) → 0 ≤ Q ∧ Q < 4294967296 ∧ val u2 < pw j * V ∧ val us = val u2 + pw j * (V * val ((qs.set j Q).drop j)) := by
        intro u2 h2
        have h3 := Hnx.out (val u2) (by rw [HQ.out]; exact h2)
        rw [HQ.out] at h3
        refine ⟨h3.2.1, h3.2.2, by rw [HVd.out]; exact h3.1, ?_⟩
        rw [heq.out, h2, drop_set _ (by omega), val, HVd.out, pw_succ', Int.mul_add (val (zs.take m)), Int.mul_add (pw j)]
        have e2 : pw j * 4294967296 * (val (zs.take m) * val (qs.drop (j + 1))) = pw j * (val (zs.take m) * (4294967296 * val (qs.drop (j + 1)))) := by ac_rfl
        have e3 : pw j * (val (zs.take m) * Q) = pw j * (Q * val (zs.take m)) := by ac_rfl
        rw [e2, e3]
        omega
      have Fin := Lib.hid fin
      clear fin
      rcases cases2 with ⟨rfl, rfl, hval⟩ | ⟨rfl, rfl, hval⟩
      · have hF := Fin.out u1 hval
        obtain ⟨f0, f1, f2, f3⟩ := hF
        have F2 := Lib.hid f2
        have F3 := Lib.hid f3
        have ck := p2.out.cell (k := j) (by omega)
        have fk := p2.out.free j
        have Hval := Lib.hid hval
        clear f2 f3 hval ej
        go_wp2_with fail
        go_roundw
        case rel =>
          refine ⟨j, u1, qs.set j g, by omega, rfl, ?_, by simpa using hql, Htk.out.2.1, U32s_set uqs _ f0 f1, F2, F3, ?_, ?_, ?_, ?_⟩
          · rw [Htk.out.1]; exact hul
          · exact Lib.hid (Row1.out.other ((OnlyB.refl _ _).set _ _) (by omega))
          · exact Lib.hid (p1.out.other ((OnlyB.refl _ _).set _ _) (by omega))
          · exact Lib.hid (p2.out.set _ _)
          · exact Lib.hid (pb.out.setCell (by simp; omega) _)
        case measure => simp [intOf]
      · have hF := fun u2 h => Fin.out u2 h
        have Hval := Lib.hid hval
        have hgv := give_any w.heap.size j (n + 1 - j) (m + 1) (some ⟨w.heap.size + 1, 0, none⟩) u1 (zs.take m) m wt Row1.out (by have := (p1.out.row 0).take m; simpa using this) (by intro b o h; simp at h; omega) Htk.out.2.1 (U32s_take uzs m) Hvl.out (by omega) (by rw [Htk.out.1]; omega) (by rw [Htk.out.1]; omega)
        have HGV := Lib.hid hgv
        have HF := Lib.hid hF
        have hQ0 : 0 ≤ Q ∧ Q < 4294967296 := by
          have h3 := Hnx.out _ rfl
          rw [HQ.out] at h3
          exact h3.2
        obtain ⟨qq0, qq1⟩ := hQ0
        have eg : Q + 1 - 1 = Q := by omega
        clear hF hval hgv
        go_wp2_with fail
        refine HGV.out.mono ?_
        rintro e wz ⟨co, u2, rfl, hgive, row2, only2⟩
        have p1' := Lib.hid (p1.out.other only2 hne1)
        have p2' := Lib.hid (p2.out.other only2 hne2)
        have pb' := Lib.hid (pb.out.trans (only2.below (Nat.le_refl _) pb.out.size))
        have Row2 := Lib.hid row2
        have Hgive := Lib.hid hgive
        obtain ⟨f0, f1, f2, f3⟩ := HF.out u2 (Hval.out co u2 hgive)
        have F2 := Lib.hid f2
        have F3 := Lib.hid f3
        have ck := p2'.out.cell (k := j) (by omega)
        have fk := p2'.out.free j
        clear f2 f3 row2 only2 hgive ej eg p1 p2 pb HGV
        go_wp2_with fail
        go_roundw
        case rel =>
          refine ⟨j, u2, qs.set j Q, by omega, rfl, ?_, by simpa using hql, Hgive.out.2.1, U32s_set uqs _ f0 f1, F2, F3, ?_, ?_, ?_, ?_⟩
          · rw [Hgive.out.1, Htk.out.1]; exact hul
          · exact Lib.hid (Row2.out.other ((OnlyB.refl _ _).set _ _) (by omega))
          · exact Lib.hid (p1'.out.other ((OnlyB.refl _ _).set _ _) (by omega))
          · exact Lib.hid (p2'.out.set _ _)
          · exact Lib.hid (pb'.out.setCell (by simp; omega) _)
        case measure => simp [intOf]
end Go.Proofs.YtondjnmpfpfpmaaDoor
