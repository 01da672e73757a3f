import Derived.Test.YtkmnfkhchcoamaaGreatDoorTypPN
import Derived.Deep.DeepCutAuto
/- The program's iface. -/
namespace Go.Proofs.YtkmnfkhchcoamaaGreatDoor
open Go.RowKit
set_option linter.unusedSimpArgs false
set_option linter.unusedVariables false

section
variable {l : List Ty} {n k X : Int} {w : ByteArray} {a : Option (ByteArray × Int)}
theorem el_two (h : 2 ≤ n) : elemB l n a w k = elemB l 2 a w k := by
  unfold elemB
  have : decide (2 ≤ n ∧ kindAt l k ≠ 7 ∧ kindAt l k ≠ 9 ∧ ¬ (14 ≤ k ∧ k ≤ 19)) = decide ((2 : Int) ≤ 2 ∧ kindAt l k ≠ 7 ∧ kindAt l k ≠ 9 ∧ ¬ (14 ≤ k ∧ k ≤ 19)) := by
    rw [decide_eq_decide]
    constructor
    · rintro ⟨_, h2⟩; exact ⟨by omega, h2⟩
    · rintro ⟨_, h2⟩; exact ⟨h, h2⟩
  rw [this]
theorem el_plain (h : markB w = false) : elemB l n a w k = elemB l 2 a w k := by
  unfold elemB
  rw [if_neg (by rw [h]; decide), if_neg (by rw [h]; decide)]
theorem el_few (hm : markB w = true) (h : n < 2) : elemB l n a w k = false := by
  unfold elemB
  rw [if_pos hm, decide_eq_false (by omega)]
  rfl
theorem em_after {v : ByteArray} {j : Int} (hm : markB w = false) (hv : markB v = true) : elemB l n (some (v, j)) w k = false := by
  unfold elemB
  rw [if_neg (by rw [hm]; decide)]
  show (nameB w && decide (kindAt l k = 5) && (!markB v && Op.bytesLess v.toList w.toList)) = false
  rw [hv]
  simp
theorem term_eq (hX : kindAt l k = X) : termB l k = decide (¬ (X = 7 ∨ X = 9 ∨ (14 ≤ k ∧ k ≤ 19))) := by
  unfold termB
  rw [hX, decide_eq_decide]
  omega
end
theorem firstT_spec (ws : List ByteArray) : ∃ T, T ≤ ws.length ∧ (∀ j, j < T → markB (ws.getD j ⟨#[]⟩) = false) ∧ (T < ws.length → markB (ws.getD T ⟨#[]⟩) = true ∧ firstT markB ws = (T : Int)) ∧ (T = ws.length → firstT markB ws = -1) := by
  unfold firstT
  cases h : ws.findIdx? markB with
  | none =>
    rw [List.findIdx?_eq_none_iff] at h
    exact ⟨ws.length, Nat.le_refl _, fun j hj => h _ (getD_memS hj), fun g => absurd g (Nat.lt_irrefl _), fun _ => rfl⟩
  | some i =>
    rw [List.findIdx?_eq_some_iff_getElem] at h
    obtain ⟨hi, hp, hno⟩ := h
    refine ⟨i, Nat.le_of_lt hi, fun j hj => ?_, fun _ => ⟨by rw [getD_of hi]; exact hp, rfl⟩, fun g => by omega⟩
    have := hno j hj
    rw [getD_of (by omega)]
    simpa using this
/-- elemsB by the parts. -/
theorem elems_parts {l : List Ty} {n : Int} {ws : List ByteArray} {ks : List Int} (h : ∀ j, j < ws.length → elemB l 2 (aheadOf ws ks j) (ws.getD j ⟨#[]⟩) (ks.getD j 0) = true) (hn : 2 ≤ n ∨ ∀ j, j < ws.length → markB (ws.getD j ⟨#[]⟩) = false) : elemsB l n ws ks = true :=
  elemsB_yes fun j hj => by
    rcases hn with hn | hn
    · rw [el_two hn]; exact h j hj
    · rw [el_plain (hn j hj)]; exact h j hj
theorem elems_bad {l : List Ty} {n : Int} {ws : List ByteArray} {ks : List Int} {k : Nat} (hk : k < ws.length) (h : elemB l 2 (aheadOf ws ks k) (ws.getD k ⟨#[]⟩) (ks.getD k 0) = false) : elemsB l n ws ks = false := by
  refine elemsB_no hk ?_
  by_cases hn : 2 ≤ n
  · rw [el_two hn]; exact h
  · cases hm : markB (ws.getD k ⟨#[]⟩)
    · rw [el_plain hm]; exact h
    · exact el_few hm (by omega)
theorem less_tri : ∀ x y : List UInt8, Op.bytesLess y x = !(Op.bytesLess x y || x == y)
  | [], [] => rfl
  | [], b :: y => rfl
  | a :: x, [] => rfl
  | a :: x, b :: y => by
    have ih := less_tri x y
    show (decide (b < a) || (b == a && Op.bytesLess y x)) = !((decide (a < b) || (a == b && Op.bytesLess x y)) || ((a == b) && x == y))
    rw [ih]
    rcases Nat.lt_trichotomy a.toNat b.toNat with h | h | h
    · have h1 : decide (a < b) = true := decide_eq_true (UInt8.lt_iff_toNat_lt.2 h)
      have h2 : decide (b < a) = false := decide_eq_false (fun g => by have := UInt8.lt_iff_toNat_lt.1 g; omega)
      have h3 : (b == a) = false := by rw [beq_eq_false_iff_ne]; rintro rfl; omega
      rw [h1, h2, h3]; rfl
    · obtain rfl : a = b := UInt8.toNat_inj.1 h
      have h2 : decide (a < a) = false := decide_eq_false (fun g => by have := UInt8.lt_iff_toNat_lt.1 g; omega)
      rw [h2, beq_self_eq_true]; simp
    · have h1 : decide (b < a) = true := decide_eq_true (UInt8.lt_iff_toNat_lt.2 h)
      have h2 : decide (a < b) = false := decide_eq_false (fun g => by have := UInt8.lt_iff_toNat_lt.1 g; omega)
      have h3 : (a == b) = false := by rw [beq_eq_false_iff_ne]; rintro rfl; omega
      rw [h1, h2, h3]; rfl
set_option maxHeartbeats 16000000 in
set_option maxRecDepth 100000 in
theorem iface_any (l : List Ty) (ao : Option Addr) (ac : Nat) (t : Ty) (wo ko : Option Addr) (wq kq : Nat) (w : World) (hl : ARow w ao l) (ht : TyC w wo ko t) (ll : l.length ≤ 1000) (hin : ∀ k ∈ t.kids, 0 ≤ k ∧ k < (l.length : Int)) :
    Calls Tryz.prog 81 #[.slice ao l.length ac, tyV t wo wq ko kq] w fun e w' => e = .returned (.bool (decide (t.name.size = 0 ∧ 0 ≤ t.n ∧ t.n ≤ 3 ∧ t.kids.length ≤ 16 ∧ t.words.length = t.kids.length) && elemsB l t.n t.words t.kids)) ∧ Below w.heap.size w w' := by
  obtain ⟨r, hr⟩ : ∃ r, (decide (t.name.size = 0 ∧ 0 ≤ t.n ∧ t.n ≤ 3 ∧ t.kids.length ≤ 16 ∧ t.words.length = t.kids.length) && elemsB l t.n t.words t.kids) = r := ⟨_, rfl⟩
  rw [hr]
  have HR := Lib.hid hr
  clear hr
  unfold tyV
  obtain ⟨n, hn⟩ : ∃ n, t.words.length = n := ⟨_, rfl⟩
  obtain ⟨m, hm⟩ : ∃ m, t.kids.length = m := ⟨_, rfl⟩
  obtain ⟨L, hL⟩ : ∃ L, l.length = L := ⟨_, rfl⟩
  obtain ⟨c, hcn⟩ : ∃ c, t.n = c := ⟨_, rfl⟩
  obtain ⟨s, hs⟩ : ∃ s, t.name = s := ⟨_, rfl⟩
  have HN := Lib.hid hn
  have HM := Lib.hid hm
  have HL := Lib.hid hL
  have HCN := Lib.hid hcn
  have l1 := ht.ok.wl
  have l2 := ht.ok.kl
  rw [hn] at l1 ⊢
  rw [hm] at l2 ⊢
  rw [hL] at ll ⊢
  rw [hcn, hs]
  rw [hn, hm, hcn, hs] at HR
  have HT := Lib.hid ht
  have HA := Lib.hid hl
  have HI := Lib.hid hin
  clear hn hm ht hl hin hL hcn hs
  by_cases c0 : s.size = 0
  case neg =>
    have Hn := Lib.hid (show false = r by rw [← HR.out, decide_eq_false (fun g => c0 g.1)]; rfl)
    have he := list_ne (s := s) (by omega)
    have he2 := empty_false (s := s) (by omega)
    clear c0
    go_enter Tryz.func81, Tryz.ntmps81
    go_wp2_with fail
    go_ret
    exact ⟨ret_bool Hn.out, (Below.refl _ _).alloc (Nat.le_refl _) _⟩
  have he : s.toList = [] := by rw [ByteArray.toList_eq, eq_nil_of_size c0]
  by_cases c1 : c < 0
  · have Hn := Lib.hid (show false = r by rw [← HR.out, decide_eq_false (by omega)]; rfl)
    go_enter Tryz.func81, Tryz.ntmps81
    go_wp2_with fail
    go_ret
    exact ⟨ret_bool Hn.out, (Below.refl _ _).alloc (Nat.le_refl _) _⟩
  by_cases c2 : 3 < c
  · have Hn := Lib.hid (show false = r by rw [← HR.out, decide_eq_false (by omega)]; rfl)
    go_enter Tryz.func81, Tryz.ntmps81
    go_wp2_with fail
    go_ret
    exact ⟨ret_bool Hn.out, (Below.refl _ _).alloc (Nat.le_refl _) _⟩
  by_cases c3 : m ≤ 16
  case neg =>
    have Hn := Lib.hid (show false = r by rw [← HR.out, decide_eq_false (by omega)]; rfl)
    have hq : decide (16 < m) = true := decide_eq_true (by omega)
    go_enter Tryz.func81, Tryz.ntmps81
    go_wp2_with fail
    go_ret
    exact ⟨ret_bool Hn.out, (Below.refl _ _).alloc (Nat.le_refl _) _⟩
  by_cases c4 : n = m
  case neg =>
    have Hn := Lib.hid (show false = r by rw [← HR.out, decide_eq_false (by omega)]; rfl)
    have hq : ((n : Int) != (m : Int)) = true := by rw [bne_iff_ne]; omega
    have hq2 : ((n : Int) == (m : Int)) = false := by rw [beq_eq_false_iff_ne]; omega
    go_enter Tryz.func81, Tryz.ntmps81
    go_wp2_with fail
    go_ret
    exact ⟨ret_bool Hn.out, (Below.refl _ _).alloc (Nat.le_refl _) _⟩
  subst c4
  have HR2 := Lib.hid (show elemsB l c t.words t.kids = r by rw [← HR.out, decide_eq_true (by omega), Bool.true_and])
  obtain ⟨T, t1, t2, t3, t4⟩ := firstT_spec t.words
  rw [HN.out] at t1 t3 t4
  have HT2 := Lib.hid t2
  have HT3 := Lib.hid t3
  have HT4 := Lib.hid t4
  obtain ⟨w1, h1⟩ : ∃ w1, w.alloc (.cells #[.int .i64 t.kind, .string s, .int .i64 c, .slice wo n wq, .slice ko n kq] 38) = w1 := ⟨_, rfl⟩
  obtain ⟨k1, q1, z1⟩ := box_new h1
  have BW := Lib.hid q1
  have K1 := Lib.hid k1
  obtain ⟨x0, x1, x2, x3, x4⟩ := cell5 k1
  have HIX := indexMark_any wo wq t.words w1 (HT.out.words.below q1) (by rw [HN.out]; omega)
  rw [HN.out] at HIX
  obtain ⟨fz, hfz⟩ : ∃ z, firstT markB t.words = z := ⟨_, rfl⟩
  rw [hfz] at HIX
  have HIX := Lib.hid HIX
  have HFZ := Lib.hid hfz
  have hfz0 : -1 ≤ fz ∧ fz ≤ n := by
    rcases Nat.lt_or_eq_of_le t1 with h | h
    · have := (t3 h).2; omega
    · have := t4 h; omega
  clear k1 q1 z1 HR t2 t3 t4 hfz
  have hd16 : decide (16 < n) = false := decide_eq_false (by omega)
  have hd16i : decide ((16 : Int) < (n : Int)) = false := decide_eq_false (by omega)
  go_enter Tryz.func81, Tryz.ntmps81
  go_upto_if 40 with (go_at_call 99; refine HIX.out.mono ?_; rintro e w' ⟨rfl, rfl⟩)
  clear h1
  go_cut [5] (fun v5 wx => v5 = .int .i64 T ∧ wx = w1)
  case first =>
    go_wp2_with fail
    · go_meet
      case rel =>
        refine ⟨?_, rfl⟩
        have h1 : fz < 0 := by assumption
        have h2 : T = n := by
          rcases Nat.lt_or_eq_of_le t1 with h | h
          · have := (HT3.out h).2
            rw [HFZ.out] at this
            omega
          · exact h
        rw [h2]
    · go_meet
      case rel =>
        refine ⟨?_, rfl⟩
        have h2 : fz = (T : Int) := by
          rcases Nat.lt_or_eq_of_le t1 with h | h
          · have := (HT3.out h).2
            rw [HFZ.out] at this
            exact this
          · have := HT4.out h
            rw [HFZ.out] at this
            omega
        rw [h2]
  case rest =>
    obtain ⟨rfl, rfl⟩ := hcut
    clear x0 x1 x2 x3 x4 HIX HFZ hfz0 HT4
    go_wp2_with fail
    go_loopw [45] (fun i wr => ∃ k : Nat, k ≤ T ∧ i = .int .i64 k ∧ Hid (∀ j, j < k → elemB l 2 (aheadOf t.words t.kids j) (t.words.getD j ⟨#[]⟩) (t.kids.getD j 0) = true) ∧ Hid (Below wc.heap.size wc wr)) (fun i _ => T - (intOf i).toNat)
    case atStart => exact ⟨0, Nat.zero_le _, rfl, Lib.hid (fun j hj => absurd hj (Nat.not_lt_zero _)), Lib.hid (Below.refl _ _)⟩
    case round =>
      obtain ⟨k, hk, rfl, Hall, HB⟩ := hrel
      have BB := Lib.hid (BW.out.trans (HB.out.mono BW.out.size))
      by_cases hkT : k < T
      · have hkl : k < n := by omega
        obtain ⟨b, o, rfl, hb, hc⟩ := (HT.out.words.below BB.out).cells (by rw [HN.out]; omega)
        obtain ⟨kb, kof, rfl, hkb, hkc⟩ := (HT.out.kids.below BB.out).cells (by rw [HM.out]; omega)
        have HC := Lib.hid hc
        have HKC := Lib.hid hkc
        have cx := hc k (by rw [HN.out]; exact hkl)
        have ck := hkc k (by rw [HM.out]; exact hkl)
        obtain ⟨g1, g2⟩ := HI.out _ (getD_mem (show k < t.kids.length by rw [HM.out]; exact hkl))
        rw [HL.out] at g2
        have hsz := HT.out.ok.ws _ (getD_memS (show k < t.words.length by rw [HN.out]; exact hkl))
        obtain ⟨u, hu⟩ : ∃ u, t.words.getD k ⟨#[]⟩ = u := ⟨_, rfl⟩
        obtain ⟨z, hz⟩ : ∃ z : Nat, t.kids.getD k 0 = (z : Int) := ⟨(t.kids.getD k 0).toNat, by omega⟩
        have HU := Lib.hid hu
        have HZ := Lib.hid hz
        rw [hu] at cx hsz
        rw [hz] at ck g2
        have hzl : z < L := by omega
        obtain ⟨ab, aof, rfl, hab, hac⟩ := (HA.out.below BB.out).cells (by rw [HL.out]; omega)
        obtain ⟨_, _, _, _, ca, -⟩ := hac z (by rw [HL.out]; exact hzl)
        obtain ⟨X, hX⟩ : ∃ X, (l[z]'(by rw [HL.out]; exact hzl)).kind = X := ⟨_, rfl⟩
        rw [hX] at ca
        have HX := Lib.hid (show kindAt l (z : Int) = X by rw [kindAt_eq (by rw [HL.out]; exact hzl)]; exact hX)
        have HAW := Lib.hid (HA.out.below BB.out)
        have TF : elemB l 2 (aheadOf t.words t.kids k) u (z : Int) = false → false = r := fun h => by
          rw [← HR2.out]
          exact (elems_bad (k := k) (by rw [HN.out]; exact hkl) (by rw [HU.out, HZ.out]; exact h)).symm
        have TT : elemB l 2 (aheadOf t.words t.kids k) u (z : Int) = true → ∀ j, j < k + 1 → elemB l 2 (aheadOf t.words t.kids j) (t.words.getD j ⟨#[]⟩) (t.kids.getD j 0) = true := fun h j hj => by
          rcases Nat.lt_or_eq_of_le (Nat.le_of_lt_succ hj) with h1 | h1
          · exact Hall.out j h1
          · subst h1; rw [HU.out, HZ.out]; exact h
        have TF := Lib.hid TF
        have TT := Lib.hid TT
        obtain ⟨-, -, x2, x3, x4⟩ := cell5 (K1.out.below HB.out)
        clear hu hz hc hkc hb hkb hab hac hX g1
        have MK := Lib.hid (show markB u = false from by rw [← HU.out]; exact HT2.out k hkT)
        have HNQ0 : ∀ W, Calls Tryz.prog 39 #[.string u] W fun e w' => e = .returned (.bool (nameB u)) ∧ w' = W := fun W => (name_any u W (by omega)).mono fun _ _ h => ⟨h.1, h.2.symm⟩
        have HNQ := Lib.hid HNQ0
        clear HNQ0
        cases hnb : nameB u <;> rw [hnb] at HNQ <;> have NB := Lib.hid hnb <;> clear hnb
        · have Hn := Lib.hid (TF.out (em_name MK.out NB.out))
          go_wp2_with fail
          go_quiet (first | (go_at_call 39; exact Calls.quiet_of_same (HNQ.out _)) | (go_at_call 101; exact Calls.quiet_of_same (HTQ.out _)))
          rename_i nq
          go_wp2_with fail
          go_ret
          exact ⟨ret_bool Hn.out, below_drewN BB.out nq⟩
        · by_cases hX5 : X = 5
          case neg =>
            have hq : (X == 5) = false := by rw [beq_eq_false_iff_ne]; exact hX5
            have hq2 : (X != 5) = true := by rw [bne, hq]; rfl
            have Hn := Lib.hid (TF.out (em_kind MK.out HX.out hX5))
            go_wp2_with fail
            go_quiet (first | (go_at_call 39; exact Calls.quiet_of_same (HNQ.out _)) | (go_at_call 101; exact Calls.quiet_of_same (HTQ.out _)))
            rename_i nq
            go_wp2_with fail
            go_ret
            exact ⟨ret_bool Hn.out, below_drewN BB.out nq⟩
          subst hX5
          by_cases h0 : k = 0
          · subst h0
            rw [Nat.add_zero] at cx ck
            have Hx := Lib.hid (TT.out (em_none MK.out NB.out HX.out rfl))
            go_wp2_with fail
            go_quiet (first | (go_at_call 39; exact Calls.quiet_of_same (HNQ.out _)) | (go_at_call 101; exact Calls.quiet_of_same (HTQ.out _)))
            rename_i nq
            go_wp2_with fail
            go_roundw
            case rel => exact ⟨0 + 1, by omega, by go_num, Hx, Lib.hid (below_drewN HB.out nq)⟩
            case measure => first | (simp [intOf]; done) | (simp [intOf]; omega)
          · obtain ⟨p, rfl⟩ : ∃ p, k = p + 1 := ⟨k - 1, by omega⟩
            have cy := HC.out p (by rw [HN.out]; omega)
            have cj := HKC.out p (by rw [HM.out]; omega)
            have hnum := HT.out.ok.ks _ (getD_mem (show p < t.kids.length by rw [HM.out]; omega))
            have hAh := ahead_succ (ws := t.words) (ks := t.kids) (p := p)
            obtain ⟨v, hv⟩ : ∃ v, t.words.getD p ⟨#[]⟩ = v := ⟨_, rfl⟩
            obtain ⟨j, hj⟩ : ∃ j, t.kids.getD p 0 = j := ⟨_, rfl⟩
            have HVE := Lib.hid hv
            rw [hv] at cy hAh
            rw [hj] at cj hAh hnum
            have HAh := Lib.hid hAh
            clear hv hj hAh
            have hpos : (0 : Int) < (p : Int) + 1 := by omega
            have hsub : (p : Int) + 1 - 1 = (p : Int) := by omega
            have hsubw : IntKind.i64.wrap ((p : Int) + 1 - 1) = (p : Int) := by rw [hsub]; exact IntWalk.i64_in _ (by omega)
            have MV := Lib.hid (show markB v = false from by rw [← HVE.out]; exact HT2.out p (by omega))
            have htri := Lib.hid (less_tri u.toList v.toList)
            cases hls : Op.bytesLess u.toList v.toList
            · have LS := Lib.hid hls
              cases heq : (u.toList == v.toList)
              · have EQ := Lib.hid heq
                have Hx := Lib.hid (TT.out (by rw [HAh.out, em_some MK.out NB.out HX.out rfl, MV.out, htri.out, LS.out, EQ.out]; rfl))
                go_wp2_with fail
                go_quiet (first | (go_at_call 39; exact Calls.quiet_of_same (HNQ.out _)) | (go_at_call 101; exact Calls.quiet_of_same (HTQ.out _)))
                rename_i nq
                go_wp2_with fail
                go_roundw
                case rel => exact ⟨p + 1 + 1, by omega, by go_num, Hx, Lib.hid (below_drewN HB.out nq)⟩
                case measure => first | (simp [intOf]; done) | (simp [intOf]; omega)
              · have EQ := Lib.hid heq
                have Hn := Lib.hid (TF.out (by rw [HAh.out, em_some MK.out NB.out HX.out rfl, MV.out, htri.out, LS.out, EQ.out]; rfl))
                go_wp2_with fail
                go_quiet (first | (go_at_call 39; exact Calls.quiet_of_same (HNQ.out _)) | (go_at_call 101; exact Calls.quiet_of_same (HTQ.out _)))
                rename_i nq
                go_wp2_with fail
                go_ret
                exact ⟨ret_bool Hn.out, below_drewN BB.out nq⟩
            · have LS := Lib.hid hls
              have Hn := Lib.hid (TF.out (by rw [HAh.out, em_some MK.out NB.out HX.out rfl, MV.out, htri.out, LS.out]; rfl))
              go_wp2_with fail
              go_quiet (first | (go_at_call 39; exact Calls.quiet_of_same (HNQ.out _)) | (go_at_call 101; exact Calls.quiet_of_same (HTQ.out _)))
              rename_i nq
              go_wp2_with fail
              go_ret
              exact ⟨ret_bool Hn.out, below_drewN BB.out nq⟩
      · obtain rfl : k = T := by omega
        clear hkT
        go_wp2_with fail
        go_loopw [7] (fun i wr2 => ∃ q : Nat, k ≤ q ∧ q ≤ n ∧ i = .int .i64 q ∧ Hid (∀ j, j < q → elemB l 2 (aheadOf t.words t.kids j) (t.words.getD j ⟨#[]⟩) (t.kids.getD j 0) = true) ∧ Hid (∀ j, k ≤ j → j < q → markB (t.words.getD j ⟨#[]⟩) = true) ∧ Hid (Below wc.heap.size wc wr2)) (fun i _ => n - (intOf i).toNat)
        case atStart => exact ⟨k, Nat.le_refl _, t1, rfl, Hall, Lib.hid (fun j h1 h2 => by omega), HB⟩
        case round =>
          obtain ⟨q, hq0, hq, rfl, Hall, Hmk, HB⟩ := hrel
          have BB := Lib.hid (BW.out.trans (HB.out.mono BW.out.size))
          by_cases hkl : q < n
          · obtain ⟨b, o, rfl, hb, hc⟩ := (HT.out.words.below BB.out).cells (by rw [HN.out]; omega)
            obtain ⟨kb, kof, rfl, hkb, hkc⟩ := (HT.out.kids.below BB.out).cells (by rw [HM.out]; omega)
            have HC := Lib.hid hc
            have HKC := Lib.hid hkc
            have cx := hc q (by rw [HN.out]; exact hkl)
            have ck := hkc q (by rw [HM.out]; exact hkl)
            obtain ⟨g1, g2⟩ := HI.out _ (getD_mem (show q < t.kids.length by rw [HM.out]; exact hkl))
            rw [HL.out] at g2
            have hsz := HT.out.ok.ws _ (getD_memS (show q < t.words.length by rw [HN.out]; exact hkl))
            obtain ⟨u, hu⟩ : ∃ u, t.words.getD q ⟨#[]⟩ = u := ⟨_, rfl⟩
            obtain ⟨z, hz⟩ : ∃ z : Nat, t.kids.getD q 0 = (z : Int) := ⟨(t.kids.getD q 0).toNat, by omega⟩
            have HU := Lib.hid hu
            have HZ := Lib.hid hz
            rw [hu] at cx hsz
            rw [hz] at ck g2
            have hzl : z < L := by omega
            obtain ⟨ab, aof, rfl, hab, hac⟩ := (HA.out.below BB.out).cells (by rw [HL.out]; omega)
            obtain ⟨_, _, _, _, ca, -⟩ := hac z (by rw [HL.out]; exact hzl)
            obtain ⟨X, hX⟩ : ∃ X, (l[z]'(by rw [HL.out]; exact hzl)).kind = X := ⟨_, rfl⟩
            rw [hX] at ca
            have HX := Lib.hid (show kindAt l (z : Int) = X by rw [kindAt_eq (by rw [HL.out]; exact hzl)]; exact hX)
            have HAW := Lib.hid (HA.out.below BB.out)
            have TF : elemB l 2 (aheadOf t.words t.kids q) u (z : Int) = false → false = r := fun h => by
              rw [← HR2.out]
              exact (elems_bad (k := q) (by rw [HN.out]; exact hkl) (by rw [HU.out, HZ.out]; exact h)).symm
            have TT : elemB l 2 (aheadOf t.words t.kids q) u (z : Int) = true → ∀ j, j < q + 1 → elemB l 2 (aheadOf t.words t.kids j) (t.words.getD j ⟨#[]⟩) (t.kids.getD j 0) = true := fun h j hj => by
              rcases Nat.lt_or_eq_of_le (Nat.le_of_lt_succ hj) with h1 | h1
              · exact Hall.out j h1
              · subst h1; rw [HU.out, HZ.out]; exact h
            have TF := Lib.hid TF
            have TT := Lib.hid TT
            obtain ⟨-, -, x2, x3, x4⟩ := cell5 (K1.out.below HB.out)
            clear hu hz hc hkc hb hkb hab hac hX g1
            have HTQ0 : ∀ nn, Calls Tryz.prog 101 #[.slice (some ⟨ab, aof, none⟩) L ac, .int .i64 z] (wr.drewN nn) fun e w' => e = .returned (.bool (termB l (z : Int))) ∧ w' = wr.drewN nn := fun nn => by
              have := term_any l (some ⟨ab, aof, none⟩) ac z (wr.drewN nn) (HAW.out.below (below_drewN (Below.refl _ _) nn)) (by rw [HL.out]; exact hzl) (by rw [HL.out]; omega)
              rw [HL.out] at this
              exact this.mono fun _ _ h => ⟨h.1, h.2.symm⟩
            have HTQ := Lib.hid HTQ0
            have HTE := Lib.hid (term_eq HX.out)
            clear HTQ0
            cases hm1 : (u.toList == [61]) <;> cases hm2 : (u.toList == [126])
            · have MK := Lib.hid (show markB u = false from by unfold markB; rw [hm1, hm2]; rfl)
              by_cases h0 : q = k
              · exfalso
                have := (HT3.out (by omega)).1
                rw [← h0, HU.out, MK.out] at this
                cases this
              · obtain ⟨p, rfl⟩ : ∃ p, q = p + 1 := ⟨q - 1, by omega⟩
                have cy := HC.out p (by rw [HN.out]; omega)
                have cj := HKC.out p (by rw [HM.out]; omega)
                have hnum := HT.out.ok.ks _ (getD_mem (show p < t.kids.length by rw [HM.out]; omega))
                have hAh := ahead_succ (ws := t.words) (ks := t.kids) (p := p)
                obtain ⟨v, hv⟩ : ∃ v, t.words.getD p ⟨#[]⟩ = v := ⟨_, rfl⟩
                obtain ⟨j, hj⟩ : ∃ j, t.kids.getD p 0 = j := ⟨_, rfl⟩
                have HVE := Lib.hid hv
                rw [hv] at cy hAh
                rw [hj] at cj hAh hnum
                have HAh := Lib.hid hAh
                clear hv hj hAh
                have hpos : (0 : Int) < (p : Int) + 1 := by omega
                have hsub : (p : Int) + 1 - 1 = (p : Int) := by omega
                have hsubw : IntKind.i64.wrap ((p : Int) + 1 - 1) = (p : Int) := by rw [hsub]; exact IntWalk.i64_in _ (by omega)
                have MV := Lib.hid (show markB v = true from by rw [← HVE.out]; exact Hmk.out p (by omega) (by omega))
                have Hn := Lib.hid (TF.out (by rw [HAh.out]; exact em_after MK.out MV.out))
                go_wp2_with fail
                go_quiet (first | (go_at_call 39; exact Calls.quiet_of_same (HNQ.out _)) | (go_at_call 101; exact Calls.quiet_of_same (HTQ.out _)))
                rename_i nq
                go_wp2_with fail
                go_ret
                exact ⟨ret_bool Hn.out, below_drewN BB.out nq⟩
            · have MK := Lib.hid (show markB u = true from by unfold markB; rw [hm1, hm2]; rfl)
              have Hm2 := Lib.hid (show ∀ j, k ≤ j → j < q + 1 → markB (t.words.getD j ⟨#[]⟩) = true from fun j h1 h2 => by
                rcases Nat.lt_or_eq_of_le (Nat.le_of_lt_succ h2) with h3 | h3
                · exact Hmk.out j h1 h3
                · rw [h3, HU.out]; exact MK.out)
              cases htb : termB l (z : Int) <;> rw [htb] at HTQ HTE <;> have TB := Lib.hid htb <;> clear htb
              · have Hn := Lib.hid (TF.out (el_bad MK.out HX.out (by have := HTE.out; have := of_decide_eq_false this.symm; omega)))
                go_wp2_with fail
                go_quiet (first | (go_at_call 39; exact Calls.quiet_of_same (HNQ.out _)) | (go_at_call 101; exact Calls.quiet_of_same (HTQ.out _)))
                rename_i nq
                go_wp2_with fail
                go_ret
                exact ⟨ret_bool Hn.out, below_drewN BB.out nq⟩
              · have HD := Lib.hid (show ¬ ((2 : Int) < 2 ∨ X = 7 ∨ X = 9 ∨ (14 ≤ (z : Int) ∧ (z : Int) ≤ 19)) from by have := HTE.out; have := of_decide_eq_true this.symm; omega)
                by_cases h0 : q = k
                · subst h0
                  have HG := Lib.hid (show elemB l 2 (aheadOf t.words t.kids q) u (z : Int) = true from by
                    by_cases hz0 : q = 0
                    · subst hz0; exact el_none MK.out HX.out HD.out
                    · obtain ⟨p, rfl⟩ : ∃ p, q = p + 1 := ⟨q - 1, by omega⟩
                      rw [ahead_succ, el_some MK.out HX.out HD.out, HT2.out p (by omega)]; rfl)
                  have Hx := Lib.hid (TT.out (HG.out))
                  go_wp2_with fail
                  go_quiet (first | (go_at_call 39; exact Calls.quiet_of_same (HNQ.out _)) | (go_at_call 101; exact Calls.quiet_of_same (HTQ.out _)))
                  rename_i nq
                  go_wp2_with fail
                  go_roundw
                  case rel => exact ⟨q + 1, by omega, by omega, by go_num, Hx, Hm2, Lib.hid (below_drewN HB.out nq)⟩
                  case measure => first | (simp [intOf]; done) | (simp [intOf]; omega)
                · obtain ⟨p, rfl⟩ : ∃ p, q = p + 1 := ⟨q - 1, by omega⟩
                  have cy := HC.out p (by rw [HN.out]; omega)
                  have cj := HKC.out p (by rw [HM.out]; omega)
                  have hnum := HT.out.ok.ks _ (getD_mem (show p < t.kids.length by rw [HM.out]; omega))
                  have hAh := ahead_succ (ws := t.words) (ks := t.kids) (p := p)
                  obtain ⟨v, hv⟩ : ∃ v, t.words.getD p ⟨#[]⟩ = v := ⟨_, rfl⟩
                  obtain ⟨j, hj⟩ : ∃ j, t.kids.getD p 0 = j := ⟨_, rfl⟩
                  have HVE := Lib.hid hv
                  rw [hv] at cy hAh
                  rw [hj] at cj hAh hnum
                  have HAh := Lib.hid hAh
                  clear hv hj hAh
                  have hpos : (0 : Int) < (p : Int) + 1 := by omega
                  have hsub : (p : Int) + 1 - 1 = (p : Int) := by omega
                  have hsubw : IntKind.i64.wrap ((p : Int) + 1 - 1) = (p : Int) := by rw [hsub]; exact IntWalk.i64_in _ (by omega)
                  have MV := Lib.hid (show markB v = true from by rw [← HVE.out]; exact Hmk.out p (by omega) (by omega))
                  have hgt : decide (k < p + 1) = true := decide_eq_true (by omega)
                  have hgti : decide ((k : Int) < (p : Int) + 1) = true := decide_eq_true (by omega)
                  by_cases hkj : (z : Int) ≤ j
                  · have Hn := Lib.hid (TF.out (by rw [HAh.out, el_some MK.out HX.out HD.out, MV.out, decide_eq_true hkj]; rfl))
                    go_wp2_with fail
                    go_quiet (first | (go_at_call 39; exact Calls.quiet_of_same (HNQ.out _)) | (go_at_call 101; exact Calls.quiet_of_same (HTQ.out _)))
                    rename_i nq
                    go_wp2_with fail
                    go_ret
                    exact ⟨ret_bool Hn.out, below_drewN BB.out nq⟩
                  · have Hx := Lib.hid (TT.out (by rw [HAh.out, el_some MK.out HX.out HD.out, MV.out, decide_eq_false hkj]; rfl))
                    go_wp2_with fail
                    go_quiet (first | (go_at_call 39; exact Calls.quiet_of_same (HNQ.out _)) | (go_at_call 101; exact Calls.quiet_of_same (HTQ.out _)))
                    rename_i nq
                    go_wp2_with fail
                    go_roundw
                    case rel => exact ⟨p + 1 + 1, by omega, by omega, by go_num, Hx, Hm2, Lib.hid (below_drewN HB.out nq)⟩
                    case measure => first | (simp [intOf]; done) | (simp [intOf]; omega)
            · have MK := Lib.hid (show markB u = true from by unfold markB; rw [hm1, hm2]; rfl)
              have Hm2 := Lib.hid (show ∀ j, k ≤ j → j < q + 1 → markB (t.words.getD j ⟨#[]⟩) = true from fun j h1 h2 => by
                rcases Nat.lt_or_eq_of_le (Nat.le_of_lt_succ h2) with h3 | h3
                · exact Hmk.out j h1 h3
                · rw [h3, HU.out]; exact MK.out)
              cases htb : termB l (z : Int) <;> rw [htb] at HTQ HTE <;> have TB := Lib.hid htb <;> clear htb
              · have Hn := Lib.hid (TF.out (el_bad MK.out HX.out (by have := HTE.out; have := of_decide_eq_false this.symm; omega)))
                go_wp2_with fail
                go_quiet (first | (go_at_call 39; exact Calls.quiet_of_same (HNQ.out _)) | (go_at_call 101; exact Calls.quiet_of_same (HTQ.out _)))
                rename_i nq
                go_wp2_with fail
                go_ret
                exact ⟨ret_bool Hn.out, below_drewN BB.out nq⟩
              · have HD := Lib.hid (show ¬ ((2 : Int) < 2 ∨ X = 7 ∨ X = 9 ∨ (14 ≤ (z : Int) ∧ (z : Int) ≤ 19)) from by have := HTE.out; have := of_decide_eq_true this.symm; omega)
                by_cases h0 : q = k
                · subst h0
                  have HG := Lib.hid (show elemB l 2 (aheadOf t.words t.kids q) u (z : Int) = true from by
                    by_cases hz0 : q = 0
                    · subst hz0; exact el_none MK.out HX.out HD.out
                    · obtain ⟨p, rfl⟩ : ∃ p, q = p + 1 := ⟨q - 1, by omega⟩
                      rw [ahead_succ, el_some MK.out HX.out HD.out, HT2.out p (by omega)]; rfl)
                  have Hx := Lib.hid (TT.out (HG.out))
                  go_wp2_with fail
                  go_quiet (first | (go_at_call 39; exact Calls.quiet_of_same (HNQ.out _)) | (go_at_call 101; exact Calls.quiet_of_same (HTQ.out _)))
                  rename_i nq
                  go_wp2_with fail
                  go_roundw
                  case rel => exact ⟨q + 1, by omega, by omega, by go_num, Hx, Hm2, Lib.hid (below_drewN HB.out nq)⟩
                  case measure => first | (simp [intOf]; done) | (simp [intOf]; omega)
                · obtain ⟨p, rfl⟩ : ∃ p, q = p + 1 := ⟨q - 1, by omega⟩
                  have cy := HC.out p (by rw [HN.out]; omega)
                  have cj := HKC.out p (by rw [HM.out]; omega)
                  have hnum := HT.out.ok.ks _ (getD_mem (show p < t.kids.length by rw [HM.out]; omega))
                  have hAh := ahead_succ (ws := t.words) (ks := t.kids) (p := p)
                  obtain ⟨v, hv⟩ : ∃ v, t.words.getD p ⟨#[]⟩ = v := ⟨_, rfl⟩
                  obtain ⟨j, hj⟩ : ∃ j, t.kids.getD p 0 = j := ⟨_, rfl⟩
                  have HVE := Lib.hid hv
                  rw [hv] at cy hAh
                  rw [hj] at cj hAh hnum
                  have HAh := Lib.hid hAh
                  clear hv hj hAh
                  have hpos : (0 : Int) < (p : Int) + 1 := by omega
                  have hsub : (p : Int) + 1 - 1 = (p : Int) := by omega
                  have hsubw : IntKind.i64.wrap ((p : Int) + 1 - 1) = (p : Int) := by rw [hsub]; exact IntWalk.i64_in _ (by omega)
                  have MV := Lib.hid (show markB v = true from by rw [← HVE.out]; exact Hmk.out p (by omega) (by omega))
                  have hgt : decide (k < p + 1) = true := decide_eq_true (by omega)
                  have hgti : decide ((k : Int) < (p : Int) + 1) = true := decide_eq_true (by omega)
                  by_cases hkj : (z : Int) ≤ j
                  · have Hn := Lib.hid (TF.out (by rw [HAh.out, el_some MK.out HX.out HD.out, MV.out, decide_eq_true hkj]; rfl))
                    go_wp2_with fail
                    go_quiet (first | (go_at_call 39; exact Calls.quiet_of_same (HNQ.out _)) | (go_at_call 101; exact Calls.quiet_of_same (HTQ.out _)))
                    rename_i nq
                    go_wp2_with fail
                    go_ret
                    exact ⟨ret_bool Hn.out, below_drewN BB.out nq⟩
                  · have Hx := Lib.hid (TT.out (by rw [HAh.out, el_some MK.out HX.out HD.out, MV.out, decide_eq_false hkj]; rfl))
                    go_wp2_with fail
                    go_quiet (first | (go_at_call 39; exact Calls.quiet_of_same (HNQ.out _)) | (go_at_call 101; exact Calls.quiet_of_same (HTQ.out _)))
                    rename_i nq
                    go_wp2_with fail
                    go_roundw
                    case rel => exact ⟨p + 1 + 1, by omega, by omega, by go_num, Hx, Hm2, Lib.hid (below_drewN HB.out nq)⟩
                    case measure => first | (simp [intOf]; done) | (simp [intOf]; omega)
            · exfalso
              rw [beq_iff_eq] at hm1 hm2
              rw [hm1] at hm2
              cases hm2
          · obtain rfl : q = n := by omega
            have BE := Lib.hid (BW.out.trans (HB.out.mono BW.out.size))
            obtain ⟨-, -, x2, x3, x4⟩ := cell5 (K1.out.below HB.out)
            by_cases hc2 : 2 ≤ c
            · have Hn := Lib.hid (show true = r from by
                rw [← HR2.out]
                exact (elems_parts (fun j hj => Hall.out j (by rw [HN.out] at hj; exact hj)) (.inl hc2)).symm)
              go_wp2_with fail
              go_ret
              exact ⟨ret_bool Hn.out, BE.out⟩
            · by_cases hkq : k = q
              · have Hn := Lib.hid (show true = r from by
                  rw [← HR2.out]
                  exact (elems_parts (fun j hj => Hall.out j (by rw [HN.out] at hj; exact hj)) (.inr (fun j hj => HT2.out j (by rw [HN.out] at hj; omega)))).symm)
                subst hkq
                go_wp2_with fail
                go_ret
                exact ⟨ret_bool Hn.out, BE.out⟩
              · have Hn := Lib.hid (show false = r from by
                  rw [← HR2.out]
                  refine (elemsB_no (k := k) (by rw [HN.out]; omega) (el_few ?_ (by omega))).symm
                  exact (HT3.out (by omega)).1)
                have hq9 : ((k : Int) == (q : Int)) = false := by rw [beq_eq_false_iff_ne]; omega
                go_wp2_with fail
                go_ret
                exact ⟨ret_bool Hn.out, BE.out⟩
end Go.Proofs.YtkmnfkhchcoamaaGreatDoor

